import PyProof.Rows.All
import Wide.All
import OpenK.AllK
import Wide.FinOn
import HandS.ForMost
import HandS.Strs
import HandS.Sort
import HandS.SortInts
import HandS.IsInst
import HandS.Zip
import HandS.Deep
import HandS.TupLe
import HandS.TupAny
import HandS.Style
import HandS.Walk
import HandS.EndBits
import KE.SortData
import HandS.More
import HandS.Codes
import HandS.Set
import HandS.SetFor
import KE.DataCmp
import KE.DataEq
import HandS.ExcInit
import HandS.ExcField
import HandS.ExcOwn
import HandS.WordsExc
import KE.KExcIs
import HandS.HeadHook1
import HandS.Small
import PyProof.GenQ
import PyProof.CodeObjX
import PyProof.ConsumeS
import HandS.GenOver
import HandS.AnyAll
import KE.KNest
import HandS.Defaults
import HandS.HeadHook2
import HandS.HeadHook3
import HandS.HeadHook4
import KE.KNestM
import HandS.Wide
import HandS.SetIn
import HandS.SetKeys
import KE.GoesSet
import KE.GoesMore
import KE.GoesEnum
import HandS.HotCalls
import HandS.NoneIn
import KE.KDictPairs
import KE.KRevSl
import PyProof.ReprReads
import KE.KStateDown
import Lean
import HandS.Head0
import HandS.Head1
import HandS.Head2
import HandS.HeadEnd
import PySem.Challenge.RW_pressnotes_k12_bundlings_by_kind_and_sta
set_option Elab.async false
set_option linter.all false
set_option maxRecDepth 100000
set_option maxHeartbeats 4000000
namespace Pn
open PySem PySem.Spec PyProof.Rows L2
/-! ### Rules of our own: text times int, sorted of data, repr of data -/
theorem op_repS {X : Cx} : OpR X (binaryOp .Mult) (fun x y H Q => ∃ (z : Str) (n : Int), x = .str z ∧ y = .int n ∧ MulOk z n ∧ Q (.str (Txt.mul z n)) H) := by
  intro pins s σ H x y v u Q I rx ry h
  obtain ⟨z, n, rfl, rfl, ok, q⟩ := h
  obtain ⟨t, rfl⟩ := rx
  obtain ⟨t2, rfl⟩ := ry
  exact SB.mul ok fun t3 k => ⟨.str _, H, I.tok _, ⟨_, rfl⟩, q⟩
section
variable {X : Cx} {pins : List (Addr × Obj)} {σ : L2.St} {H : Hp} {s : Shared}
theorem each_rel : ∀ {ys : List V} {ds : List PyData} {us : List Value}, DpAll X.K H ys ds → Vals ys us → PySem.W.EachIs (fun (v : Value) (b : V × PyData) => RelV b.1 v) us (ys.zip ds)
  | _, _, _, .nil, .nil => .nil
  | _, _, _, .cons _ d, .cons r t => .cons r (each_rel d t)
theorem each_reads (I : Inv X pins σ H s) : ∀ {ys : List V} {ds : List PyData} {us : List Value}, DpAll X.K H ys ds → Vals ys us →
    PySem.W.EachIs (fun (v : Value) (b : V × PyData) => ∃ as, Reads s.heap v b.2 as) us (ys.zip ds)
  | _, _, _, .nil, .nil => .nil
  | _, _, _, .cons d1 d, .cons r t => .cons (Dp.reads I _ _ _ d1 r) (each_reads I d t)
theorem zip_snd : ∀ {ys : List V} {ds : List PyData}, DpAll X.K H ys ds → (ys.zip ds).map Prod.snd = ds
  | _, _, .nil => rfl
  | _, _, .cons _ d => by rw [List.zip_cons_cons, List.map_cons, zip_snd d]
theorem zip_len : ∀ {ys : List V} {ds : List PyData}, DpAll X.K H ys ds → (ys.zip ds).length = ys.length
  | _, _, .nil => rfl
  | _, _, .cons _ d => by rw [List.zip_cons_cons, List.length_cons, List.length_cons, zip_len d]
theorem vals_each : ∀ {bs : List (V × PyData)} {out : List Value}, PySem.W.EachIs (fun (v : Value) (b : V × PyData) => RelV b.1 v) out bs → Vals (bs.map Prod.fst) out
  | _, _, .nil => .nil
  | _, _, .cons r t => .cons r (vals_each t)
end
/-- what sorted makes of the values ys that read as the data ds -/
def sortD (ys : List V) (ds : List PyData) : List V := ((ys.zip ds).mergeSort (PySem.W.dataLe false Prod.snd)).map Prod.fst
def rSortedD (K : PySem.W.Frag) : List V → Hp → VK → Prop := fun xs H Q => ∃ (a : Addr) (ys : List V) (ds : List PyData), xs = [.ref a] ∧ SqL K H a ys ∧ DpAll K H ys ds ∧
  PySem.W.AllAlike ds ∧ PySem.W.Sortable ds ∧ (∀ d ∈ ds, d.depth ≤ 60) ∧ ∀ p, H p = none → Q (.ref p) (upd H p (.lst (sortD ys ds)))
theorem cr_sortedD {X : Cx} {k : Nat} (hr : Room k X.A) : CallR X (.builtin "sorted") (rSortedD X.K) := by
  intro pins s σ H vs us Q I r h
  obtain ⟨a, ys, ds, rfl, hs, hd, h1, h2, h3, q⟩ := h
  obtain ⟨its, rv, hl, hz⟩ := I.list hs
  rw [Vals.ref1 r]
  have un := hr.un
  refine PySem.W.sorted_data (enc := Prod.snd) (R := fun (v : Value) (b : V × PyData) => RelV b.1 v) (bs := ys.zip ds) hl.isList (each_rel hd rv) (each_reads I hd rv) (by rw [zip_snd hd]; exact h1) (by rw [zip_snd hd]; exact h2) (by rw [zip_len hd]; exact hz)
    (fun b hb => ?_) (fun out ho he => ?_)
  · have z := h3 b.2 (by rw [← zip_snd hd]; exact List.mem_map.mpr ⟨b, hb, rfl⟩)
    omega
  · obtain ⟨ep, he'⟩ := PyProof.Rows.sortedAll_at s.heap its out.toArray
    have rv2 := vals_each he
    have hlen : (sortD ys ds).length ≤ sizeLine := by
      unfold sortD
      rw [List.length_map, List.length_mergeSort, zip_len hd]
      exact hz
    exact ⟨.ref _, upd H (s.heap.objs.size + 1) (.lst (sortD ys ds)), I.laid (t' := s.toks) (fun _ _ => PyProof.Rows.sortedAll_old) (Nat.le_succ _) ⟨hlen, out, ep, rv2, he'⟩, rfl, q _ (I.hok.fresh (Nat.le_succ _))⟩
def rRepr (K : PySem.W.Frag) : List V → Hp → VK → Prop := fun xs H Q => ∃ (a : Addr) (d : PyData), xs = [.ref a] ∧ Dp K H (.ref a) d ∧ d.showable = true ∧ d.hasDict = false ∧ d.depth ≤ 60 ∧ d.shown.length ≤ sizeLine ∧ Q (.str d.shown) H
theorem cr_repr {X : Cx} {k : Nat} (hg : X.A.guards = some []) (hr : Room k X.A) : CallR X (.builtin "repr") (rRepr X.K) := by
  intro pins s σ H vs us Q I r h
  obtain ⟨a, d, rfl, hd, h1, h2, h3, h4, q⟩ := h
  rw [Vals.ref1 r]
  have un := hr.un
  obtain ⟨as, rd⟩ := Dp.reads I d _ _ hd rfl
  exact repr_of_reads' rd h1 (PyData.noDict_hsm h2) hg (by omega) (fun _ _ e => e) (fun h' u tk hk => ⟨.str _, H, I.kept hk, ⟨u, rfl⟩, q⟩) h4
/-- a walk over a range within a comprehension of two fors -/
theorem rng_w {lo : Int} {n : Nat} {H0 : Hp} {B : V → Hp → (Hp → Prop) → Prop} {Qd : Hp → Prop} (Pv : Nat → Hp → Prop) (h0 : Pv 0 H0)
    (hs : ∀ i H, i < n → Pv i H → B (.int (lo + i)) H (Pv (i + 1))) (hd : ∀ H, Pv n H → Qd H) :
    ∃ W : Nat → Nat → Hp → Prop, (∃ m, W 0 m H0) ∧ ∀ i m H, W i m H → ((Itr lo n).stop i H ∧ Qd H) ∨
      ((Itr lo n).go i H ∧ ∃ Nx : Hp → Prop, (∀ H', Nx H' → ∃ m', m' < m ∧ W (i + 1) m' H') ∧ ∀ x H', (Itr lo n).yld i H x H' → B x H' Nx) := by
  refine ⟨fun i m H => m + i = n ∧ Pv i H, ⟨n, rfl, h0⟩, ?_⟩
  rintro i m H ⟨e, p⟩
  by_cases c : i < n
  · refine Or.inr ⟨c, Pv (i + 1), fun H' p' => ⟨m - 1, by omega, by omega, p'⟩, fun x H' y => ?_⟩
    obtain ⟨rfl, rfl⟩ := y
    exact hs i _ c p
  · have z : i = n := by omega
    subst z
    exact Or.inl ⟨Nat.le_refl _, hd H p⟩
/-! a tuple that is known to have no dict (so that its methods can be called) -/
def Tpl (o : Obj) : Prop := o.cls = .type "tuple" ∧ o.dict = none
def tTupF (t : TA) : TE := fun σ H Q => t σ H fun xs H1 => xs.length ≤ sizeLine ∧ ∀ p o, H1 p = none → Tpl o → Q (.ref p) (upd H1 p (.frz o (.tup xs)))
theorem pe_tupF {X : Cx} {es : List Expr} {t : TA} {pos : Pos} {x1} (h : PA X es t) : PE X (.Tuple es x1 pos) (tTupF t) := by
  constructor
  intro pins s σ H Q I hq
  refine wpAny_Tuple_spliced (thn (h.run pos pins s σ H _ I hq) ?_)
  rintro us s1 ⟨xs, H1, I1, r, z, q⟩
  refine ⟨by rw [← r.length]; exact z, ?_⟩
  have new : (s1.heap.push { cls := .type "tuple", data := .seq us.toArray }).get? s1.heap.objs.size = some { cls := .type "tuple", data := .seq us.toArray } := Heap.get?_push_size _ rfl
  exact ⟨.ref s1.heap.objs.size, upd H1 _ (.frz { cls := .type "tuple", data := .seq us.toArray } (.tup xs)), I1.laid (t' := s1.toks) (fun _ _ e => Heap.get?_push_of_some _ e) (Nat.le_refl _) ⟨new, z, us, r, _, new, rfl, _, rfl⟩, rfl,
    q _ _ (I1.hok.fresh (Nat.le_refl _)) ⟨rfl, rfl⟩⟩
def tBMF (r : V → List V → Hp → VK → Prop) (to : TE) (t : TA) : TE := fun σ H Q => to σ H fun x H1 => (∃ p o u, x = .ref p ∧ H1 p = some (.frz o u) ∧ Tpl o) ∧ t σ H1 fun xs H2 => r x xs H2 Q
theorem pe_bmF {X : Cx} {o e : Expr} {es : List Expr} {to : TE} {t : TA} {name : Str} {apos cpos : Pos} {id : String} {r : V → List V → Hp → VK → Prop}
    (pa : PlainAttrs "tuple") (slot : Slot "tuple" name id) (hty : typeOf (.builtin id) = pure (.type "method_descriptor")) (hm : MtR X id r) (ho : PE X o to) (ha : PA X (e :: es) t)
    (hb : attributeBase o name X.env (eval o X.env) = eval o X.env := by rfl)
    (hf : ((backTo cpos (starEach (e :: es) X.env)).all (fun x => !x.1) && (backToKw cpos (keywordEach [] X.env)).all (fun x => x.1.isSome) && decide ((e :: es).length + ([] : List Keyword).length + (if ([] : List Keyword).isEmpty then 0 else 1) < 30)) = true := by rfl)
    (hl : (apos.endLine == cpos.line) = true := by rfl) (hs : starEach (e :: es) X.env = (false, eval e X.env) :: starEach es X.env := by rfl) (hp : (backTo cpos (starEach es X.env)).any (·.1) = false := by rfl) :
    PE X (.Call (.Attribute o name apos) (e :: es) [] cpos) (tBMF r to t) := by
  constructor
  intro pins s σ H Q I h
  refine wpAny_Call_method_late hb hf hl rfl (thn (ho.run pins s σ H _ I h) ?_)
  rintro v s1 ⟨x, H1, I1, r1, ⟨p, ob, u, rfl, hfz, hc, hd⟩, q1⟩
  obtain rfl : v = .ref p := r1
  obtain ⟨at1, _⟩ := I1.hok p _ hfz
  refine ⟨"tuple", id, pa, slot, hty, ⟨ob, at1, hc⟩, fun a e => by cases e; exact ⟨ob, at1, hd⟩, ?_⟩
  have run := ha.run cpos pins s1 σ H1 _ I1 q1
  rw [hs] at run ⊢
  refine Calls.callWith_builtin (by show (false || (backTo cpos (starEach es X.env)).any (·.1)) = false; rw [hp]; rfl) (Calls.evalArgs_plain ?_)
  exact thn run fun us s2 ⟨vs, H2, I2, r2, q2⟩ => hm pins s2 σ H2 (.ref p) vs (.ref p) us Q I2 rfl r2 q2
/-! ### A def that is run where no repr is under way, and a law's end over it -/
structure FnG (P : Program) (w : World) (K : PySem.W.Frag) (mg : Str → Option Value) (base : Heap) (k : Nat) (f : Addr)
    (fd : FuncData) (ps : List Str) (sp : Sp) : Prop where
  len : ∀ vs H Q E, sp vs H Q E → vs.length = ps.length
  run : ∀ (A : Around) (outer : List Env) (s : Shared) (H : Hp) (args : Args) (us : List Value) (vs : List V) (Q : VK) (E : XK),
    Room k A → A.guards = some [] → Env0 P w K mg base A outer s H → BindsTo s fd args (ps.zip us) → Vals vs us → sp vs H Q E →
    codeAny (model P w) A (.call (.ref f) args) (CR CX0 outer P w H s Q E) s
section
variable {P : Program} {w : World} {K : PySem.W.Frag} {mg : Str → Option Value} {base : Heap}
/-- a body's walk, told that no repr is under way -/
theorem okG {x qual : Str} {st : Stmt} {f : Addr} {fd : FuncData} {N ps : List Str} {k : Nat} {sp : Sp}
    (F : Fun K x qual st f fd) (S : FnScope N ps (defScope st)) (hlen : ∀ vs H Q E, sp vs H Q E → vs.length = ps.length)
    (hb : ∀ (cdv : Value) (A : Around) (outer : List Env) (s : Shared) (H : Hp) (vs : List V) (Q : VK) (E : XK),
      Room k (A.deeper (envOfC qual (defScope st) s.heap.objs.size f cdv)) → (A.deeper (envOfC qual (defScope st) s.heap.objs.size f cdv)).guards = some [] →
      sp vs H Q E → ∃ t, PSs (cxOf CX0 P w K mg base N qual (defScope st) f cdv A outer s H E).nox (defBody st) t ∧
        t { nx := fun _ H' => Q .non H', rt := Q } (start N vs) H) : FnG P w K mg base (k + 1) f fd ps sp := by
  obtain ⟨oc, od, kV, doc, pm, an, cdv, ct, osl, rfl, lk, hcd⟩ := F.ex
  refine ⟨hlen, fun A outer s H args us vs Q E room gu e0 bind rel wish => ?_⟩
  have lv := hlen _ _ _ _ wish
  have old : ∀ b o, base.get? b = some o → s.heap.get? b = some o := fun b o e => (e0.bs b o e).1
  have inK : K.In s.heap := e0.mod.kin.keeps old
  refine codeAny_call_function room.depth (inK _ _ lk) rfl S.co S.gen rfl (PySem.W.codeRec_of inK hcd) (bind _ _ _ _ ?_)
  refine wpAny_newFunctionEnv_cells S.kind (fun y hy => ?_) fun env ee s1 x1 => ?_
  · obtain ⟨n, v⟩ := y
    cases S.par n (List.of_mem_zip hy).1 with
    | inl q => exact Or.inl q
    | inr q => exact Or.inr ⟨q, PySem.W.cellsFrom_some _ _ _ (Or.inl q)⟩
  subst ee
  refine ⟨(e0.mod.nolimit.keeps old).keeps x1.toInCall.keep, codeAny_func ?_⟩
  obtain ⟨t, ht, hq⟩ := hb cdv A outer s H vs Q E (room.deeper _) gu wish
  have I0 := inv_start (CX := CX0) (E := E) S room.hd e0 lv rel x1
  refine wpAny_mono (ht.nox.run [] s1 (start N vs) H _ I0 hq) (fun fl s2 hs => ?_) fun _ _ z => z
  cases fl with
  | ret u =>
    obtain ⟨v, σ2, H2, J, rv, q⟩ := hs
    exact ⟨v, H2, J.os, J.bare, J.base, J.hok, rv, q⟩
  | next =>
    obtain ⟨σ2, H2, J, q⟩ := hs
    exact ⟨.non, H2, J.os, J.bare, J.base, J.hok, rfl, q⟩
  | brk => exact hs.choose_spec.choose_spec.2.elim
  | cont => exact hs.choose_spec.choose_spec.2.elim
end
section
variable {P : Program} {w : World} {K : PySem.W.Frag} {mg mb : Str → Option Value} {k : Nat} {fa a : Addr} {fd : FuncData} {x : Str} {sp : Sp} {s1 : Shared} {vs : List Value} {ns : List Int}
/-- what the caller is told of the law's call -/
def Told (s1 : Shared) (r : Result) (s' : Shared) : Prop := r = .ok (.ret (.bool true)) ∧ OldK s1.heap s'.heap ∧ s'.os = s1.os ∧ AllBare s'.gens
theorem told_from (H : Hp) (kin : K.In s1.heap) (glob : s1.heap.Ns mainGlobals mg) (blt : s1.heap.Ns builtinsNs mb) (same : ∀ y : Str, y ≠ "__name__" → mb y = bootBuiltins y) (lim : s1.heap.NoLimit) (bare : s1.gens = #[])
    (obj : s1.heap.get? a = some { cls := .type "list", data := .seq vs.toArray }) (room : Room k callerA)
    (F : ∀ base : Heap, K.In base → base.Ns mainGlobals mg → FnG P w K mg base k fa fd [x] sp) (bind : ∀ (s : Shared) (u : Value), BindsTo s fd ⟨[u], []⟩ [(x, u)])
    (only : Only H) (wish : sp [.ref a] H (fun v _ => v = .bl true) fun _ _ _ => False) (hok : HOk P w H s1.heap) (self : ∀ b u, H b = some u → b = a ∧ K.lookup a = none) :
    codeAny (model P w) callerA (.call (.ref fa) ⟨[.ref a], []⟩) (Told s1) s1 := by
  have free : ∀ b, (b ≠ a ∨ K.lookup a ≠ none) → H b = none := fun b hb => by
    cases e : H b with
    | none => rfl
    | some u =>
      obtain ⟨e1, e2⟩ := self b u e
      cases hb with
      | inl n => exact absurd e1 n
      | inr n => exact absurd e2 n
  have nsB : ∀ {b : Addr} {m : Str → Option Value}, s1.heap.Ns b m → (hidT s1.heap H).Ns b m := by
    rintro b m ⟨o, es, ep, e, d, r⟩
    refine ⟨o, es, ep, hidT_get e (free b (Or.inl fun z => ?_)), d, r⟩
    subst z
    rw [obj] at e
    cases e
    exact nomatch d
  have kinB : K.In (hidT s1.heap H) := fun b o e => by
    refine hidT_get (kin b o e) ?_
    by_cases z : b = a
    · subst z
      exact free b (Or.inr (by rw [e]; exact fun q => nomatch q))
    · exact free b (Or.inl z)
  have limB : (hidT s1.heap H).NoLimit := by
    obtain ⟨mc, h1, h2⟩ := lim
    exact ⟨mc, nsB h1, h2⟩
  have env : Env0 P w K mg (hidT s1.heap H) callerA [] s1 H :=
    { frames := rfl, mod := ⟨kinB, nsB glob, ⟨mb, nsB blt, same⟩, limB⟩, bs := fun _ _ e => of_hidT e, bsz := Nat.le_of_eq (hidT_size _ _), funs := trivial,
      frf := fun b z => (List.not_mem_nil (show b ∈ ([] : List Addr) from z)).elim, hok := hok, bare := .of_eq bare }
  refine codeAny_mono ((F _ kinB (nsB glob)).run callerA [] s1 H ⟨[.ref a], []⟩ [.ref a] [.ref a] _ _ room rfl env (bind s1 _) (.cons rfl .nil) wish) ?_
  rintro (e | fl) s2 h
  · exact (show False from h).elim
  · cases fl with
    | ret u =>
      obtain ⟨v, H2, os2, bare2, un, hok2, rel, q⟩ := h
      have q : v = V.bl true := q
      subst q
      obtain rfl : u = Value.bool true := rel
      refine ⟨rfl, OldK.of_keep fun b o e => ?_, os2, bare2⟩
      cases z : H b with
      | none => exact un.keep b o e z (fun y => List.not_mem_nil (show b ∈ ([] : List Addr) from y)) List.not_mem_nil
      | some u =>
        obtain y | ⟨ob, xs, y⟩ := only b
        · rw [z] at y
          cases y
        · obtain ⟨g1, _⟩ := hok b _ y
          obtain ⟨g2, _⟩ := hok2 b _ (un.frzs b ob _ y)
          rw [e] at g1
          cases g1
          exact g2
    | next => exact h.elim
    | brk => exact h.elim
    | cont => exact h.elim
theorem told_law (kin : K.In s1.heap) (glob : s1.heap.Ns mainGlobals mg) (blt : s1.heap.Ns builtinsNs mb) (same : ∀ y : Str, y ≠ "__name__" → mb y = bootBuiltins y) (lim : s1.heap.NoLimit) (bare : s1.gens = #[])
    (obj : s1.heap.get? a = some { cls := .type "list", data := .seq vs.toArray }) (are : IntsAre vs ns) (long : ns.length ≤ sizeLine) (room : Room k callerA)
    (F : ∀ base : Heap, K.In base → base.Ns mainGlobals mg → FnG P w K mg base k fa fd [x] sp) (bind : ∀ (s : Shared) (u : Value), BindsTo s fd ⟨[u], []⟩ [(x, u)])
    (wish : ∀ H : Hp, SqL K H a (ns.map V.int) → sp [.ref a] H (fun v _ => v = .bl true) fun _ _ _ => False) :
    codeAny (model P w) callerA (.call (.ref fa) ⟨[.ref a], []⟩) (Told s1) s1 := by
  have rv := vals_ints are
  have nl := are.length
  cases hk : K.lookup a with
  | some o =>
    have e := kin a o hk
    rw [obj] at e
    cases e
    have sq : SqL K (fun _ => none) a (ns.map V.int) := Or.inr ⟨_, vs.toArray, _, hk, rfl, rfl, rfl, by rw [List.size_toArray, nl]; exact long, by simpa using rv⟩
    exact told_from (fun _ => none) kin glob blt same lim bare obj room F bind (fun _ => Or.inl rfl) (wish _ sq) (fun _ _ z => nomatch z) fun _ _ z => nomatch z
  | none =>
    have h1 : upd (fun _ => none) a (.frz { cls := .type "list", data := .seq vs.toArray } (.lst (ns.map V.int))) a = some (.frz { cls := .type "list", data := .seq vs.toArray } (.lst (ns.map V.int))) := upd_same
    have at_ : ∀ b u, upd (fun _ => none) a (.frz { cls := .type "list", data := .seq vs.toArray } (.lst (ns.map V.int))) b = some u → b = a ∧ u = .frz { cls := .type "list", data := .seq vs.toArray } (.lst (ns.map V.int)) := fun b u z => by
      by_cases e : b = a
      · subst e
        rw [h1] at z
        exact ⟨rfl, (Option.some.inj z).symm⟩
      · rw [upd_ne e] at z
        exact nomatch z
    refine told_from _ kin glob blt same lim bare obj room F bind (fun b => ?_) (wish _ (Or.inl (Or.inr ⟨_, h1⟩))) (fun b u z => ?_) fun b u z => ⟨(at_ b u z).1, hk⟩
    · by_cases e : b = a
      · rw [e, h1]
        exact Or.inr ⟨_, _, rfl⟩
      · exact Or.inl (upd_ne e)
    · obtain ⟨e1, e2⟩ := at_ b u z
      subst e1
      subst e2
      exact ⟨obj, by rw [List.length_map]; exact long, vs, _, rv, obj⟩
end
/-- a law's end, its def told that no repr is under way -/
theorem walkG {l : PySem.W.OpenLaw} {n k : Nat} {q : Program} {loose : List Str} {XP : (Str → Option Value) → Heap → Prop} {YP : World → Heap → Prop} {d : DefRec} {x : Str} {sp : PySem.W.Frag → Sp}
    (hn : l.most = some n) (hn2 : n ≤ sizeLine) (hdf : d.params.defaults = []) (hr : Room k callerA)
    (F : ∀ (w : World) (mg : Str → Option Value) (fa : Addr) (h : Heap), YP w h → h.Ns mainGlobals mg → mg d.name = some (.ref fa) →
      ∃ (K : PySem.W.Frag) (fd : FuncData), K.In h ∧ (∀ (s : Shared) (u : Value), BindsTo s fd ⟨[u], []⟩ [(x, u)]) ∧
        ∀ base : Heap, K.In base → base.Ns mainGlobals mg → FnG l.prog w K mg base k fa fd [x] (sp K))
    (hsp : ∀ (K : PySem.W.Frag) (H : Hp) (a : Addr) (ns : List Int), ns.length ≤ n → SqL K H a (ns.map V.int) → sp K [.ref a] H (fun v _ => v = .bl true) fun _ _ _ => False) :
    PySem.W.WalkO q loose XP YP l.row.toRowW d [] (fun f vs => PySem.call f vs) := by
  refine Att.attach_call hn hdf fun w s0 s1 mg mb fa o pm cd doc a vs ns G Y ho hd hcd hmg hobj hints hlen hg => ?_
  obtain ⟨K, fd, kin, hb, hF⟩ := F w mg fa _ Y G.T.g hmg
  exact told_law kin G.T.g G.T.b G.T.builtins G.T.nolimit hg hobj hints (Nat.le_trans hlen hn2) hr hF hb fun H sq => hsp K H a ns hlen sq

theorem mod_lo (x y : Int) (h : 0 < y) : 0 ≤ x.fmod y := Int.fmod_nonneg_of_pos _ h
theorem mod_hi (x y : Int) (h : 0 < y) : x.fmod y < y := Int.fmod_lt_of_pos _ h
/-- the feed at f: its cells, a counter of at most n, what is left of a great number -/
def Fd (H : Hp) (f c : Addr) (n : Int) : Prop := ∃ (cells : List Int) (at_ g : Int),
  H f = some (.lst [.ref c, .int at_, .int g]) ∧ H c = some (.lst (cells.map V.int)) ∧ cells.length ≤ 63 ∧ 0 ≤ at_ ∧ at_ ≤ n
theorem fd_ne {H : Hp} {f c : Addr} {cells : List Int} {a g : Int} (hf : H f = some (.lst [.ref c, .int a, .int g])) (hc : H c = some (.lst (cells.map V.int))) : c ≠ f := by
  refine ne_of hc hf fun z => ?_
  have z := HO.lst.inj z
  cases cells with
  | nil => cases z
  | cons x r => rw [List.map_cons] at z; cases z
theorem at_mod {cells : List Int} (a : Int) (h : 0 < cells.length) : ∃ v, atI (cells.map V.int) (a.fmod (((cells.map V.int).length : Nat) : Int)) = some (.int v) := by
  have hp : (0 : Int) < (((cells.map V.int).length : Nat) : Int) := by rw [List.length_map]; omega
  have h1 := mod_lo a _ hp
  have h2 := mod_hi a _ hp
  rw [List.length_map] at h1 h2 ⊢
  obtain ⟨k, hk⟩ : ∃ k : Nat, a.fmod ((cells.length : Nat) : Int) = (k : Int) := ⟨(a.fmod ((cells.length : Nat) : Int)).toNat, by omega⟩
  rw [hk] at h2 ⊢
  have hk2 : k < cells.length := by omega
  exact ⟨cells[k], atI_nat (by rw [List.getElem?_map, List.getElem?_eq_getElem hk2] <;> rfl)⟩
/-- what drawing leaves: all but the feed as it was -/
def But (f : Addr) (H H' : Hp) : Prop := ∀ a o, a ≠ f → H a = some o → H' a = some o
theorem But.refl (f : Addr) (H : Hp) : But f H H := fun _ _ _ h => h
theorem But.trans {f : Addr} {H H1 H2 : Hp} (a : But f H H1) (b : But f H1 H2) : But f H H2 := fun x o n h => b x o n (a x o n h)
theorem But.of_same {f : Addr} {H H' : Hp} (s : Same H H') : But f H H' := fun a o _ h => s a o h
theorem But.new {f : Addr} {H : Hp} {p : Addr} {o : HO} (h : H p = none) : But f H (upd H p o) := fun a u _ e => by
  rw [upd_ne (ne_of_none e h)]; exact e
theorem same_new {H : Hp} {p : Addr} (h : H p = none) (o : HO) : Same H (upd H p o) := fun b u q => by rw [upd_ne (ne_of_none q h)]; exact q
theorem But.feed {f : Addr} {H : Hp} {o : HO} : But f H (upd H f o) := fun a u n e => (upd_ne n).trans e
theorem Fd.mono {H : Hp} {f c : Addr} {n m : Int} (h : Fd H f c n) (l : n ≤ m) : Fd H f c m := by
  obtain ⟨cells, a, g, h1, h2, h3, h4, h5⟩ := h
  exact ⟨cells, a, g, h1, h2, h3, h4, by omega⟩
theorem Fd.same {H H' : Hp} {f c : Addr} {n : Int} (h : Fd H f c n) (s : Same H H') : Fd H' f c n := by
  obtain ⟨cells, a, g, h1, h2, h3⟩ := h
  exact ⟨cells, a, g, s _ _ h1, s _ _ h2, h3⟩
theorem Fd.new {H : Hp} {f c p : Addr} {n : Int} {o : HO} (h : Fd H f c n) (hp : H p = none) : Fd (upd H p o) f c n := h.same (same_new hp o)
theorem Fd.at {H : Hp} {f c : Addr} {n : Int} (h : Fd H f c n) : ∃ xs, H f = some (.lst xs) := by
  obtain ⟨cells, a, g, h1, _⟩ := h
  exact ⟨_, h1⟩
theorem Fd.cell {H : Hp} {f c : Addr} {n : Int} (h : Fd H f c n) : ∃ xs, H c = some (.lst xs) := by
  obtain ⟨cells, a, g, h1, h2, _⟩ := h
  exact ⟨_, h2⟩
theorem Fd.ne {H : Hp} {f c l : Addr} {n : Int} (h : Fd H f c n) (hl : H l = none) : l ≠ f ∧ l ≠ c := by
  obtain ⟨xs, h1⟩ := h.at
  obtain ⟨ys, h2⟩ := h.cell
  exact ⟨Ne.symm (ne_of_none h1 hl), Ne.symm (ne_of_none h2 hl)⟩
theorem Fd.upd {H : Hp} {f c l : Addr} {n : Int} {o : HO} (h : Fd H f c n) (e : l ≠ f ∧ l ≠ c) : Fd (upd H l o) f c n := by
  obtain ⟨cells, a, g, h1, h2, h3⟩ := h
  exact ⟨cells, a, g, (upd_ne (Ne.symm e.1)).trans h1, (upd_ne (Ne.symm e.2)).trans h2, h3⟩
theorem But.mut {f : Addr} {H H' : Hp} {l : Addr} {o : HO} (b : But f H H') (hl : H l = none) : But f H (upd H' l o) := fun a u n e => by
  rw [upd_ne (ne_of_none e hl)]
  exact b a u n e
theorem But.back {f c : Addr} {H H' : Hp} {t : Addr} {n : Int} (b : But f H H') (hf : Fd H' f c n) (ht : H' t = none) : H t = none := by
  cases e : H t with
  | none => rfl
  | some o =>
    have ne : t ≠ f := (hf.ne ht).1
    rw [b t o ne e] at ht
    cases ht
theorem same_mut {H H' : Hp} {l : Addr} {o : HO} (s : Same H H') (hl : H l = none) : Same H (upd H' l o) := fun b u q => by
  rw [upd_ne (ne_of_none q hl)]
  exact s _ _ q
theorem cut_take (xs : List V) (n : Nat) : cutV xs none (some (n : Int)) = xs.take n := by
  unfold cutV
  rw [HT.sIx_nat, HT.sIx_none, List.drop_zero, Nat.sub_zero]
  rw [List.take_eq_take_iff]
  omega
theorem free_of {H : Hp} {a b : Addr} {o : HO} (h : upd H a o b = none) : H b = none := by
  by_cases e : b = a
  · subst e
    rw [upd_same] at h
    cases h
  · rw [upd_ne e] at h
    exact h
def spDraw : Sp := fun vs H Q _ => ∃ (f c : Addr) (m n : Int), vs = [.ref f, .int m] ∧ Fd H f c n ∧ n ≤ 1000000 ∧ 0 < m ∧ m ≤ 1000000000 ∧
  ∀ (d : Int) (H' : Hp), 0 ≤ d → d < m → Fd H' f c (n + 1) → But f H H' → (∀ a, H a = none → H' a = none) → Q (.int d) H'
def spFeed (K : PySem.W.Frag) : Sp := fun vs H Q _ => ∃ (a : Addr) (ns : List Int), vs = [.ref a] ∧ SqL K H a (ns.map V.int) ∧
  ∀ (f c : Addr) (H' : Hp), H f = none → Same H H' → Fd H' f c 0 → Q (.ref f) H'
/-! ### Data that is alike -/
def flatD : PyData → Bool
  | .none => true
  | .bool _ => true
  | .int _ => true
  | .str _ => true
  | _ => false
/-- data of at most n lists or tuples within one another, none of more than 100,000 -/
def Nice : Nat → PyData → Prop
  | 0, d => flatD d = true
  | n + 1, d => flatD d = true ∨ ∃ ds, (d = .list ds ∨ d = .tuple ds) ∧ ds.length ≤ 100000 ∧ ∀ e ∈ ds, Nice n e
theorem Nice.flat {n : Nat} {d : PyData} (h : flatD d = true) : Nice n d := by
  cases n with
  | zero => exact h
  | succ n => exact Or.inl h
theorem kit2 {K : PySem.W.Frag} {t c1 c2 : Value} {b1 b2 : Bool} (h1 : PySem.W.kitOne K t c1 = some b1) (h2 : PySem.W.kitOne K t c2 = some b2) : PySem.W.kitAny K t [c1, c2] = some (b1 || b2) := by
  unfold PySem.W.kitAny PySem.W.kitAny PySem.W.kitAny
  rw [h1, h2]
  cases b1 <;> cases b2 <;> rfl
theorem k_NoneType_tuple {K : PySem.W.Frag} : PySem.W.kitOne K (.type "NoneType") (.type "tuple") = some false := kit_ty (by decide +kernel)
theorem k_NoneType_list {K : PySem.W.Frag} : PySem.W.kitOne K (.type "NoneType") (.type "list") = some false := kit_ty (by decide +kernel)
theorem k_NoneType_bool {K : PySem.W.Frag} : PySem.W.kitOne K (.type "NoneType") (.type "bool") = some false := kit_ty (by decide +kernel)
theorem k_NoneType_str {K : PySem.W.Frag} : PySem.W.kitOne K (.type "NoneType") (.type "str") = some false := kit_ty (by decide +kernel)
theorem k_NoneType_int {K : PySem.W.Frag} : PySem.W.kitOne K (.type "NoneType") (.type "int") = some false := kit_ty (by decide +kernel)
theorem k_bool_tuple {K : PySem.W.Frag} : PySem.W.kitOne K (.type "bool") (.type "tuple") = some false := kit_ty (by decide +kernel)
theorem k_bool_list {K : PySem.W.Frag} : PySem.W.kitOne K (.type "bool") (.type "list") = some false := kit_ty (by decide +kernel)
theorem k_bool_bool {K : PySem.W.Frag} : PySem.W.kitOne K (.type "bool") (.type "bool") = some true := kit_ty (by decide +kernel)
theorem k_bool_str {K : PySem.W.Frag} : PySem.W.kitOne K (.type "bool") (.type "str") = some false := kit_ty (by decide +kernel)
theorem k_bool_int {K : PySem.W.Frag} : PySem.W.kitOne K (.type "bool") (.type "int") = some true := kit_ty (by decide +kernel)
theorem k_int_tuple {K : PySem.W.Frag} : PySem.W.kitOne K (.type "int") (.type "tuple") = some false := kit_ty (by decide +kernel)
theorem k_int_list {K : PySem.W.Frag} : PySem.W.kitOne K (.type "int") (.type "list") = some false := kit_ty (by decide +kernel)
theorem k_int_bool {K : PySem.W.Frag} : PySem.W.kitOne K (.type "int") (.type "bool") = some false := kit_ty (by decide +kernel)
theorem k_int_str {K : PySem.W.Frag} : PySem.W.kitOne K (.type "int") (.type "str") = some false := kit_ty (by decide +kernel)
theorem k_int_int {K : PySem.W.Frag} : PySem.W.kitOne K (.type "int") (.type "int") = some true := kit_ty (by decide +kernel)
theorem k_str_tuple {K : PySem.W.Frag} : PySem.W.kitOne K (.type "str") (.type "tuple") = some false := kit_ty (by decide +kernel)
theorem k_str_list {K : PySem.W.Frag} : PySem.W.kitOne K (.type "str") (.type "list") = some false := kit_ty (by decide +kernel)
theorem k_str_bool {K : PySem.W.Frag} : PySem.W.kitOne K (.type "str") (.type "bool") = some false := kit_ty (by decide +kernel)
theorem k_str_str {K : PySem.W.Frag} : PySem.W.kitOne K (.type "str") (.type "str") = some true := kit_ty (by decide +kernel)
theorem k_str_int {K : PySem.W.Frag} : PySem.W.kitOne K (.type "str") (.type "int") = some false := kit_ty (by decide +kernel)
theorem k_list_tuple {K : PySem.W.Frag} : PySem.W.kitOne K (.type "list") (.type "tuple") = some false := kit_ty (by decide +kernel)
theorem k_list_list {K : PySem.W.Frag} : PySem.W.kitOne K (.type "list") (.type "list") = some true := kit_ty (by decide +kernel)
theorem k_list_bool {K : PySem.W.Frag} : PySem.W.kitOne K (.type "list") (.type "bool") = some false := kit_ty (by decide +kernel)
theorem k_list_str {K : PySem.W.Frag} : PySem.W.kitOne K (.type "list") (.type "str") = some false := kit_ty (by decide +kernel)
theorem k_list_int {K : PySem.W.Frag} : PySem.W.kitOne K (.type "list") (.type "int") = some false := kit_ty (by decide +kernel)
theorem k_tuple_tuple {K : PySem.W.Frag} : PySem.W.kitOne K (.type "tuple") (.type "tuple") = some true := kit_ty (by decide +kernel)
theorem k_tuple_list {K : PySem.W.Frag} : PySem.W.kitOne K (.type "tuple") (.type "list") = some false := kit_ty (by decide +kernel)
theorem k_tuple_bool {K : PySem.W.Frag} : PySem.W.kitOne K (.type "tuple") (.type "bool") = some false := kit_ty (by decide +kernel)
theorem k_tuple_str {K : PySem.W.Frag} : PySem.W.kitOne K (.type "tuple") (.type "str") = some false := kit_ty (by decide +kernel)
theorem k_tuple_int {K : PySem.W.Frag} : PySem.W.kitOne K (.type "tuple") (.type "int") = some false := kit_ty (by decide +kernel)
def tyD : PyData → String
  | .none => "NoneType"
  | .bool _ => "bool"
  | .int _ => "int"
  | .str _ => "str"
  | .list _ => "list"
  | .tuple _ => "tuple"
  | _ => "object"
theorem ty_of {K : PySem.W.Frag} {H : Hp} {v : V} {d : PyData} (h : Dp K H v d) : TyX K H v (.type (tyD d)) := by
  cases h with
  | non => exact .base .non
  | bl b => exact .base (.bl b)
  | int i => exact .base (.int i)
  | str x => exact .base (.str x)
  | lst s _ =>
    rcases s with (e | ⟨o, e⟩) | ⟨o, its, n, e, c, _⟩
    · exact .base (.lst e)
    · exact .base (.frz e)
    · exact .kList e c
  | tup s _ =>
    rcases s with (e | ⟨o, e⟩) | ⟨o, its, n, e, c, _⟩
    · exact .base (.tup e)
    · exact .fTuple e
    · exact .kTuple e c
theorem SqL.sm {K : PySem.W.Frag} {H H' : Hp} {a : Addr} {xs : List V} (e : Same H H') (h : SqL K H a xs) : SqL K H' a xs := e.seq h
theorem SqT.sm {K : PySem.W.Frag} {H H' : Hp} {a : Addr} {xs : List V} (e : Same H H') (h : SqT K H a xs) : SqT K H' a xs := by
  rcases h with (h | ⟨o, h⟩) | h
  · exact Or.inl (Or.inl (e _ _ h))
  · exact Or.inl (Or.inr ⟨o, e _ _ h⟩)
  · exact Or.inr h
mutual
theorem Dp.sm {K : PySem.W.Frag} {H H' : Hp} (e : Same H H') : ∀ {v : V} {d : PyData}, Dp K H v d → Dp K H' v d
  | _, _, .non => .non
  | _, _, .bl b => .bl b
  | _, _, .int i => .int i
  | _, _, .str x => .str x
  | _, _, .lst s a => .lst (SqL.sm e s) (DpAll.sm e a)
  | _, _, .tup s a => .tup (SqT.sm e s) (DpAll.sm e a)
theorem DpAll.sm {K : PySem.W.Frag} {H H' : Hp} (e : Same H H') : ∀ {vs : List V} {ds : List PyData}, DpAll K H vs ds → DpAll K H' vs ds
  | _, _, .nil => .nil
  | _, _, .cons a b => .cons (Dp.sm e a) (DpAll.sm e b)
end
theorem DpAll.len {K : PySem.W.Frag} {H : Hp} : ∀ {vs : List V} {ds : List PyData}, DpAll K H vs ds → vs.length = ds.length
  | _, _, .nil => rfl
  | _, _, .cons _ b => congrArg (· + 1) (DpAll.len b)
theorem DpAll.get {K : PySem.W.Frag} {H : Hp} : ∀ {vs : List V} {ds : List PyData} {i : Nat} {v : V}, DpAll K H vs ds → vs[i]? = some v → ∃ d, ds[i]? = some d ∧ Dp K H v d
  | _, _, 0, _, .cons a _, h => by
    cases h
    exact ⟨_, rfl, a⟩
  | _, _, i + 1, v, .cons _ b, h => DpAll.get (i := i) (v := v) b h
theorem walk_zt {K : PySem.W.Frag} {a b : Addr} {xs ys : List V} (hl : xs.length = ys.length) : Walk (RZ.ItzT K a b) xs.length (fun H => SqT K H a xs ∧ SqT K H b ys) (YPair (fun i => xs[i]?) (fun i => ys[i]?)) := by
  refine ⟨fun i H hi q => ?_, fun H q => ⟨xs, ys, q.1, q.2, Or.inl (Nat.le_refl _)⟩, fun i H v H' hi q y => ?_⟩
  · exact ⟨xs, ys, xs[i], ys[i]'(by omega), q.1, q.2, List.getElem?_eq_getElem hi, List.getElem?_eq_getElem (by omega)⟩
  · obtain ⟨T, x, y, h1, h2, h3, h4, h5⟩ := y
    exact ⟨T, x, y, h1, h2, h3, h4 xs q.1, h5 ys q.2⟩
/-- alike(x, y), x and y the same data -/
def spAlike (K : PySem.W.Frag) : Nat → Sp
  | 0 => fun _ _ _ _ => False
  | n + 1 => fun vs H Q _ => ∃ (x y : V) (d : PyData), vs = [x, y] ∧ Dp K H x d ∧ Dp K H y d ∧ Nice n d ∧ ∀ H', Same H H' → Q (.bl true) H'
theorem alike_none {P : Program} {w : World} {K : PySem.W.Frag} {mg : Str → Option Value} {base : Heap} {k : Nat} {f : Addr} {fd : FuncData} {ps : List Str} : FnOk P w K mg base CX0 k f fd ps (spAlike K 0) :=
  ⟨fun _ _ _ _ h => h.elim, fun _ _ _ _ _ _ _ _ _ _ _ _ _ h => h.elim⟩
/-! ### Printings -/
inductive Wd where | sh | ro | co
  deriving DecidableEq
def Wd.s : Wd → Str
  | .sh => "sheet"
  | .ro => "row"
  | .co => "column"
structure Prt where
  series : Str
  first : Int
  cols : Int
  rows : Int
  sheets : Int
  o1 : Wd
  o2 : Wd
  o3 : Wd
def Prt.size (p : Prt) : Wd → Int
  | .sh => p.sheets
  | .ro => p.rows
  | .co => p.cols
def seatW (s r c : Int) : Wd → Int
  | .sh => s
  | .ro => r
  | .co => c
def Prt.num (p : Prt) (s r c : Int) : Int := p.first + ((seatW s r c p.o1 * p.size p.o2 + seatW s r c p.o2) * p.size p.o3 + seatW s r c p.o3)
structure PrOk (p : Prt) : Prop where
  len : p.series.length ≤ 8
  f0 : 0 ≤ p.first
  c1 : 1 ≤ p.cols
  c2 : p.cols ≤ 12
  r1 : 1 ≤ p.rows
  r2 : p.rows ≤ 12
  s1 : 1 ≤ p.sheets
  s2 : p.sheets ≤ 1000000
  most : p.first + p.cols * p.rows * p.sheets ≤ 1000000000
  d12 : p.o1 ≠ p.o2
  d13 : p.o1 ≠ p.o3
  d23 : p.o2 ≠ p.o3
  chr : (p.series.cps.toList.all fun c => decide (c < 16 ^ 8)) = true
def prV (p : Prt) (t : Addr) : List V := [.str p.series, .int p.first, .int p.cols, .int p.rows, .int p.sheets, .ref t]
def ordV (p : Prt) : List V := [.str p.o1.s, .str p.o2.s, .str p.o3.s]
/-- the printing p stands at a -/
def PrAt (H : Hp) (a : Addr) (p : Prt) : Prop := ∃ t, H a = some (.tup (prV p t)) ∧ ∃ o, H t = some (.frz o (.tup (ordV p))) ∧ Tpl o
theorem PrAt.same {H H' : Hp} {a : Addr} {p : Prt} (h : PrAt H a p) (s : Same H H') : PrAt H' a p := by
  obtain ⟨t, h1, o, h2, h3⟩ := h
  exact ⟨t, s _ _ h1, o, s _ _ h2, h3⟩
theorem PrAt.but {H H' : Hp} {f c a : Addr} {p : Prt} {n : Int} (h : PrAt H a p) (hf : Fd H f c n) (s : But f H H') : PrAt H' a p := by
  obtain ⟨t, h1, o, h2, h3⟩ := h
  obtain ⟨xs, hx⟩ := hf.at
  exact ⟨t, s _ _ (ne_of h1 hx (fun z => nomatch z)) h1, o, s _ _ (ne_of h2 hx (fun z => nomatch z)) h2, h3⟩
theorem sqF {K : PySem.W.Frag} {H : Hp} {a : Addr} {o : Obj} {xs : List V} (h : H a = some (.frz o (.tup xs))) : SqT K H a xs := Or.inl (Or.inr ⟨o, h⟩)
def dictW (f : Wd → Int) : List (Key × V) := [(Sum.inr Wd.sh.s, .int (f .sh)), (Sum.inr Wd.ro.s, .int (f .ro)), (Sum.inr Wd.co.s, .int (f .co))]
def dictC (f : Wd → Int) : List (Key × V) := [(Sum.inr Wd.co.s, .int (f .co)), (Sum.inr Wd.ro.s, .int (f .ro)), (Sum.inr Wd.sh.s, .int (f .sh))]
theorem valW (f : Wd → Int) (u : Wd) : valV (dictW f) (Sum.inr u.s) = some (.int (f u)) := by cases u <;> rfl
theorem valC (f : Wd → Int) (u : Wd) : valV (dictC f) (Sum.inr u.s) = some (.int (f u)) := by cases u <;> rfl
theorem PrOk.size_lo {p : Prt} (h : PrOk p) (u : Wd) : 1 ≤ p.size u := by cases u <;> simp only [Prt.size] <;> first | exact h.s1 | exact h.r1 | exact h.c1
theorem PrOk.size_hi {p : Prt} (h : PrOk p) (u : Wd) : p.size u ≤ 1000000 := by
  have h1 := h.s2; have h2 := h.r2; have h3 := h.c2
  cases u <;> simp only [Prt.size] <;> omega
def spHow (dict : (Wd → Int) → List (Key × V)) : Sp := fun vs H Q _ => ∃ (a : Addr) (p : Prt), vs = [.ref a] ∧ PrAt H a p ∧
  ∀ (d : Addr) (H' : Hp), Same H H' → H' d = some (.dK (dict p.size)) → Q (.ref d) H'
def spNum : Sp := fun vs H Q _ => ∃ (a : Addr) (p : Prt) (s r c : Int), vs = [.ref a, .int s, .int r, .int c] ∧ PrAt H a p ∧ PrOk p ∧
  ∀ (H' : Hp), Same H H' → Q (.int (p.num s r c)) H'
theorem get_dW {H : Hp} {d : Addr} {f : Wd → Int} (h : H d = some (.dK (dictW f))) (u : Wd) : DGet H d (.str u.s) (some (.int (f u))) := by
  have q := DGet.k (k := Sum.inr u.s) h
  rw [valW] at q
  exact q
theorem get_dC {H : Hp} {d : Addr} {f : Wd → Int} (h : H d = some (.dK (dictC f))) (u : Wd) : DGet H d (.str u.s) (some (.int (f u))) := by
  have q := DGet.k (k := Sum.inr u.s) h
  rw [valC] at q
  exact q
theorem Prt.num_eq (p : Prt) (s r c : Int) : p.first + (seatW s r c p.o1 * p.size p.o2 * p.size p.o3 + seatW s r c p.o2 * p.size p.o3 + seatW s r c p.o3) = p.num s r c := by
  unfold Prt.num
  rw [Int.add_mul]
theorem PrOk.big {p : Prt} (ok : PrOk p) (u : Wd) : -(2 ^ 64) < p.size u ∧ p.size u < 2 ^ 64 := by
  have := ok.size_lo u
  have := ok.size_hi u
  constructor <;> omega
/-- what draw and its like leave for the words of an order -/
def spOrder : Sp := fun vs H Q _ => ∃ (f c : Addr) (n : Int), vs = [.ref f] ∧ Fd H f c n ∧ n ≤ 900000 ∧
  ∀ (t : Addr) (o : Obj) (u1 u2 u3 : Wd) (H' : Hp), Tpl o → u1 ≠ u2 → u1 ≠ u3 → u2 ≠ u3 → Fd H' f c (n + 2) → But f H H' → H t = none → H' t = some (.frz o (.tup [.str u1.s, .str u2.s, .str u3.s])) → Q (.ref t) H'
def spPrint : Sp := fun vs H Q _ => ∃ (f c : Addr) (n k : Int), vs = [.ref f, .int k] ∧ Fd H f c n ∧ n ≤ 800000 ∧ (k = 0 ∨ k = 1) ∧
  ∀ (a : Addr) (p : Prt) (H' : Hp), Fd H' f c (n + 20) → But f H H' → PrAt H' a p → PrOk p → (k = 1 → p.cols ≤ 4 ∧ p.rows ≤ 4 ∧ p.sheets ≤ 6) → Q (.ref a) H'
theorem mul_bound {a b : Int} {m n : Int} (a0 : 0 ≤ a) (a1 : a ≤ m) (b0 : 0 ≤ b) (b1 : b ≤ n) : 0 ≤ a * b ∧ a * b ≤ m * n :=
  ⟨Int.mul_nonneg a0 b0, Int.mul_le_mul a1 b1 b0 (Int.le_trans a0 a1)⟩
theorem prod_bound {c r s : Int} (c0 : 0 ≤ c) (c1 : c ≤ 12) (r0 : 0 ≤ r) (r1 : r ≤ 12) (s0 : 0 ≤ s) (s1 : s ≤ 1000000) : 0 ≤ c * r * s ∧ c * r * s ≤ 144000000 := by
  obtain ⟨h1, h2⟩ := mul_bound c0 c1 r0 r1
  obtain ⟨h3, h4⟩ := mul_bound h1 h2 s0 s1
  exact ⟨h3, by omega⟩
def abc : Str := "abcdefghijklmnopqrstuvwxyz"
theorem abc_at (i : Int) (h0 : 0 ≤ i) (h1 : i < 26) : ∃ ch, atI abc.cps.toList i = some ch ∧ ch < 16 ^ 8 := by
  obtain ⟨k, rfl⟩ : ∃ k : Nat, i = (k : Int) := ⟨i.toNat, by omega⟩
  have hk : k < abc.cps.toList.length := by
    have e : abc.cps.toList.length = 26 := by decide +kernel
    omega
  have all : ∀ c ∈ abc.cps.toList, c < 16 ^ 8 := by decide +kernel
  exact ⟨abc.cps.toList[k], atI_nat (List.getElem?_eq_getElem hk), all _ (List.getElem_mem hk)⟩
theorem mul_chr {ch : Nat} (n : Int) (h : ch < 16 ^ 8) : ((Txt.mul ⟨#[ch]⟩ n).cps.toList.all fun c => decide (c < 16 ^ 8)) = true := by
  rw [mul_one_list, List.all_eq_true]
  intro c hc
  rw [List.eq_of_mem_replicate hc]
  exact decide_eq_true h
theorem mul1_ok (ch : Nat) (d : Int) (h0 : 0 ≤ d) (h1 : d < 100) : MulOk ⟨#[ch]⟩ (1 + d) := by
  refine ⟨?_, fun _ _ => ?_, fun _ _ => ?_⟩
  · simp only [Bool.or_eq_false_iff, decide_eq_false_iff_not]
    constructor <;> omega
  · have e : (⟨#[ch]⟩ : Str).length = 1 := rfl
    rw [e]
    have : (1 : Int) ≤ (2 ^ 63 - 1) / (1 + d) := by
      rw [Int.le_ediv_iff_mul_le (by omega)]
      omega
    omega
  · have e : (⟨#[ch]⟩ : Str).length = 1 := rfl
    rw [e, Nat.one_mul]
    unfold Builtin.Str.tooLong
    rw [decide_eq_false_iff_not, sizeLine_eq]
    omega
theorem mul1_len (ch : Nat) (d : Int) (N : Nat) (h : 1 + d ≤ (N : Int)) : (Txt.mul ⟨#[ch]⟩ (1 + d)).length ≤ N := len_mul_one rfl h
def rowNums (p : Prt) (s r : Int) : List Int := (List.range p.cols.toNat).map fun (c : Nat) => p.num s r c
def numsOn (p : Prt) (s : Int) : List Int := (List.range p.rows.toNat).flatMap fun (r : Nat) => rowNums p s r
theorem rowNums_len (p : Prt) (s r : Int) : (rowNums p s r).length = p.cols.toNat := by
  unfold rowNums
  rw [List.length_map, List.length_range]
/-- the numbers ahead of the c-th of row r -/
def numsTo (p : Prt) (s : Int) (r c : Nat) : List Int := ((List.range r).flatMap fun (r : Nat) => rowNums p s r) ++ (List.range c).map fun (c : Nat) => p.num s r c
theorem numsTo_row (p : Prt) (s : Int) (r : Nat) : numsTo p s r p.cols.toNat = numsTo p s (r + 1) 0 := by
  unfold numsTo rowNums
  rw [List.range_succ, List.flatMap_append, List.range_zero, List.map_nil, List.append_nil, List.flatMap_singleton]
theorem numsTo_col (p : Prt) (s : Int) (r c : Nat) : numsTo p s r (c + 1) = numsTo p s r c ++ [p.num s r c] := by
  unfold numsTo
  rw [List.range_succ, List.map_append, List.append_assoc]
  rfl
theorem numsTo_all (p : Prt) (s : Int) : numsTo p s p.rows.toNat 0 = numsOn p s := by
  unfold numsTo numsOn
  rw [List.range_zero, List.map_nil, List.append_nil]
theorem numsTo_len (p : Prt) (s : Int) (r c : Nat) : (numsTo p s r c).length = r * p.cols.toNat + c := by
  unfold numsTo
  rw [List.length_append, List.length_map, List.length_range, List.length_flatMap]
  have e : (List.map (fun (a : Nat) => (rowNums p s a).length) (List.range r)) = List.replicate r p.cols.toNat := by
    apply List.ext_getElem
    · simp
    · intro i h1 h2
      simp [rowNums_len]
  rw [e, List.sum_replicate_nat]
def spNumsOn : Sp := fun vs H Q _ => ∃ (a : Addr) (p : Prt) (s : Int), vs = [.ref a, .int s] ∧ PrAt H a p ∧ PrOk p ∧
  ∀ (l : Addr) (H' : Hp), Same H H' → H l = none → H' l = some (.lst ((numsOn p s).map V.int)) → Q (.ref l) H'
/-! ### Runs -/
abbrev Rn := Str × Int × Int
def rnV (r : Rn) : List V := [.str r.1, .int r.2.1, .int r.2.2]
def rnD (r : Rn) : PyData := .tuple [.str r.1, .int r.2.1, .int r.2.2]
/-- the runs rs stand at the places ps -/
abbrev Prd (H : Hp) (ps : List Addr) (rs : List Rn) : Prop := Paired (fun (p : Addr) (r : Rn) => H p = some (.tup (rnV r))) ps rs
theorem Prd.len {H : Hp} {ps : List Addr} {rs : List Rn} (h : Prd H ps rs) : ps.length = rs.length := Paired.length h
theorem Prd.same {H H' : Hp} (s : Same H H') : ∀ {ps : List Addr} {rs : List Rn}, Prd H ps rs → Prd H' ps rs
  | _, _, .nil => .nil
  | _, _, .cons a b => .cons (s _ _ a) (Prd.same s b)
theorem Prd.get {H : Hp} : ∀ {ps : List Addr} {rs : List Rn} {i : Nat} {p : Addr}, Prd H ps rs → ps[i]? = some p → ∃ r, rs[i]? = some r ∧ H p = some (.tup (rnV r))
  | _, _, 0, _, .cons a _, h => by
    cases h
    exact ⟨_, rfl, a⟩
  | _, _, i + 1, p, .cons _ b, h => Prd.get (i := i) (p := p) b h
theorem Prd.app {H : Hp} : ∀ {ps qs : List Addr} {rs ts : List Rn}, Prd H ps rs → Prd H qs ts → Prd H (ps ++ qs) (rs ++ ts)
  | _, _, _, _, .nil, b => b
  | _, _, _, _, .cons a r, b => .cons a (Prd.app r b)
theorem Prd.mem {H : Hp} : ∀ {ps : List Addr} {rs : List Rn} {p : Addr}, Prd H ps rs → p ∈ ps → ∃ r ∈ rs, H p = some (.tup (rnV r))
  | _, _, p, .cons a b, h => by
    rcases List.mem_cons.mp h with e | e
    · subst e
      exact ⟨_, List.mem_cons_self, a⟩
    · obtain ⟨r, h1, h2⟩ := Prd.mem b e
      exact ⟨r, List.mem_cons_of_mem _ h1, h2⟩
theorem Prd.dp {K : PySem.W.Frag} {H : Hp} : ∀ {ps : List Addr} {rs : List Rn}, Prd H ps rs → DpAll K H (ps.map V.ref) (rs.map rnD)
  | _, _, .nil => .nil
  | _, _, .cons a b => .cons (.tup (SqT.of a) (.cons (.str _) (.cons (.int _) (.cons (.int _) .nil)))) (Prd.dp b)
/-- one run more, its place new or not, all else as it was -/
theorem Prd.keep {H H' : Hp} : ∀ {ps : List Addr} {rs : List Rn}, (∀ p ∈ ps, ∀ o, H p = some o → H' p = some o) → Prd H ps rs → Prd H' ps rs
  | _, _, _, .nil => .nil
  | _, _, k, .cons a b => .cons (k _ List.mem_cons_self _ a) (Prd.keep (fun p hp => k p (List.mem_cons_of_mem _ hp)) b)
def rnLe (a b : Rn) : Bool := PySem.W.dataLe false rnD a b
/-- Python's order of runs -/
def rnLt (a b : Rn) : Prop := a.1.cps.toList < b.1.cps.toList ∨ (a.1 = b.1 ∧ (a.2.1 < b.2.1 ∨ (a.2.1 = b.2.1 ∧ a.2.2 < b.2.2)))
theorem rn_lt (a b : Rn) : PySem.W.dataLt (rnD a) (rnD b) = decide (a.1.cps.toList < b.1.cps.toList ∨ (a.1 = b.1 ∧ (a.2.1 < b.2.1 ∨ (a.2.1 = b.2.1 ∧ a.2.2 < b.2.2)))) := by
  unfold rnD
  rw [PySem.W.dataLt_tuple, PySem.W.dataLt_cons (by simp [PySem.W.alike]), PySem.W.dataLt_cons (by simp [PySem.W.alike]), PySem.W.dataLt_cons (by simp [PySem.W.alike]), PySem.W.dataLt_str, PySem.W.dataLt_int, PySem.W.dataLt_int]
  rw [PyProof.Rows.lex_irrefl]
  simp only [PyData.eqv, beq_iff_eq]
  by_cases h1 : a.1 = b.1
  · have n : ¬ a.1.cps.toList < b.1.cps.toList := by
      rw [h1]
      exact List.lt_irrefl _
    by_cases h2 : a.2.1 = b.2.1
    · by_cases h3 : a.2.2 = b.2.2
      · rw [if_pos h1, if_pos h2, if_pos h3]
        symm
        rw [decide_eq_false_iff_not]
        rintro (h | ⟨_, h | ⟨_, h⟩⟩)
        · exact n h
        · omega
        · omega
      · rw [if_pos h1, if_pos h2, if_neg h3, decide_eq_decide]
        refine ⟨fun h => Or.inr ⟨h1, Or.inr ⟨h2, h⟩⟩, ?_⟩
        rintro (h | ⟨_, h | ⟨_, h⟩⟩)
        · exact absurd h n
        · omega
        · exact h
    · rw [if_pos h1, if_neg h2, decide_eq_decide]
      refine ⟨fun h => Or.inr ⟨h1, Or.inl h⟩, ?_⟩
      rintro (h | ⟨_, h | ⟨h, _⟩⟩)
      · exact absurd h n
      · exact h
      · exact absurd h h2
  · rw [if_neg h1, decide_eq_decide]
    refine ⟨Or.inl, ?_⟩
    rintro (h | ⟨h, _⟩)
    · exact h
    · exact absurd h h1
def apart (a b : Rn) : Bool := if a.1 = b.1 then decide (a.2.2 < b.2.1) else decide (a.1.cps.toList < b.1.cps.toList)
def push (acc : List Rn) (r : Rn) : List Rn := match acc.getLast? with
  | none => [r]
  | some l => if apart l r then acc ++ [r] else acc.dropLast ++ [(l.1, l.2.1, if r.2.2 > l.2.2 then r.2.2 else l.2.2)]
def merge (rs : List Rn) : List Rn := rs.foldl push []
def runsOf (rs : List Rn) : List Rn := merge (rs.mergeSort rnLe)
theorem sort_rn {H : Hp} {ps : List Addr} {rs : List Rn} (h : Prd H ps rs) : ∃ qs : List Addr, sortD (ps.map V.ref) (rs.map rnD) = qs.map V.ref ∧ Prd H qs (rs.mergeSort rnLe) := by
  have hl := h.len
  have e1 : ((ps.map V.ref).zip (rs.map rnD)) = (ps.zip rs).map (fun x => (V.ref x.1, rnD x.2)) := by
    rw [List.zip_map]
    rfl
  refine ⟨((ps.zip rs).mergeSort (fun x y => rnLe x.2 y.2)).map Prod.fst, ?_, ?_⟩
  · unfold sortD
    rw [e1, ← PySem.W.sort_maps (r := fun x y => rnLe x.2 y.2) (fun x : Addr × Rn => (V.ref x.1, rnD x.2)) (fun _ _ _ _ => rfl), List.map_map, List.map_map]
    rfl
  · have e2 : ((ps.zip rs).mergeSort (fun x y => rnLe x.2 y.2)).map Prod.snd = rs.mergeSort rnLe := by
      rw [PySem.W.sort_maps (s := rnLe) Prod.snd (fun _ _ _ _ => rfl), List.map_snd_zip (by omega)]
    rw [← e2]
    have at_ : ∀ x ∈ ps.zip rs, H x.1 = some (.tup (rnV x.2)) := by
      clear e1 e2 hl
      induction h with
      | nil => exact fun x hx => nomatch hx
      | cons a b ih =>
        intro x hx
        rcases List.mem_cons.mp hx with z | z
        · subst z
          exact a
        · exact ih x z
    have all : ∀ l : List (Addr × Rn), (∀ x ∈ l, H x.1 = some (.tup (rnV x.2))) → Prd H (l.map Prod.fst) (l.map Prod.snd) := fun l => by
      induction l with
      | nil => exact fun _ => .nil
      | cons x l ih => exact fun k => .cons (k x List.mem_cons_self) (ih fun y hy => k y (List.mem_cons_of_mem _ hy))
    exact all _ fun x hx => at_ x (List.mem_mergeSort.mp hx)
theorem rn_alike (rs : List Rn) : PySem.W.AllAlike (rs.map rnD) := by
  intro d hd e he
  obtain ⟨a, _, rfl⟩ := List.mem_map.mp hd
  obtain ⟨b, _, rfl⟩ := List.mem_map.mp he
  simp [rnD, PySem.W.alike, PySem.W.alikeAll]
theorem rn_sortable (rs : List Rn) : PySem.W.Sortable (rs.map rnD) := by
  refine Or.inl fun d hd => ?_
  obtain ⟨a, _, rfl⟩ := List.mem_map.mp hd
  exact ⟨_, _, rfl⟩
theorem rn_depth (rs : List Rn) : ∀ d ∈ rs.map rnD, d.depth ≤ 60 := by
  intro d hd
  obtain ⟨a, _, rfl⟩ := List.mem_map.mp hd
  simp [rnD, PyData.depth, PyData.depthAll]
theorem push_len (acc : List Rn) (r : Rn) : (push acc r).length ≤ acc.length + 1 := by
  unfold push
  split
  · simp
  · split
    · simp
    · simp
theorem merge_len (rs : List Rn) : (merge rs).length ≤ rs.length := by
  have all : ∀ (l acc : List Rn), (l.foldl push acc).length ≤ acc.length + l.length := fun l => by
    induction l with
    | nil => intro acc; simp
    | cons r l ih =>
      intro acc
      have h1 := ih (push acc r)
      have h2 := push_len acc r
      rw [List.foldl_cons, List.length_cons]
      omega
  have z := all rs []
  rw [List.length_nil, Nat.zero_add] at z
  exact z
theorem push_snoc (acc : List Rn) (l r : Rn) : push (acc ++ [l]) r = if apart l r then acc ++ [l] ++ [r] else acc ++ [(l.1, l.2.1, if r.2.2 > l.2.2 then r.2.2 else l.2.2)] := by
  unfold push
  rw [List.getLast?_concat]
  simp only [List.dropLast_concat]
theorem Prd.snoc {H : Hp} : ∀ {ps : List Addr} {rs : List Rn} {p : Addr}, Prd H (ps ++ [p]) rs → ∃ ts r, rs = ts ++ [r] ∧ Prd H ps ts ∧ H p = some (.tup (rnV r))
  | [], _, p, h => by
    cases h with
    | cons a b =>
      cases b
      exact ⟨[], _, rfl, .nil, a⟩
  | x :: ps, _, p, h => by
    cases h with
    | cons a b =>
      obtain ⟨ts, r, rfl, h1, h2⟩ := Prd.snoc b
      exact ⟨_ :: ts, r, rfl, .cons a h1, h2⟩
theorem Prd.one {H : Hp} {p : Addr} {r : Rn} (h : H p = some (.tup (rnV r))) : Prd H [p] [r] := .cons h .nil
theorem ix_last (n : Nat) : ixN (n + 1) (-1) = some n := by
  unfold ixN
  rw [if_neg (by omega), if_pos (by omega)]
  exact congrArg some (by omega)
theorem nil_or_snoc {α : Type} (l : List α) : l = [] ∨ ∃ i x, l = i ++ [x] := by
  rcases List.eq_nil_or_concat l with h | ⟨i, x, h⟩
  · exact .inl h
  · exact .inr ⟨i, x, by rw [h, List.concat_eq_append]⟩
theorem merge_more {l : List Rn} {i : Nat} {r : Rn} (h : l[i]? = some r) : merge (l.take (i + 1)) = push (merge (l.take i)) r := by
  unfold merge
  obtain ⟨hi, e⟩ := List.getElem?_eq_some_iff.mp h
  rw [List.take_succ_eq_append_getElem hi, List.foldl_append, e]
  rfl
def spApart : Sp := fun vs H Q _ => ∃ (p q : Addr) (a b : Rn), vs = [.ref p, .ref q] ∧ H p = some (.tup (rnV a)) ∧ H q = some (.tup (rnV b)) ∧ Q (.bl (apart a b)) H
def spRunsOf (K : PySem.W.Frag) : Sp := fun vs H Q _ => ∃ (a : Addr) (ps : List Addr) (rs : List Rn), vs = [.ref a] ∧ SqL K H a (ps.map V.ref) ∧ Prd H ps rs ∧ rs.length ≤ 100000 ∧
  ∀ (t : Addr) (qs : List Addr) (H' : Hp), Same H H' → H t = none → H' t = some (.tup (qs.map V.ref)) → Prd H' qs (runsOf rs) → Q (.ref t) H'
def single (s : Str) (n : Int) : Rn := (s, n, n + 1)
def spRunsNums : Sp := fun vs H Q _ => ∃ (a l : Addr) (p : Prt) (ns : List Int), vs = [.ref a, .ref l] ∧ PrAt H a p ∧ H l = some (.lst (ns.map V.int)) ∧ ns.length ≤ 100000 ∧
  ∀ (t : Addr) (qs : List Addr) (H' : Hp), Same H H' → H t = none → H' t = some (.tup (qs.map V.ref)) → Prd H' qs (runsOf (ns.map (single p.series))) → Q (.ref t) H'
def spSheetRuns : Sp := fun vs H Q _ => ∃ (a : Addr) (p : Prt) (s : Int), vs = [.ref a, .int s] ∧ PrAt H a p ∧ PrOk p ∧
  ∀ (t : Addr) (qs : List Addr) (H' : Hp), Same H H' → H t = none → H' t = some (.tup (qs.map V.ref)) → Prd H' qs (runsOf ((numsOn p s).map (single p.series))) → Q (.ref t) H'
def spPile (f : Prt → Int → Int → Int) : Sp := fun vs H Q _ => ∃ (a : Addr) (p : Prt) (r c : Int), vs = [.ref a, .int r, .int c] ∧ PrAt H a p ∧ PrOk p ∧
  ∀ (t : Addr) (H' : Hp), Same H H' → H t = none → H' t = some (.tup [.int (p.num 0 r c), .int (f p r c), .int p.sheets]) → Q (.ref t) H'
theorem numsOn_len {p : Prt} (ok : PrOk p) (s : Int) : (numsOn p s).length ≤ 144 := by
  rw [← numsTo_all, numsTo_len]
  have h1 := ok.r2
  have h2 := ok.c2
  have : p.rows.toNat * p.cols.toNat ≤ 12 * 12 := Nat.mul_le_mul (by omega) (by omega)
  omega
/-! ### Sheets: numbers on a sheet are unlike; joined they are the runs -/
theorem mixed {x y n c d : Int} (e : x * n + c = y * n + d) (c0 : 0 ≤ c) (c1 : c < n) (d0 : 0 ≤ d) (d1 : d < n) : x = y ∧ c = d := by
  have h1 : (x * n + c) / n = x := by
    rw [Int.add_comm, Int.add_mul_ediv_right _ _ (by omega), Int.ediv_eq_zero_of_lt c0 c1, Int.zero_add]
  have h2 : (y * n + d) / n = y := by
    rw [Int.add_comm, Int.add_mul_ediv_right _ _ (by omega), Int.ediv_eq_zero_of_lt d0 d1, Int.zero_add]
  have h3 : x = y := by rw [← h1, ← h2, e]
  subst h3
  exact ⟨rfl, by omega⟩
theorem cancel {x y n : Int} (e : x * n = y * n) (h : 1 ≤ n) : x = y := Int.eq_of_mul_eq_mul_right (by omega) e
theorem num_inj {p : Prt} (ok : PrOk p) {s r c r' c' : Int} (r0 : 0 ≤ r) (r1 : r < p.rows) (c0 : 0 ≤ c) (c1 : c < p.cols) (r0' : 0 ≤ r') (r1' : r' < p.rows) (c0' : 0 ≤ c') (c1' : c' < p.cols)
    (e : p.num s r c = p.num s r' c') : r = r' ∧ c = c' := by
  obtain ⟨series, first, cols, rows, sheets, o1, o2, o3⟩ := p
  have s1 := ok.s1
  have d12 := ok.d12
  have d13 := ok.d13
  have d23 := ok.d23
  dsimp only at *
  unfold Prt.num at e
  dsimp only at e
  have e := Int.add_left_cancel e
  cases o1 <;> cases o2 <;> cases o3 <;> first | exact absurd rfl d12 | exact absurd rfl d13 | exact absurd rfl d23 | skip
  all_goals simp only [seatW, Prt.size] at e
  · obtain ⟨h1, h2⟩ := mixed e c0 c1 c0' c1'
    exact ⟨by omega, h2⟩
  · obtain ⟨h1, h2⟩ := mixed e r0 r1 r0' r1'
    exact ⟨h2, by omega⟩
  · obtain ⟨h1, h2⟩ := mixed e c0 c1 c0' c1'
    exact ⟨cancel (n := sheets) (by omega) s1, h2⟩
  · have h1 := cancel (x := r * cols + c) (y := r' * cols + c') (n := sheets) (by omega) s1
    exact mixed h1 c0 c1 c0' c1'
  · obtain ⟨h1, h2⟩ := mixed e r0 r1 r0' r1'
    exact ⟨h2, cancel (n := sheets) (by omega) s1⟩
  · have h1 := cancel (x := c * rows + r) (y := c' * rows + r') (n := sheets) (by omega) s1
    obtain ⟨h2, h3⟩ := mixed h1 r0 r1 r0' r1'
    exact ⟨h3, h2⟩
theorem nums_nodup {p : Prt} (ok : PrOk p) (s : Int) : (numsOn p s).Pairwise (· ≠ ·) := by
  unfold numsOn
  rw [List.pairwise_flatMap]
  refine ⟨fun r hr => ?_, ?_⟩
  · unfold rowNums
    rw [List.pairwise_map]
    refine List.Pairwise.imp_of_mem ?_ List.nodup_range
    intro c c' hc hc' ne e
    have h1 := List.mem_range.mp hr
    have h2 := List.mem_range.mp hc
    have h3 := List.mem_range.mp hc'
    have z := num_inj ok (by omega) (by omega) (by omega) (by omega) (by omega) (by omega) (by omega) (by omega) e
    exact ne (by omega)
  · refine List.Pairwise.imp_of_mem ?_ List.nodup_range
    intro r r' hr hr' ne x hx y hy e
    unfold rowNums at hx hy
    obtain ⟨c, hc, rfl⟩ := List.mem_map.mp hx
    obtain ⟨c', hc', rfl⟩ := List.mem_map.mp hy
    have h1 := List.mem_range.mp hr
    have h2 := List.mem_range.mp hr'
    have h3 := List.mem_range.mp hc
    have h4 := List.mem_range.mp hc'
    have z := num_inj ok (by omega) (by omega) (by omega) (by omega) (by omega) (by omega) (by omega) (by omega) e
    exact ne (by omega)
/-- one number more, as the law joins them -/
def step (s : Str) (acc : List Rn) (n : Int) : List Rn := match acc.getLast? with
  | none => [single s n]
  | some l => if l.2.2 = n then acc.dropLast ++ [(s, l.2.1, n + 1)] else acc ++ [single s n]
theorem step_snoc (s : Str) (acc : List Rn) (l : Rn) (n : Int) : step s (acc ++ [l]) n = if l.2.2 = n then acc ++ [(s, l.2.1, n + 1)] else acc ++ [l] ++ [single s n] := by
  unfold step
  rw [List.getLast?_concat]
  simp only [List.dropLast_concat]
theorem push_step {s : Str} {acc : List Rn} {n : Int} (h : ∀ l, acc.getLast? = some l → l.1 = s ∧ l.2.2 ≤ n) : push acc (single s n) = step s acc n := by
  rcases nil_or_snoc acc with rfl | ⟨i, l, rfl⟩
  · rfl
  · obtain ⟨h1, h2⟩ := h l List.getLast?_concat
    rw [push_snoc, step_snoc]
    have e : apart l (single s n) = decide (l.2.2 < n) := if_pos h1
    rw [e]
    by_cases c : l.2.2 = n
    · rw [if_neg (by rw [decide_eq_true_eq]; omega), if_pos c]
      have m : (if (single s n).2.2 > l.2.2 then (single s n).2.2 else l.2.2) = n + 1 := if_pos (show n + 1 > l.2.2 by omega)
      rw [m, h1]
    · rw [if_pos (by rw [decide_eq_true_eq]; omega), if_neg c]
theorem step_last (s : Str) (acc : List Rn) (n : Int) : ∃ i l, step s acc n = i ++ [l] ∧ l.1 = s ∧ l.2.2 = n + 1 := by
  rcases nil_or_snoc acc with rfl | ⟨i, l, rfl⟩
  · exact ⟨[], single s n, rfl, rfl, rfl⟩
  · rw [step_snoc]
    by_cases c : l.2.2 = n
    · rw [if_pos c]
      exact ⟨_, _, rfl, rfl, rfl⟩
    · rw [if_neg c]
      exact ⟨_, _, rfl, rfl, rfl⟩
theorem fold_step (s : Str) : ∀ (ns : List Int) (acc : List Rn), ns.Pairwise (· < ·) → (∀ l, acc.getLast? = some l → l.1 = s ∧ ∀ n ∈ ns, l.2.2 ≤ n) → (ns.map (single s)).foldl push acc = ns.foldl (step s) acc
  | [], _, _, _ => rfl
  | n :: ns, acc, hp, h => by
    have hp := List.pairwise_cons.mp hp
    rw [List.map_cons, List.foldl_cons, List.foldl_cons, push_step (fun l hl => ⟨(h l hl).1, (h l hl).2 n List.mem_cons_self⟩)]
    refine fold_step s ns _ hp.2 fun l hl => ?_
    obtain ⟨i, l', e, h1, h2⟩ := step_last s acc n
    rw [e, List.getLast?_concat] at hl
    cases hl
    refine ⟨h1, fun m hm => ?_⟩
    have := hp.1 m hm
    omega
theorem single_le (s : Str) (a b : Int) : rnLe (single s a) (single s b) = decide (a ≤ b) := by
  show (!PySem.W.dataLt (rnD (single s b)) (rnD (single s a))) = _
  rw [rn_lt]
  have n : ¬ (single s b).1.cps.toList < (single s a).1.cps.toList := List.lt_irrefl _
  by_cases c : b < a
  · rw [decide_eq_true (Or.inr ⟨rfl, Or.inl c⟩), decide_eq_false (by omega)]
    rfl
  · have z : ¬ ((single s b).1.cps.toList < (single s a).1.cps.toList ∨ (single s b).1 = (single s a).1 ∧ ((single s b).2.1 < (single s a).2.1 ∨ (single s b).2.1 = (single s a).2.1 ∧ (single s b).2.2 < (single s a).2.2)) := by
      rintro (h | ⟨_, h | ⟨_, h⟩⟩)
      · exact n h
      · exact c h
      · have h : b + 1 < a + 1 := h
        omega
    rw [decide_eq_false z, decide_eq_true (by omega)]
    rfl
theorem runsOf_singles {s : Str} {ns ms : List Int} (hp : ms.Perm ns) (hs : ms.Pairwise (· ≤ ·)) (hn : ns.Pairwise (· ≠ ·)) : ms.foldl (step s) [] = runsOf (ns.map (single s)) := by
  unfold runsOf merge
  have e1 : (ns.map (single s)).mergeSort rnLe = (ns.mergeSort fun a b => decide (a ≤ b)).map (single s) := (PySem.W.sort_maps (single s) (fun a _ b _ => (single_le s a b).symm)).symm
  have e2 : ms = ns.mergeSort fun a b => decide (a ≤ b) := by
    refine List.Perm.eq_of_pairwise (le := fun a b => a ≤ b) (fun a b _ _ => Int.le_antisymm) hs ?_ (hp.trans (List.mergeSort_perm _ _).symm)
    have z := List.pairwise_mergeSort (le := fun (a b : Int) => decide (a ≤ b)) (fun a b c h1 h2 => by rw [decide_eq_true_eq] at *; omega) (fun a b => by rw [Bool.or_eq_true, decide_eq_true_eq, decide_eq_true_eq]; omega) ns
    exact z.imp fun h => of_decide_eq_true h
  have lt : ms.Pairwise (· < ·) := by
    have hm : ms.Pairwise (· ≠ ·) := (hp.pairwise_iff (fun h => Ne.symm h)).mpr hn
    exact (hs.and hm).imp fun h => by omega
  rw [e1, ← e2]
  exact (fold_step s ms [] lt fun l hl => nomatch hl).symm
theorem step_len (s : Str) (acc : List Rn) (n : Int) : (step s acc n).length ≤ acc.length + 1 := by
  rcases nil_or_snoc acc with rfl | ⟨i, l, rfl⟩
  · exact Nat.le_refl _
  · rw [step_snoc]
    split <;> simp
theorem steps_len (s : Str) (ns : List Int) : (ns.foldl (step s) []).length ≤ ns.length := by
  have all : ∀ (l : List Int) (acc : List Rn), (l.foldl (step s) acc).length ≤ acc.length + l.length := fun l => by
    induction l with
    | nil => intro acc; simp
    | cons r l ih =>
      intro acc
      have h1 := ih (step s acc r)
      have h2 := step_len s acc r
      rw [List.foldl_cons, List.length_cons]
      omega
  have z := all ns []
  rw [List.length_nil, Nat.zero_add] at z
  exact z
theorem steps_more {s : Str} {l : List Int} {i : Nat} {n : Int} (h : l[i]? = some n) : (l.take (i + 1)).foldl (step s) [] = step s ((l.take i).foldl (step s) []) n := by
  obtain ⟨hi, e⟩ := List.getElem?_eq_some_iff.mp h
  rw [List.take_succ_eq_append_getElem hi, List.foldl_append, e]
  rfl
/-- what a pile's numbers grow by, from the sizes of the words behind "sheet" -/
def stepOf (p : Prt) : Int := match p.o1, p.o2, p.o3 with
  | .sh, b, c => 1 * p.size b * p.size c
  | _, .sh, c => 1 * p.size c
  | _, _, _ => 1
theorem step_of {p : Prt} (ok : PrOk p) (r c : Int) : p.num 1 r c - p.num 0 r c = stepOf p := by
  obtain ⟨series, first, cols, rows, sheets, o1, o2, o3⟩ := p
  have d12 := ok.d12
  have d13 := ok.d13
  have d23 := ok.d23
  dsimp only at *
  unfold Prt.num stepOf
  dsimp only
  cases o1 <;> cases o2 <;> cases o3 <;> first | exact absurd rfl d12 | exact absurd rfl d13 | exact absurd rfl d23 | skip
  all_goals simp only [seatW, Prt.size, Int.zero_mul, Int.one_mul, Int.add_mul, Int.zero_add]
  all_goals omega
def strsW (ws : List Wd) : List V := ws.map fun w => V.str w.s
theorem behind {p : Prt} (ok : PrOk p) : ∃ (j : Nat) (bs : List Wd), [p.o1.s, p.o2.s, p.o3.s][j]? = some Wd.sh.s ∧ (∀ m, m < j → [p.o1.s, p.o2.s, p.o3.s][m]? ≠ some Wd.sh.s) ∧
    cutV (ordV p) (some ((j : Int) + 1)) none = strsW bs ∧ bs.foldl (fun x w => x * p.size w) 1 = stepOf p ∧ j < 3 := by
  obtain ⟨series, first, cols, rows, sheets, o1, o2, o3⟩ := p
  have d12 := ok.d12
  have d13 := ok.d13
  have d23 := ok.d23
  dsimp only at *
  cases o1 <;> cases o2 <;> cases o3 <;> first | exact absurd rfl d12 | exact absurd rfl d13 | exact absurd rfl d23 | skip
  · exact ⟨0, [.ro, .co], rfl, fun m hm => absurd hm (Nat.not_lt_zero _), rfl, rfl, by decide⟩
  · exact ⟨0, [.co, .ro], rfl, fun m hm => absurd hm (Nat.not_lt_zero _), rfl, rfl, by decide⟩
  · refine ⟨1, [.co], rfl, fun m hm => ?_, rfl, rfl, by decide⟩
    obtain rfl : m = 0 := by omega
    decide +kernel
  · refine ⟨2, [], rfl, fun m hm => ?_, rfl, rfl, by decide⟩
    rcases (show m = 0 ∨ m = 1 by omega) with rfl | rfl <;> decide +kernel
  · refine ⟨1, [.ro], rfl, fun m hm => ?_, rfl, rfl, by decide⟩
    obtain rfl : m = 0 := by omega
    decide +kernel
  · refine ⟨2, [], rfl, fun m hm => ?_, rfl, rfl, by decide⟩
    rcases (show m = 0 ∨ m = 1 by omega) with rfl | rfl <;> decide +kernel
theorem PrOk.thin1 {p : Prt} (ok : PrOk p) : PrOk { p with sheets := 1 } := by
  have h1 := ok.most
  have h2 : p.cols * p.rows * 1 ≤ p.cols * p.rows * p.sheets := Int.mul_le_mul_of_nonneg_left ok.s1 (Int.mul_nonneg (by have := ok.c1; omega) (by have := ok.r1; omega))
  exact ⟨ok.len, ok.f0, ok.c1, ok.c2, ok.r1, ok.r2, Int.le_refl 1, (show (1 : Int) ≤ 1000000 by decide), by show p.first + p.cols * p.rows * 1 ≤ _; omega, ok.d12, ok.d13, ok.d23, ok.chr⟩
theorem PrOk.thin2 {p : Prt} (ok : PrOk p) : PrOk { p with cols := 1 } := by
  have h1 := ok.most
  have h3 := ok.s1
  have h4 := ok.r1
  have h2 : 1 * p.rows * p.sheets ≤ p.cols * p.rows * p.sheets := Int.mul_le_mul_of_nonneg_right (Int.mul_le_mul_of_nonneg_right ok.c1 (by omega)) (by omega)
  exact ⟨ok.len, ok.f0, Int.le_refl 1, (show (1 : Int) ≤ 12 by decide), ok.r1, ok.r2, ok.s1, ok.s2, by show p.first + 1 * p.rows * p.sheets ≤ _; omega, ok.d12, ok.d13, ok.d23, ok.chr⟩
theorem PrOk.thin3 {p : Prt} (ok : PrOk p) : PrOk { p with rows := 1 } := by
  have h1 := ok.most
  have h3 := ok.s1
  have h4 := ok.c1
  have h2 : p.cols * 1 * p.sheets ≤ p.cols * p.rows * p.sheets := Int.mul_le_mul_of_nonneg_right (Int.mul_le_mul_of_nonneg_left ok.r1 (by omega)) (by omega)
  exact ⟨ok.len, ok.f0, ok.c1, ok.c2, Int.le_refl 1, (show (1 : Int) ≤ 12 by decide), ok.s1, ok.s2, by show p.first + p.cols * 1 * p.sheets ≤ _; omega, ok.d12, ok.d13, ok.d23, ok.chr⟩
/-- right printings at these places -/
def PrsAt (H : Hp) (as : List Addr) (ps : List Prt) : Prop := Paired (fun (a : Addr) (p : Prt) => PrAt H a p ∧ PrOk p) as ps
theorem PrsAt.same {H H' : Hp} (s : Same H H') : ∀ {as : List Addr} {ps : List Prt}, PrsAt H as ps → PrsAt H' as ps
  | _, _, .nil => .nil
  | _, _, .cons a b => .cons ⟨a.1.same s, a.2⟩ (PrsAt.same s b)
theorem PrsAt.but {H H' : Hp} {f c : Addr} {n : Int} (hf : Fd H f c n) (s : But f H H') : ∀ {as : List Addr} {ps : List Prt}, PrsAt H as ps → PrsAt H' as ps
  | _, _, .nil => .nil
  | _, _, .cons a b => .cons ⟨a.1.but hf s, a.2⟩ (PrsAt.but hf s b)
theorem PrsAt.get {H : Hp} : ∀ {as : List Addr} {ps : List Prt} {i : Nat} {a : Addr}, PrsAt H as ps → as[i]? = some a → ∃ p, ps[i]? = some p ∧ PrAt H a p ∧ PrOk p
  | _, _, 0, _, .cons a _, h => by
    cases h
    exact ⟨_, rfl, a.1, a.2⟩
  | _, _, i + 1, a, .cons _ b, h => PrsAt.get (i := i) (a := a) b h
def spPrints : Sp := fun vs H Q _ => ∃ (f c : Addr) (n : Int), vs = [.ref f] ∧ Fd H f c n ∧ n ≤ 700000 ∧
  ∀ (l : Addr) (as : List Addr) (ps : List Prt) (H' : Hp), Fd H' f c (n + 50) → But f H H' → l ≠ f → H' l = some (.lst (as.map V.ref)) → PrsAt H' as ps → as.length = 4 → Q (.ref l) H'
/-! ### How long a repr is -/
mutual
def cost : PyData → Nat
  | .none => 4
  | .bool _ => 5
  | .int _ => 2000
  | .str x => 10 * x.length + 2
  | .list xs => costAll xs + 3
  | .tuple xs => costAll xs + 3
  | .dict _ => 0
def costAll : List PyData → Nat
  | [] => 0
  | x :: xs => cost x + 2 + costAll xs
end
mutual
def fineD : PyData → Bool
  | .none => true
  | .bool _ => true
  | .int i => decide (i.natAbs.log2 < 1920)
  | .str x => x.cps.toList.all fun c => decide (c < 16 ^ 8)
  | .list xs => fineAll xs
  | .tuple xs => fineAll xs
  | .dict _ => false
def fineAll : List PyData → Bool
  | [] => true
  | x :: xs => fineD x && fineAll xs
end
theorem from_len : ∀ (ts : List Str) (k : Nat) (acc : Str), (textFrom k acc ts).length ≤ acc.length + piled ts
  | [], k, acc => by
    unfold textFrom
    exact Nat.le_add_right _ _
  | t :: ts, k, acc => by
    unfold textFrom
    rw [piled_cons]
    have z := from_len ts (k + 1) (acc ++ (if k > 0 then ", " else "" : String) ++ t)
    have e : (((if k > 0 then ", " else "" : String) : Str)).length ≤ 2 := by split <;> decide +kernel
    rw [strLen_append, strLen_append] at z
    omega
theorem tup_len (ts : List Str) : (tupleText ts).length ≤ piled ts + 3 := by
  have e1 : ((("(" : String) : Str)).length = 1 := rfl
  have e3 : (((if ts.length == 1 then ",)" else ")" : String) : Str)).length ≤ 2 := by split <;> decide +kernel
  unfold tupleText
  rw [strLen_append, strLen_append, e1]
  cases ts with
  | nil =>
    have : (Str.join ", " []).length = 0 := rfl
    omega
  | cons t ts =>
    have := join_length_add (t :: ts) (fun z => nomatch z)
    omega
mutual
theorem shown_cost : ∀ d : PyData, fineD d = true → d.shown.length ≤ cost d
  | .none, _ => by decide +kernel
  | .bool b, _ => by cases b <;> decide +kernel
  | .int i, h => by
    have := int_text_len_1921 (of_decide_eq_true h)
    unfold PyData.shown cost
    omega
  | .str x, h => StrLaws.reprText_len x fun c hc => of_decide_eq_true (List.all_eq_true.mp h c hc)
  | .list xs, h => by
    have z := shown_costAll xs h
    have y := from_len (PyData.shownAll xs) 0 "["
    have e : (("[" : String) : Str).length = 1 := rfl
    have e2 : (("]" : String) : Str).length = 1 := rfl
    unfold PyData.shown cost listText
    rw [strLen_append, e2]
    rw [e] at y
    omega
  | .tuple xs, h => by
    have z := shown_costAll xs h
    have y := tup_len (PyData.shownAll xs)
    unfold PyData.shown cost
    omega
theorem shown_costAll : ∀ xs : List PyData, fineAll xs = true → piled (PyData.shownAll xs) ≤ costAll xs
  | [], _ => Nat.zero_le _
  | x :: xs, h => by
    have h := Bool.and_eq_true_iff.mp h
    have z1 := shown_cost x h.1
    have z2 := shown_costAll xs h.2
    unfold PyData.shownAll costAll
    rw [piled_cons]
    omega
end
mutual
theorem fine_show : ∀ d : PyData, fineD d = true → d.showable = true ∧ d.hasDict = false
  | .none, _ => ⟨rfl, rfl⟩
  | .bool b, _ => ⟨rfl, rfl⟩
  | .int i, h => ⟨h, rfl⟩
  | .str x, h => ⟨rfl, rfl⟩
  | .list xs, h => fine_showAll xs h
  | .tuple xs, h => fine_showAll xs h
theorem fine_showAll : ∀ xs : List PyData, fineAll xs = true → PyData.showableAll xs = true ∧ PyData.hasDictAll xs = false
  | [], _ => ⟨rfl, rfl⟩
  | x :: xs, h => by
    have h := Bool.and_eq_true_iff.mp h
    have z1 := fine_show x h.1
    have z2 := fine_showAll xs h.2
    unfold PyData.showableAll PyData.hasDictAll
    rw [z1.1, z1.2, z2.1, z2.2]
    exact ⟨rfl, rfl⟩
end
theorem log_small {n : Nat} (h : n < 2 ^ 64) : n.log2 < 1920 := by
  by_cases z : n = 0
  · subst z
    decide +kernel
  · exact (Nat.log2_lt z).mpr (Nat.lt_of_lt_of_le h (Nat.pow_le_pow_right (by decide) (by decide)))
theorem int_fine {i : Int} (h0 : -1000000000000 ≤ i) (h1 : i ≤ 1000000000000) : fineD (.int i) = true := decide_eq_true (log_small (by omega))
def prD (p : Prt) : PyData := .tuple [.str p.series, .int p.first, .int p.cols, .int p.rows, .int p.sheets, .tuple [.str p.o1.s, .str p.o2.s, .str p.o3.s]]
theorem PrAt.dp {K : PySem.W.Frag} {H : Hp} {a : Addr} {p : Prt} (h : PrAt H a p) : Dp K H (.ref a) (prD p) := by
  obtain ⟨t, h1, o, h2, _⟩ := h
  exact .tup (SqT.of h1) (.cons (.str _) (.cons (.int _) (.cons (.int _) (.cons (.int _) (.cons (.int _) (.cons (.tup (sqF h2) (.cons (.str _) (.cons (.str _) (.cons (.str _) .nil)))) .nil))))))
theorem word_fine (u : Wd) : fineD (.str u.s) = true := by cases u <;> decide +kernel
theorem PrOk.fine {p : Prt} (ok : PrOk p) : fineD (prD p) = true := by
  have h1 := ok.f0; have h2 := ok.c1; have h3 := ok.c2; have h4 := ok.r1; have h5 := ok.r2; have h6 := ok.s1; have h7 := ok.s2; have h8 := ok.most
  have h9 := (prod_bound (c := p.cols) (r := p.rows) (s := p.sheets) (by omega) h3 (by omega) h5 (by omega) h7).1
  show (fineD (.str p.series) && (fineD (.int p.first) && (fineD (.int p.cols) && (fineD (.int p.rows) && (fineD (.int p.sheets) && ((fineD (.str p.o1.s) && (fineD (.str p.o2.s) && (fineD (.str p.o3.s) && true))) && true)))))) = true
  have e0 : fineD (.str p.series) = true := ok.chr
  rw [e0, int_fine (by omega) (by omega), int_fine (by omega) (by omega), int_fine (by omega) (by omega), int_fine (by omega) (by omega), word_fine, word_fine, word_fine]
  rfl
theorem word_cost (u : Wd) : cost (.str u.s) ≤ 62 := by cases u <;> decide +kernel
theorem PrOk.cost {p : Prt} (ok : PrOk p) : cost (prD p) ≤ 9000 := by
  have h := ok.len
  have h1 := word_cost p.o1; have h2 := word_cost p.o2; have h3 := word_cost p.o3
  simp only [prD, Pn.cost, costAll] at *
  omega
theorem PrsAt.dp {K : PySem.W.Frag} {H : Hp} : ∀ {as : List Addr} {ps : List Prt}, PrsAt H as ps → DpAll K H (as.map V.ref) (ps.map prD)
  | _, _, .nil => .nil
  | _, _, .cons a b => .cons a.1.dp (PrsAt.dp b)
theorem PrsAt.fine {H : Hp} : ∀ {as : List Addr} {ps : List Prt}, PrsAt H as ps → fineAll (ps.map prD) = true ∧ costAll (ps.map prD) ≤ 9002 * ps.length ∧ as.length = ps.length
  | _, _, .nil => ⟨rfl, Nat.le_refl _, rfl⟩
  | _, _, .cons (l₂ := l) a b => by
    obtain ⟨z1, z2, z3⟩ := PrsAt.fine b
    have y1 := a.2.fine
    have y2 := a.2.cost
    refine ⟨?_, ?_, congrArg (· + 1) z3⟩
    · rw [List.map_cons]
      unfold fineAll
      rw [y1, z1]
      rfl
    · rw [List.map_cons, List.length_cons]
      unfold costAll
      omega
theorem prs_depth (ps : List Prt) : (PyData.list (ps.map prD)).depth ≤ 60 := by
  have all : ∀ l : List Prt, PyData.depthAll (l.map prD) ≤ 4 := fun l => by
    induction l with
    | nil => simp [PyData.depthAll]
    | cons p l ih =>
      rw [List.map_cons]
      simp only [PyData.depthAll, prD, PyData.depth] at *
      omega
  have z := all ps
  simp only [PyData.depth]
  omega
def rnsD (rs : List Rn) : PyData := .tuple (rs.map rnD)
theorem rns_nice {rs : List Rn} (h : rs.length ≤ 100000) : Nice 2 (rnsD rs) := by
  refine Or.inr ⟨_, Or.inr rfl, by rw [List.length_map]; exact h, fun e he => ?_⟩
  obtain ⟨r, _, rfl⟩ := List.mem_map.mp he
  refine Or.inr ⟨_, Or.inr rfl, (show 3 ≤ 100000 by decide), fun e he => ?_⟩
  rcases List.mem_cons.mp he with rfl | he
  · exact Nice.flat rfl
  rcases List.mem_cons.mp he with rfl | he
  · exact Nice.flat rfl
  rcases List.mem_cons.mp he with rfl | he
  · exact Nice.flat rfl
  · exact nomatch he
theorem runsOf_len (rs : List Rn) : (runsOf rs).length ≤ rs.length := by
  unfold runsOf
  have z := merge_len (rs.mergeSort rnLe)
  rw [List.length_mergeSort] at z
  exact z
theorem prd_dp {K : PySem.W.Frag} {H : Hp} {t : Addr} {qs : List Addr} {rs : List Rn} (h : H t = some (.tup (qs.map V.ref))) (hq : Prd H qs rs) : Dp K H (.ref t) (rnsD rs) := .tup (SqT.of h) (Prd.dp hq)
def intsD (ns : List Int) : PyData := .tuple (ns.map .int)
theorem ints_dp {K : PySem.W.Frag} {H : Hp} {t : Addr} {ns : List Int} (h : H t = some (.tup (ns.map V.int))) : Dp K H (.ref t) (intsD ns) := by
  refine .tup (SqT.of h) ?_
  clear h
  induction ns with
  | nil => exact .nil
  | cons n ns ih => exact .cons (.int n) ih
theorem ints_nice {ns : List Int} (h : ns.length ≤ 100000) : Nice 2 (intsD ns) := by
  refine Or.inr ⟨_, Or.inr rfl, by rw [List.length_map]; exact h, fun e he => ?_⟩
  obtain ⟨r, _, rfl⟩ := List.mem_map.mp he
  exact Nice.flat rfl
def spLaw (K : PySem.W.Frag) : Sp := fun vs H Q _ => ∃ (a : Addr) (ns : List Int), vs = [.ref a] ∧ SqL K H a (ns.map V.int) ∧ ∀ H', Q (.bl true) H'
/-! ### The one writing of a set of notes -/
def sl (a b : Str) : Prop := a.cps.toList < b.cps.toList
theorem sl_irr (a : Str) : ¬ sl a a := List.lt_irrefl _
theorem sl_tr {a b c : Str} (h : sl a b) (k : sl b c) : sl a c := List.lt_trans h k
theorem sl_as {a b : Str} (h : sl a b) (k : sl b a) : False := sl_irr a (sl_tr h k)
theorem sl_tot (a b : Str) : sl a b ∨ a = b ∨ sl b a := by
  by_cases h1 : sl a b
  · exact .inl h1
  by_cases h2 : sl b a
  · exact .inr (.inr h2)
  refine .inr (.inl ?_)
  have e : a.cps.toList = b.cps.toList := List.le_antisymm (List.not_lt.mp h2) (List.not_lt.mp h1)
  cases a
  cases b
  exact congrArg Str.mk (Array.toList_inj.mp e)
def has (rs : List Rn) (s : Str) (n : Int) : Prop := ∃ r ∈ rs, r.1 = s ∧ r.2.1 ≤ n ∧ n < r.2.2
def Full (rs : List Rn) : Prop := ∀ r ∈ rs, r.2.1 < r.2.2
def Canon (rs : List Rn) : Prop := rs.Pairwise (fun a b => apart a b = true) ∧ Full rs
theorem apart_iff (a b : Rn) : apart a b = true ↔ (a.1 = b.1 ∧ a.2.2 < b.2.1) ∨ sl a.1 b.1 := by
  unfold apart
  by_cases e : a.1 = b.1
  · rw [if_pos e, decide_eq_true_eq]
    refine ⟨fun h => .inl ⟨e, h⟩, ?_⟩
    rintro (h | h)
    · exact h.2
    · rw [e] at h
      exact (sl_irr _ h).elim
  · rw [if_neg e, decide_eq_true_eq]
    refine ⟨.inr, ?_⟩
    rintro (h | h)
    · exact absurd h.1 e
    · exact h
theorem apart_tr {a b c : Rn} (h : apart a b = true) (f : b.2.1 < b.2.2) (k : apart b c = true) : apart a c = true := by
  rw [apart_iff] at *
  rcases h with ⟨h1, h2⟩ | h <;> rcases k with ⟨k1, k2⟩ | k
  · exact .inl ⟨h1.trans k1, by omega⟩
  · exact .inr (h1 ▸ k)
  · exact .inr (k1 ▸ h)
  · exact .inr (sl_tr h k)
theorem has_cons (x : Rn) (rs : List Rn) (s : Str) (n : Int) : has (x :: rs) s n ↔ (x.1 = s ∧ x.2.1 ≤ n ∧ n < x.2.2) ∨ has rs s n := by
  unfold has
  constructor
  · rintro ⟨r, h, k⟩
    rcases List.mem_cons.mp h with rfl | h
    · exact .inl k
    · exact .inr ⟨r, h, k⟩
  · rintro (k | ⟨r, h, k⟩)
    · exact ⟨x, List.mem_cons_self, k⟩
    · exact ⟨r, List.mem_cons_of_mem _ h, k⟩
theorem has_nil (s : Str) (n : Int) : ¬ has [] s n := fun ⟨_, h, _⟩ => nomatch h
theorem has_app (a b : List Rn) (s : Str) (n : Int) : has (a ++ b) s n ↔ has a s n ∨ has b s n := by
  unfold has
  constructor
  · rintro ⟨r, h, k⟩
    rcases List.mem_append.mp h with h | h
    · exact .inl ⟨r, h, k⟩
    · exact .inr ⟨r, h, k⟩
  · rintro (⟨r, h, k⟩ | ⟨r, h, k⟩)
    · exact ⟨r, List.mem_append_left _ h, k⟩
    · exact ⟨r, List.mem_append_right _ h, k⟩
/-- all notes behind the first run -/
theorem canon_first {x : Rn} {rs : List Rn} (h : Canon (x :: rs)) {s : Str} {n : Int} (k : has rs s n) : (x.1 = s ∧ x.2.2 < n) ∨ sl x.1 s := by
  obtain ⟨r, hr, rfl, k1, k2⟩ := k
  rcases (apart_iff x r).mp ((List.pairwise_cons.mp h.1).1 r hr) with ⟨e, l⟩ | l
  · exact .inl ⟨e, by omega⟩
  · exact .inr l
theorem Canon.tail {x : Rn} {rs : List Rn} (h : Canon (x :: rs)) : Canon rs := ⟨(List.pairwise_cons.mp h.1).2, fun r hr => h.2 r (List.mem_cons_of_mem _ hr)⟩
theorem canon_uniq : ∀ {a b : List Rn}, Canon a → Canon b → (∀ s n, has a s n ↔ has b s n) → a = b
  | [], [], _, _, _ => rfl
  | [], y :: b, _, hb, h => by
    have z := (h y.1 y.2.1).mpr ⟨y, List.mem_cons_self, rfl, Int.le_refl _, hb.2 y List.mem_cons_self⟩
    exact (has_nil _ _ z).elim
  | x :: a, [], ha, _, h => by
    have z := (h x.1 x.2.1).mp ⟨x, List.mem_cons_self, rfl, Int.le_refl _, ha.2 x List.mem_cons_self⟩
    exact (has_nil _ _ z).elim
  | x :: a, y :: b, ha, hb, h => by
    have fx := ha.2 x List.mem_cons_self
    have fy := hb.2 y List.mem_cons_self
    have lo : ∀ {x y : Rn} {a b : List Rn}, Canon (x :: a) → Canon (y :: b) → (∀ s n, has (x :: a) s n → has (y :: b) s n) → (y.1 = x.1 ∧ y.2.1 ≤ x.2.1) ∨ sl y.1 x.1 := fun {x y a b} ha hb h => by
      have fy := hb.2 y List.mem_cons_self
      rcases (has_cons _ _ _ _).mp (h x.1 x.2.1 ⟨x, List.mem_cons_self, rfl, Int.le_refl _, ha.2 x List.mem_cons_self⟩) with ⟨e, k, _⟩ | k
      · exact .inl ⟨e, k⟩
      · rcases canon_first hb k with ⟨e, k⟩ | k
        · exact .inl ⟨e, by omega⟩
        · exact .inr k
    have l1 := lo ha hb fun s n => (h s n).mp
    have l2 := lo hb ha fun s n => (h s n).mpr
    have e1 : x.1 = y.1 ∧ x.2.1 = y.2.1 := by
      rcases l1 with ⟨e, k⟩ | k <;> rcases l2 with ⟨e', k'⟩ | k'
      · exact ⟨e', by omega⟩
      · exact (sl_irr _ (e ▸ k')).elim
      · exact (sl_irr _ (e' ▸ k)).elim
      · exact (sl_as k k').elim
    have hi : ∀ {x y : Rn} {a b : List Rn}, Canon (x :: a) → Canon (y :: b) → x.1 = y.1 → x.2.1 = y.2.1 → (∀ s n, has (y :: b) s n → has (x :: a) s n) → ¬ x.2.2 < y.2.2 := fun {x y a b} ha hb e1 e2 h lt => by
      have fx := ha.2 x List.mem_cons_self
      rcases (has_cons _ _ _ _).mp (h x.1 x.2.2 ⟨y, List.mem_cons_self, e1.symm, by omega, lt⟩) with ⟨_, _, k⟩ | k
      · omega
      · rcases canon_first ha k with ⟨_, k⟩ | k
        · omega
        · exact sl_irr _ k
    have h1 := hi ha hb e1.1 e1.2 fun s n => (h s n).mpr
    have h2 := hi hb ha e1.1.symm e1.2.symm fun s n => (h s n).mp
    have e : x = y := Prod.ext e1.1 (Prod.ext e1.2 (by omega))
    subst e
    have off : ∀ {l : List Rn}, Canon (x :: l) → ∀ s n, has l s n → ¬ (x.1 = s ∧ x.2.1 ≤ n ∧ n < x.2.2) := fun {l} hl s n k z => by
      rcases canon_first hl k with ⟨_, k⟩ | k
      · omega
      · exact sl_irr _ (z.1 ▸ k)
    refine congrArg (x :: ·) (canon_uniq ha.tail hb.tail fun s n => ⟨fun k => ?_, fun k => ?_⟩)
    · rcases (has_cons _ _ _ _).mp ((h s n).mp ((has_cons _ _ _ _).mpr (.inr k))) with z | z
      · exact (off ha s n k z).elim
      · exact z
    · rcases (has_cons _ _ _ _).mp ((h s n).mpr ((has_cons _ _ _ _).mpr (.inr k))) with z | z
      · exact (off hb s n k z).elim
      · exact z
/-- not ahead of -/
def Wk (a b : Rn) : Prop := (a.1 = b.1 ∧ a.2.1 ≤ b.2.1) ∨ sl a.1 b.1
theorem push_ok {acc : List Rn} {r : Rn} (ha : Canon acc) (hw : ∀ x, acc.getLast? = some x → Wk x r) (f : r.2.1 < r.2.2) :
    Canon (push acc r) ∧ (∀ s n, has (push acc r) s n ↔ has acc s n ∨ (r.1 = s ∧ r.2.1 ≤ n ∧ n < r.2.2)) ∧ ∀ x, (push acc r).getLast? = some x → x.1 = r.1 ∧ x.2.1 ≤ r.2.1 := by
  rcases nil_or_snoc acc with rfl | ⟨i, l, rfl⟩
  · refine ⟨⟨List.pairwise_singleton _ _, fun x hx => ?_⟩, fun s n => ?_, fun x hx => ?_⟩
    · rw [List.mem_singleton.mp hx]
      exact f
    · show has [r] s n ↔ _
      rw [has_cons]
      exact Or.comm
    · cases (Option.some.inj hx)
      exact ⟨rfl, Int.le_refl _⟩
  have w := hw l List.getLast?_concat
  obtain ⟨p1, p2, p3⟩ := List.pairwise_append.mp ha.1
  have fl := ha.2 l (List.mem_append_right _ List.mem_cons_self)
  rw [push_snoc]
  by_cases ap : apart l r = true
  · rw [if_pos ap]
    refine ⟨⟨List.pairwise_append.mpr ⟨ha.1, List.pairwise_singleton _ _, fun x hx y hy => ?_⟩, fun x hx => ?_⟩, fun s n => ?_, fun x hx => ?_⟩
    · rw [List.mem_singleton.mp hy]
      rcases List.mem_append.mp hx with hx | hx
      · exact apart_tr (p3 x hx l List.mem_cons_self) fl ap
      · rw [List.mem_singleton.mp hx]
        exact ap
    · rcases List.mem_append.mp hx with hx | hx
      · exact ha.2 x hx
      · rw [List.mem_singleton.mp hx]
        exact f
    · rw [has_app, has_cons]
      simp only [has_nil, or_false]
    · rw [List.getLast?_concat] at hx
      cases (Option.some.inj hx)
      exact ⟨rfl, Int.le_refl _⟩
  · rw [if_neg ap]
    have na : ¬ ((l.1 = r.1 ∧ l.2.2 < r.2.1) ∨ sl l.1 r.1) := fun z => ap ((apart_iff l r).mpr z)
    have w1 : l.1 = r.1 ∧ l.2.1 ≤ r.2.1 := w.resolve_right fun z => na (.inr z)
    have w2 : r.2.1 ≤ l.2.2 := Int.not_lt.mp fun z => na (.inl ⟨w1.1, z⟩)
    generalize hm : (if r.2.2 > l.2.2 then r.2.2 else l.2.2) = m
    have m1 : m = r.2.2 ∧ l.2.2 < r.2.2 ∨ m = l.2.2 ∧ r.2.2 ≤ l.2.2 := by
      split at hm <;> omega
    refine ⟨⟨List.pairwise_append.mpr ⟨p1, List.pairwise_singleton _ _, fun x hx y hy => ?_⟩, fun x hx => ?_⟩, fun s n => ?_, fun x hx => ?_⟩
    · rw [List.mem_singleton.mp hy]
      have z := p3 x hx l List.mem_cons_self
      rw [apart_iff] at z ⊢
      exact z
    · rcases List.mem_append.mp hx with hx | hx
      · exact ha.2 x (List.mem_append_left _ hx)
      · rw [List.mem_singleton.mp hx]
        show l.2.1 < m
        omega
    · rw [has_app, has_app, has_cons, has_cons]
      simp only [has_nil, or_false]
      rw [or_assoc]
      refine or_congr Iff.rfl ⟨fun ⟨h1, h2, h3⟩ => ?_, ?_⟩
      · by_cases c : n < l.2.2
        · exact .inl ⟨h1, h2, c⟩
        · exact .inr ⟨w1.1 ▸ h1, by omega, by omega⟩
      · rintro (⟨h1, h2, h3⟩ | ⟨h1, h2, h3⟩)
        · exact ⟨h1, h2, show n < m by omega⟩
        · exact ⟨w1.1.trans h1, show l.2.1 ≤ n by omega, show n < m by omega⟩
    · rw [List.getLast?_concat] at hx
      cases (Option.some.inj hx)
      exact w1
theorem fold_ok : ∀ (l acc : List Rn), Canon acc → (∀ x, acc.getLast? = some x → ∀ r ∈ l, Wk x r) → l.Pairwise Wk → Full l →
    Canon (l.foldl push acc) ∧ ∀ s n, has (l.foldl push acc) s n ↔ has acc s n ∨ has l s n
  | [], acc, ha, _, _, _ => ⟨ha, fun s n => by simp only [List.foldl_nil, has_nil, or_false]⟩
  | r :: l, acc, ha, hw, hp, hf => by
    obtain ⟨q1, q2⟩ := List.pairwise_cons.mp hp
    obtain ⟨z1, z2, z3⟩ := push_ok ha (fun x hx => hw x hx r List.mem_cons_self) (hf r List.mem_cons_self)
    obtain ⟨y1, y2⟩ := fold_ok l (push acc r) z1 (fun x hx u hu => by
      obtain ⟨e, k⟩ := z3 x hx
      rcases q1 u hu with ⟨e', k'⟩ | k'
      · exact .inl ⟨e.trans e', by omega⟩
      · exact .inr (e ▸ k')) q2 fun x hx => hf x (List.mem_cons_of_mem _ hx)
    refine ⟨y1, fun s n => ?_⟩
    rw [List.foldl_cons, y2, z2, has_cons, or_assoc]
theorem canon_nil : Canon [] := ⟨List.Pairwise.nil, fun _ h => nomatch h⟩
theorem merge_ok {l : List Rn} (hp : l.Pairwise Wk) (hf : Full l) : Canon (merge l) ∧ ∀ s n, has (merge l) s n ↔ has l s n := by
  obtain ⟨y1, y2⟩ := fold_ok l [] canon_nil (fun x hx => nomatch hx) hp hf
  refine ⟨y1, fun s n => (y2 s n).trans ?_⟩
  simp only [has_nil, false_or]
theorem rnLe_iff (a b : Rn) : rnLe a b = true ↔ sl a.1 b.1 ∨ (a.1 = b.1 ∧ (a.2.1 < b.2.1 ∨ (a.2.1 = b.2.1 ∧ a.2.2 ≤ b.2.2))) := by
  have e : rnLe a b = !PySem.W.dataLt (rnD b) (rnD a) := rfl
  rw [e, rn_lt, Bool.not_eq_true', decide_eq_false_iff_not]
  constructor
  · intro h
    rcases sl_tot a.1 b.1 with k | k | k
    · exact .inl k
    · refine .inr ⟨k, ?_⟩
      by_cases c : a.2.1 < b.2.1
      · exact .inl c
      · refine .inr ⟨?_, ?_⟩
        · by_cases d : b.2.1 < a.2.1
          · exact (h (.inr ⟨k.symm, .inl d⟩)).elim
          · omega
        · by_cases d : b.2.2 < a.2.2
          · by_cases d2 : b.2.1 < a.2.1
            · exact (h (.inr ⟨k.symm, .inl d2⟩)).elim
            · exact (h (.inr ⟨k.symm, .inr ⟨by omega, d⟩⟩)).elim
          · omega
    · exact (h (.inl k)).elim
  · rintro (k | ⟨e, k⟩) (h | ⟨e', h⟩)
    · exact sl_as k h
    · rw [e'] at k
      exact sl_irr _ k
    · have h : sl b.1 a.1 := h
      rw [e] at h
      exact sl_irr _ h
    · omega
theorem sort_Wk (rs : List Rn) : (rs.mergeSort rnLe).Pairwise Wk := by
  have z := List.pairwise_mergeSort (le := rnLe) (fun a b c h1 h2 => ?_) (fun a b => ?_) rs
  · refine z.imp fun {a b} h => ?_
    rcases (rnLe_iff a b).mp h with k | ⟨e, k⟩
    · exact .inr k
    · exact .inl ⟨e, by omega⟩
  · rw [rnLe_iff] at *
    rcases h1 with k | ⟨e, k⟩ <;> rcases h2 with k' | ⟨e', k'⟩
    · exact .inl (sl_tr k k')
    · exact .inl (e' ▸ k)
    · exact .inl (e ▸ k')
    · exact .inr ⟨e.trans e', by omega⟩
  · rw [Bool.or_eq_true, rnLe_iff, rnLe_iff]
    rcases sl_tot a.1 b.1 with k | k | k
    · exact .inl (.inl k)
    · by_cases c : a.2.1 < b.2.1 ∨ a.2.1 = b.2.1 ∧ a.2.2 ≤ b.2.2
      · exact .inl (.inr ⟨k, c⟩)
      · exact .inr (.inr ⟨k.symm, by omega⟩)
    · exact .inr (.inl k)
theorem has_perm {a b : List Rn} (h : ∀ r, r ∈ a ↔ r ∈ b) (s : Str) (n : Int) : has a s n ↔ has b s n :=
  ⟨fun ⟨r, h1, h2⟩ => ⟨r, (h r).mp h1, h2⟩, fun ⟨r, h1, h2⟩ => ⟨r, (h r).mpr h1, h2⟩⟩
theorem runsOf_ok {rs : List Rn} (hf : Full rs) : Canon (runsOf rs) ∧ ∀ s n, has (runsOf rs) s n ↔ has rs s n := by
  obtain ⟨y1, y2⟩ := merge_ok (sort_Wk rs) fun r hr => hf r (List.mem_mergeSort.mp hr)
  exact ⟨y1, fun s n => (y2 s n).trans (has_perm (fun r => List.mem_mergeSort) s n)⟩
theorem runsOf_eq {rs c : List Rn} (hf : Full rs) (hc : Canon c) (h : ∀ s n, has c s n ↔ has rs s n) : runsOf rs = c := by
  obtain ⟨y1, y2⟩ := runsOf_ok hf
  exact canon_uniq y1 hc fun s n => (y2 s n).trans (h s n).symm
/-! pieces joined, as the laws do it -/
def join (acc : List Rn) (r : Rn) : List Rn := match acc.getLast? with
  | none => [r]
  | some l => if l.1 = r.1 ∧ l.2.2 = r.2.1 then acc.dropLast ++ [(r.1, l.2.1, r.2.2)] else acc ++ [r]
theorem join_snoc (acc : List Rn) (l r : Rn) : join (acc ++ [l]) r = if l.1 = r.1 ∧ l.2.2 = r.2.1 then acc ++ [(r.1, l.2.1, r.2.2)] else acc ++ [l] ++ [r] := by
  unfold join
  rw [List.getLast?_concat]
  simp only [List.dropLast_concat]
/-- one behind the other, touching perhaps -/
def Vk (a b : Rn) : Prop := (a.1 = b.1 ∧ a.2.2 ≤ b.2.1) ∨ sl a.1 b.1
theorem join_push {acc : List Rn} {r : Rn} (hw : ∀ x, acc.getLast? = some x → Vk x r) (f : r.2.1 < r.2.2) : join acc r = push acc r ∧ ∀ x, (push acc r).getLast? = some x → x.1 = r.1 ∧ x.2.2 = r.2.2 := by
  rcases nil_or_snoc acc with rfl | ⟨i, l, rfl⟩
  · refine ⟨rfl, fun x hx => ?_⟩
    cases (Option.some.inj hx)
    exact ⟨rfl, rfl⟩
  have w := hw l List.getLast?_concat
  rw [join_snoc, push_snoc]
  by_cases c : l.1 = r.1 ∧ l.2.2 = r.2.1
  · have ap : ¬ apart l r = true := fun z => by
      rcases (apart_iff l r).mp z with ⟨_, z⟩ | z
      · omega
      · exact sl_irr _ (c.1 ▸ z)
    rw [if_pos c, if_neg ap, if_pos (by omega), c.1]
    refine ⟨rfl, fun x hx => ?_⟩
    rw [List.getLast?_concat] at hx
    cases (Option.some.inj hx)
    exact ⟨rfl, rfl⟩
  · have ap : apart l r = true := by
      rw [apart_iff]
      rcases w with ⟨e, k⟩ | k
      · exact .inl ⟨e, by have : l.2.2 ≠ r.2.1 := fun z => c ⟨e, z⟩; omega⟩
      · exact .inr k
    rw [if_neg c, if_pos ap]
    refine ⟨rfl, fun x hx => ?_⟩
    rw [List.getLast?_concat] at hx
    cases (Option.some.inj hx)
    exact ⟨rfl, rfl⟩
theorem fold_join : ∀ (l acc : List Rn), (∀ x, acc.getLast? = some x → ∀ r ∈ l, Vk x r) → l.Pairwise Vk → Full l → l.foldl join acc = l.foldl push acc
  | [], _, _, _, _ => rfl
  | r :: l, acc, hw, hp, hf => by
    obtain ⟨q1, q2⟩ := List.pairwise_cons.mp hp
    obtain ⟨z1, z2⟩ := join_push (fun x hx => hw x hx r List.mem_cons_self) (hf r List.mem_cons_self)
    rw [List.foldl_cons, List.foldl_cons, z1]
    refine fold_join l _ (fun x hx u hu => ?_) q2 fun x hx => hf x (List.mem_cons_of_mem _ hx)
    obtain ⟨e, k⟩ := z2 x hx
    rcases q1 u hu with ⟨e', k'⟩ | k'
    · exact .inl ⟨e.trans e', by omega⟩
    · exact .inr (e ▸ k')
def pcs (cs : List Int) : List (Int × Int) := cs.zip cs.tail
theorem pcs_cons (x y : Int) (l : List Int) : pcs (x :: y :: l) = (x, y) :: pcs (y :: l) := rfl
theorem pcs_len (cs : List Int) : (pcs cs).length ≤ cs.length := by
  unfold pcs
  rw [List.length_zip]
  omega
theorem pcs_in : ∀ {cs : List Int} {p : Int × Int}, p ∈ pcs cs → p.1 ∈ cs ∧ p.2 ∈ cs
  | [], p, h => nomatch h
  | [x], p, h => nomatch h
  | x :: y :: l, p, h => by
    rw [pcs_cons] at h
    rcases List.mem_cons.mp h with rfl | h
    · exact ⟨List.mem_cons_self, List.mem_cons_of_mem _ List.mem_cons_self⟩
    · have z := pcs_in h
      exact ⟨List.mem_cons_of_mem _ z.1, List.mem_cons_of_mem _ z.2⟩
theorem pcs_up : ∀ {cs : List Int}, cs.Pairwise (· < ·) → (pcs cs).Pairwise (fun a b => a.2 ≤ b.1) ∧ ∀ p ∈ pcs cs, p.1 < p.2 ∧ ∀ c ∈ cs, c ≤ p.1 ∨ p.2 ≤ c
  | [], _ => ⟨.nil, fun _ h => nomatch h⟩
  | [x], _ => ⟨.nil, fun _ h => nomatch h⟩
  | x :: y :: l, h => by
    obtain ⟨h1, h2⟩ := List.pairwise_cons.mp h
    obtain ⟨h3, h4⟩ := List.pairwise_cons.mp h2
    obtain ⟨i1, i2⟩ := pcs_up h2
    rw [pcs_cons]
    have le : ∀ c ∈ y :: l, y ≤ c := fun c hc => by
      rcases List.mem_cons.mp hc with rfl | hc
      · exact Int.le_refl _
      · have := h3 c hc
        omega
    refine ⟨List.pairwise_cons.mpr ⟨fun p hp => le _ (pcs_in hp).1, i1⟩, fun p hp => ?_⟩
    rcases List.mem_cons.mp hp with rfl | hp2
    · refine ⟨h1 y List.mem_cons_self, fun c hc => ?_⟩
      rcases List.mem_cons.mp hc with rfl | hc
      · exact .inl (Int.le_refl _)
      · exact .inr (le c hc)
    · obtain ⟨j1, j2⟩ := i2 p hp2
      refine ⟨j1, fun c hc => ?_⟩
      rcases List.mem_cons.mp hc with rfl | hc
      · have := h1 _ (pcs_in hp2).1
        exact .inl (by omega)
      · exact j2 c hc
theorem pcs_at : ∀ {cs : List Int} {a b n : Int}, cs.Pairwise (· < ·) → a ∈ cs → b ∈ cs → a ≤ n → n < b → ∃ p ∈ pcs cs, p.1 ≤ n ∧ n < p.2
  | [], _, _, _, _, h, _, _, _ => nomatch h
  | [x], a, b, n, _, h1, h2, h3, h4 => by
    rw [List.mem_singleton] at h1 h2
    omega
  | x :: y :: l, a, b, n, h, h1, h2, h3, h4 => by
    obtain ⟨g1, g2⟩ := List.pairwise_cons.mp h
    rw [pcs_cons]
    by_cases c : n < y
    · refine ⟨(x, y), List.mem_cons_self, ?_, c⟩
      rcases List.mem_cons.mp h1 with rfl | h1
      · exact h3
      · have := g1 a h1
        show x ≤ n
        omega
    · have hb : b ∈ y :: l := by
        rcases List.mem_cons.mp h2 with rfl | h2
        · have := g1 y List.mem_cons_self
          omega
        · exact h2
      obtain ⟨p, p1, p2⟩ := pcs_at (a := y) g2 List.mem_cons_self hb (by omega) h4
      exact ⟨p, List.mem_cons_of_mem _ p1, p2⟩
/-- the pieces of a series that are good -/
def goods (P : Str → Int → Bool) (s : Str) (ps : List (Int × Int)) : List Rn := (ps.filter fun p => P s p.1).map fun p => (s, p.1, p.2)
def mades (P : Str → Int → Bool) (ns : List Str) (cs : List Int) : List Rn := (ns.flatMap fun s => goods P s (pcs cs)).foldl join []
theorem goods_in {P : Str → Int → Bool} {s : Str} {ps : List (Int × Int)} {r : Rn} : r ∈ goods P s ps ↔ r.1 = s ∧ (r.2.1, r.2.2) ∈ ps ∧ P s r.2.1 = true := by
  unfold goods
  rw [List.mem_map]
  constructor
  · rintro ⟨p, h, rfl⟩
    obtain ⟨h1, h2⟩ := List.mem_filter.mp h
    exact ⟨rfl, h1, h2⟩
  · rintro ⟨h1, h2, h3⟩
    exact ⟨(r.2.1, r.2.2), List.mem_filter.mpr ⟨h2, h3⟩, Prod.ext h1.symm rfl⟩
/-- what is made is the one writing of the notes that P tells -/
theorem mades_ok {P : Str → Int → Bool} {ns : List Str} {cs : List Int} (hn : ns.Pairwise sl) (hc : cs.Pairwise (· < ·))
    (flat : ∀ s p n, p ∈ pcs cs → p.1 ≤ n → n < p.2 → P s n = P s p.1) (only : ∀ s n, P s n = true → s ∈ ns ∧ ∃ p ∈ pcs cs, p.1 ≤ n ∧ n < p.2) :
    Canon (mades P ns cs) ∧ ∀ s n, has (mades P ns cs) s n ↔ P s n = true := by
  obtain ⟨u1, u2⟩ := pcs_up hc
  have full : Full (ns.flatMap fun s => goods P s (pcs cs)) := fun r hr => by
    obtain ⟨s, _, h2⟩ := List.mem_flatMap.mp hr
    exact (u2 _ (goods_in.mp h2).2.1).1
  have pv : (ns.flatMap fun s => goods P s (pcs cs)).Pairwise Vk := by
    rw [List.pairwise_flatMap]
    refine ⟨fun s _ => ?_, hn.imp fun {s s'} h x hx y hy => ?_⟩
    · unfold goods
      rw [List.pairwise_map]
      exact (u1.filter _).imp fun h => .inl ⟨rfl, h⟩
    · refine .inr ?_
      rw [(goods_in.mp hx).1, (goods_in.mp hy).1]
      exact h
  have pw : (ns.flatMap fun s => goods P s (pcs cs)).Pairwise Wk := List.Pairwise.imp_of_mem (fun {a b} ha hb h => by
    rcases h with ⟨e, k⟩ | k
    · have := full a ha
      exact .inl ⟨e, by omega⟩
    · exact .inr k) pv
  obtain ⟨y1, y2⟩ := merge_ok pw full
  have e : mades P ns cs = merge (ns.flatMap fun s => goods P s (pcs cs)) := fold_join _ [] (fun x hx => nomatch hx) pv full
  rw [e]
  refine ⟨y1, fun s n => (y2 s n).trans ⟨?_, fun h => ?_⟩⟩
  · rintro ⟨r, hr, rfl, h1, h2⟩
    obtain ⟨s', _, g⟩ := List.mem_flatMap.mp hr
    obtain ⟨g1, g2, g3⟩ := goods_in.mp g
    subst g1
    rw [flat r.1 (r.2.1, r.2.2) n g2 h1 h2]
    exact g3
  · obtain ⟨h1, p, h2, h3, h4⟩ := only s n h
    refine ⟨(s, p.1, p.2), List.mem_flatMap.mpr ⟨s, h1, goods_in.mpr ⟨rfl, h2, ?_⟩⟩, rfl, h3, h4⟩
    rw [← flat s p n h2 h3 h4]
    exact h
def hasB (rs : List Rn) (s : Str) (n : Int) : Bool := rs.any fun r => decide (r.1 = s) && (decide (r.2.1 ≤ n) && decide (n < r.2.2))
theorem hasB_iff (rs : List Rn) (s : Str) (n : Int) : hasB rs s n = true ↔ has rs s n := by
  unfold hasB has
  rw [List.any_eq_true]
  simp only [Bool.and_eq_true, decide_eq_true_eq]
/-- ends and names of the runs are among those told -/
def Ends (rs : List Rn) (ns : List Str) (cs : List Int) : Prop := ∀ r ∈ rs, r.1 ∈ ns ∧ r.2.1 ∈ cs ∧ r.2.2 ∈ cs
theorem hasB_flat {rs : List Rn} {ns : List Str} {cs : List Int} (he : Ends rs ns cs) (hc : cs.Pairwise (· < ·)) {s : Str} {p : Int × Int} {n : Int} (hp : p ∈ pcs cs) (h1 : p.1 ≤ n) (h2 : n < p.2) : hasB rs s n = hasB rs s p.1 := by
  obtain ⟨u1, u2⟩ := pcs_up hc
  obtain ⟨v1, v2⟩ := u2 p hp
  rw [Bool.eq_iff_iff, hasB_iff, hasB_iff]
  constructor
  · rintro ⟨r, hr, e, k1, k2⟩
    have z1 := v2 _ (he r hr).2.1
    have z2 := v2 _ (he r hr).2.2
    exact ⟨r, hr, e, by omega, by omega⟩
  · rintro ⟨r, hr, e, k1, k2⟩
    have z1 := v2 _ (he r hr).2.1
    have z2 := v2 _ (he r hr).2.2
    exact ⟨r, hr, e, by omega, by omega⟩
theorem hasB_only {rs : List Rn} {ns : List Str} {cs : List Int} (he : Ends rs ns cs) (hc : cs.Pairwise (· < ·)) {s : Str} {n : Int} (h : hasB rs s n = true) : s ∈ ns ∧ ∃ p ∈ pcs cs, p.1 ≤ n ∧ n < p.2 := by
  obtain ⟨r, hr, rfl, k1, k2⟩ := (hasB_iff _ _ _).mp h
  obtain ⟨e1, e2, e3⟩ := he r hr
  exact ⟨e1, pcs_at hc e2 e3 k1 k2⟩
theorem mades_runs {rs : List Rn} {ns : List Str} {cs : List Int} (hf : Full rs) (he : Ends rs ns cs) (hn : ns.Pairwise sl) (hc : cs.Pairwise (· < ·)) : mades (hasB rs) ns cs = runsOf rs := by
  obtain ⟨y1, y2⟩ := mades_ok (P := hasB rs) hn hc (fun s p n h1 h2 h3 => hasB_flat he hc h1 h2 h3) (fun s n h => hasB_only he hc h)
  exact (runsOf_eq hf y1 fun s n => (y2 s n).trans (hasB_iff _ _ _)).symm
theorem runsOf_mems {a b : List Rn} (hf : Full a) (h : ∀ r, r ∈ a ↔ r ∈ b) : runsOf a = runsOf b := by
  have hb : Full b := fun r hr => hf r ((h r).mpr hr)
  obtain ⟨y1, y2⟩ := runsOf_ok hb
  exact runsOf_eq hf y1 fun s n => (y2 s n).trans (has_perm h s n).symm
theorem runsOf_again {a : List Rn} (hf : Full a) : runsOf (runsOf a) = runsOf a := by
  obtain ⟨y1, y2⟩ := runsOf_ok hf
  exact runsOf_eq y1.2 y1 fun s n => Iff.rfl
/-! ### sets of keys (ints, texts), however many: set(list), sorted of a set -/
def kx (e : Int × Value) : Key := match e.2 with
  | .int k _ => .inl k
  | .str x _ => .inr x
  | _ => .inl 0
def Gk (w : World) (e : Int × Value) : Prop := ∃ k, keyIs k e.2 = true ∧ e.1 = keyH w k
theorem kx_of {k : Key} {e : Int × Value} (h : keyIs k e.2 = true) : kx e = k := by
  rcases keyIs_shape h with ⟨i, t, rfl, q⟩ | ⟨x, t, rfl, q⟩ <;> (unfold kx; rw [q])
theorem kx_is {w : World} {e : Int × Value} (g : Gk w e) (k : Key) : keyIs k e.2 = true ↔ kx e = k := by
  refine ⟨kx_of, fun q => ?_⟩
  obtain ⟨k0, h1, _⟩ := g
  rw [kx_of h1] at q
  rw [← q]
  exact h1
/-- at a stands a set of n keys, just those that S tells -/
def SX (w : World) (h : Heap) (a : Addr) (S : Key → Prop) (n : Nat) : Prop := ∃ (o : Obj) (es : Array (Int × Value)) (ep : Nat) (t : SetTable),
  (h.get? a = some o ∧ o.ExactSet ∧ o.data = .set es ep t) ∧ ((∀ e ∈ es.toList, Gk w e) ∧ (es.toList.map kx).Nodup ∧ ∀ k, S k ↔ k ∈ es.toList.map kx) ∧
  (es.size < scanBound ∧ t.fits es.size = true ∧ es.size = n) ∧ Ris t.place.toList ∧ (w.params.followText "set-order" = true ∨ t.led = true)
section
variable {P : Program} {w : World} {A : Around} {E : Value → Shared → Prop} {s : Shared} {a : Addr} {S : Key → Prop} {n : Nat}
theorem SX.keep {h h' : Heap} (R : SX w h a S n) (k : ∀ o, h.get? a = some o → h'.get? a = some o) : SX w h' a S n := by
  obtain ⟨o, es, ep, t, ⟨h1, h2⟩, r⟩ := R
  exact ⟨o, es, ep, t, ⟨k o h1, h2⟩, r⟩
theorem SX.like {h : Heap} {S' : Key → Prop} (R : SX w h a S n) (k : ∀ j, S' j ↔ S j) : SX w h a S' n := by
  have e : S' = S := funext fun j => propext (k j)
  rw [e]
  exact R
theorem gk_all {l : List (Int × Value)} (g : ∀ e ∈ l, Gk w e) : ElemsOf (mixKind P w) l := fun e he => by
  obtain ⟨k, q1, q2⟩ := g e he
  refine ⟨⟨k, q1, q2⟩, ?_⟩
  rcases keyIs_shape q1 with ⟨i, t, _, q⟩ | ⟨x, t, _, q⟩ <;> (rw [q]; rfl)
theorem put_at {h : Heap} {o : Obj} {es es' : Array (Int × Value)} {ep : Nat} {t t' : SetTable} (q1 : h.get? a = some o) (q2 : o.data = .set es ep t) :
    (h.update a (Obj.putSet es' t')).get? a = some { o with data := .set es' (ep + 1) t' } := by
  have z := Heap.get?_update_self (Obj.putSet es' t') q1 (by rw [putSet_of es' t' q2]; rfl)
  exact z.trans (congrArg some (putSet_of es' t' q2))
theorem sx_lay {g : Bool → Sem Unit} (calm : ∀ (b : Bool) (s1 : Shared) (Z : Unit → Shared → Prop), Z () s1 → wpAny (model P w) A (g b) Z E s1)
    {o : Obj} {es fs : Array (Int × Value)} {ep : Nat} {t u : SetTable} {S' : Key → Prop} (q : s.heap.get? a = some o ∧ o.ExactSet ∧ o.data = .set es ep t)
    (keys : (∀ e ∈ fs.toList, Gk w e) ∧ (fs.toList.map kx).Nodup ∧ ∀ k, S' k ↔ k ∈ fs.toList.map kx) (few : fs.size < scanBound) (fit : u.fits fs.size = true) (up : Ris u.place.toList)
    (led : w.params.followText "set-order" = true ∨ u.led = true) {dm : Bool} {Z : Option Bool → Shared → Prop}
    (fin : ∀ h', Heap.SameBut a s.heap h' → SX w h' a S' fs.size → Z (some true) { s with heap := h' }) :
    wpAny (model P w) A (do
      storeSet a fs u
      if (!dm && u.tooFull) = true then do
          g (relayAll u fs (SetTable.grown fs.size)).2.2
          storeSet a (relayAll u fs (SetTable.grown fs.size)).1 (relayAll u fs (SetTable.grown fs.size)).2.1
          pure (some true)
        else pure (some true)) Z E s := by
  obtain ⟨q1, q2, q3⟩ := q
  obtain ⟨k1, k2, k3⟩ := keys
  refine wpAny_bind (wpAny_storeSet_of q1 q3 ?_ (fits_of_scanBound few))
  have at1 := put_at (es' := fs) (t' := u) q1 q3
  have b1 := Heap.SameBut.update s.heap a (Obj.putSet fs u)
  split
  · have p1 := relayAll_perm u fs (SetTable.grown fs.size)
    have p2 := relayAll_fits u fs (SetTable.grown fs.size)
    have p3 := relayAll_ris u fs (SetTable.grown fs.size)
    have p4 := relayAll_led u fs (SetTable.grown fs.size)
    generalize relayAll u fs (SetTable.grown fs.size) = L at p1 p2 p3 p4 ⊢
    obtain ⟨gs, v, gave⟩ := L
    dsimp only at p1 p2 p3 p4 ⊢
    have size : gs.size = fs.size := by rw [← Array.length_toList, p1.length_eq, Array.length_toList]
    have few2 : gs.size < scanBound := by omega
    refine wpAny_bind (calm _ _ _ ?_)
    refine wpAny_bind (wpAny_storeSet_of at1 rfl ?_ (fits_of_scanBound few2))
    have at2 := put_at (es' := gs) (t' := v) at1 rfl
    refine wpAny_pure (fin _ (b1.trans (Heap.SameBut.update _ a _)) ⟨_, gs, _, v, ⟨at2, q2, rfl⟩, ⟨fun e he => k1 e (p1.mem_iff.mp he), (p1.map kx).nodup_iff.mpr k2, fun k => (k3 k).trans (p1.map kx).mem_iff.symm⟩, ⟨few2, p2, size⟩, p3, ?_⟩)
    exact led.imp _root_.id fun z => p4.trans z
  · exact wpAny_pure (fin _ b1 ⟨_, fs, _, u, ⟨at1, q2, rfl⟩, ⟨k1, k2, k3⟩, ⟨few, fit, rfl⟩, up, led⟩)
theorem sx_add {k : Key} {v : Value} {Z : Bool → Shared → Prop} (R : SX w s.heap a S n) (room : n + 1 < scanBound) (hk : keyIs k v = true)
    (fin : ∀ h' m, Heap.SameBut a s.heap h' → m ≤ n + 1 → SX w h' a (fun j => S j ∨ j = k) m → ∀ b, Z b { s with heap := h' }) :
    wpAny (model P w) A (setAddHashed a v (keyH w k)) Z E s := by
  obtain ⟨o, es, ep, t, ⟨q1, q2, q3⟩, ⟨k1, k2, k3⟩, ⟨few, fit, size⟩, up, led⟩ := R
  have scan : v.scannable = true := by
    rcases keyIs_shape hk with ⟨i, t, _, rfl⟩ | ⟨x, t, _, rfl⟩ <;> rfl
  have all : ElemsOf (mixKind P w) es.toList := gk_all k1
  have is' : (mixKind P w).is k v = true := hk
  unfold setAddHashed setAddHashedIn
  refine wpAny_holding (wpAny_bind (wpAny_setState_of q1 q3 fit ?_))
  dsimp only
  rw [byScan_of scan few all]
  simp only [↓reduceIte]
  unfold setAddByScan
  refine wpAny_bind ?_
  refine wpAny_bind (wpAny_rule ?_)
  refine wpAny_bind (wpAny_setScan_of is' q1 q3 fit all ?_)
  have memb : ∀ j, j ∈ es.toList.map kx ↔ ∃ e ∈ es.toList, keyIs j e.2 = true := fun j => by
    rw [List.mem_map]
    exact ⟨fun ⟨e, h1, h2⟩ => ⟨e, h1, (kx_is (k1 e h1) j).mpr h2⟩, fun ⟨e, h1, h2⟩ => ⟨e, h1, (kx_is (k1 e h1) j).mp h2⟩⟩
  cases found : List.findIdx? (fun e => (mixKind P w).is k e.2) es.toList with
  | some j =>
    dsimp only
    obtain ⟨hj, pj, _⟩ := List.findIdx?_eq_some_iff_getElem.mp found
    have inS : S k := (k3 k).mpr ((memb k).mpr ⟨es.toList[j], List.getElem_mem hj, pj⟩)
    refine wpAny_pure (wpAny_pure ?_)
    exact fin s.heap n (Heap.SameBut.refl a s.heap) (Nat.le_succ _) ⟨o, es, ep, t, ⟨q1, q2, q3⟩, ⟨k1, k2, fun i => by rw [← k3 i]; exact ⟨fun z => z.elim _root_.id fun e => e ▸ inS, .inl⟩⟩, ⟨few, fit, size⟩, up, led⟩ _
  | none =>
    dsimp only
    have new : k ∉ es.toList.map kx := fun z => by
      obtain ⟨e, h1, h2⟩ := (memb k).mp z
      have c := List.findIdx?_eq_none_iff.mp found e h1
      have c : keyIs k e.2 = false := c
      rw [h2] at c
      cases c
    have way : ∀ (b : Bool) {s1 : Shared} {Y : Unit → Shared → Prop}, Y () s1 → wpAny (model P w) A (match b with | true => rule "set.scan.the-table-gave-way" | false => pure ()) Y E s1 := fun b s1 Y y => by
      cases b
      · exact wpAny_pure y
      · exact wpAny_rule y
    have p1 := layNew_perm t es (keyH w k) v
    have p2 := layNew_fits t es (keyH w k) v
    have p3 := layNew_ris t es (keyH w k) v up
    have p4 := layNew_led t es (keyH w k) v
    generalize layNew t es (keyH w k) v = L at p1 p2 p3 p4 ⊢
    obtain ⟨fs, u, dm, gave⟩ := L
    dsimp only at p1 p2 p3 p4 ⊢
    rw [Array.toList_push] at p1
    have pc : fs.toList.Perm ((keyH w k, v) :: es.toList) := p1.trans (List.perm_append_singleton _ _)
    have pk : (fs.toList.map kx).Perm (k :: es.toList.map kx) := by
      have z := pc.map kx
      rw [List.map_cons, kx_of (e := (keyH w k, v)) hk] at z
      exact z
    have keys : (∀ e ∈ fs.toList, Gk w e) ∧ (fs.toList.map kx).Nodup ∧ ∀ j, (S j ∨ j = k) ↔ j ∈ fs.toList.map kx := by
      refine ⟨fun e he => ?_, pk.nodup_iff.mpr (List.nodup_cons.mpr ⟨new, k2⟩), fun j => ?_⟩
      · rcases List.mem_cons.mp (pc.mem_iff.mp he) with z | z
        · rw [z]
          exact ⟨k, hk, rfl⟩
        · exact k1 e z
      · rw [k3 j, pk.mem_iff, List.mem_cons]
        exact Or.comm
    have size2 : fs.size = n + 1 := by rw [← Array.length_toList, pc.length_eq, List.length_cons, Array.length_toList, size]
    have few2 : fs.size < scanBound := by omega
    have led2 : w.params.followText "set-order" = true ∨ u.led = true := led.imp _root_.id fun z => p4.trans z
    have fin2 : ∀ h', Heap.SameBut a s.heap h' → SX w h' a (fun j => S j ∨ j = k) fs.size → ∀ b, Z b { s with heap := h' } := fun h' sb r => fin h' _ sb (Nat.le_of_eq size2) r
    refine wpAny_bind (way _ ?_)
    split
    · refine wpAny_bind ?_
      rw [hashByValue_scannable 8 scan]
      refine wpAny_pure ?_
      refine sx_lay ?_ ⟨q1, q2, q3⟩ keys few2 ?_ ?_ ?_ ?_
      · intro b s1 Y y
        cases b
        · exact wpAny_pure y
        · exact wpAny_rule y
      · first | (split <;> first | exact p2 | exact SetTable.fits_plain_off p2) | exact p2
      · first | (split <;> exact p3) | exact p3
      · first | (split <;> exact led2) | exact led2
      · intro h' sb r
        dsimp only
        exact wpAny_pure (fin2 h' sb r _)
    · refine wpAny_bind (wpAny_pure ?_)
      simp only [↓reduceIte]
      refine sx_lay ?_ ⟨q1, q2, q3⟩ keys few2 p2 p3 led2 ?_
      · intro b s1 Y y
        cases b
        · exact wpAny_pure y
        · exact wpAny_rule y
      · intro h' sb r
        dsimp only
        exact wpAny_pure (fin2 h' sb r _)
theorem sx_loop {I : Addr} {fp wr : List Addr} {G : Array GenState → Array GenState → Prop} {n : Nat} {Pv : Nat → Value → Prop} {St : Nat → Shared → Prop} {R : Result → Shared → Prop}
    (W : WalksS P w A.in1 I fp wr G n Pv St) (D : Addr) (hD : D ∉ fp) (ks : List Key) (hn : n = ks.length) (few : ks.length + 1 < scanBound) (are : ∀ i v, Pv i v → ∃ k, ks[i]? = some k ∧ keyIs k v = true) :
    ∀ (m i : Nat) (s : Shared), n - i = m → i ≤ n → St i s → (∃ c, c ≤ i ∧ SX w s.heap D (fun j => j ∈ ks.take i) c) →
      (∀ s' c, Moved (D :: wr) G s s' → c ≤ n → SX w s'.heap D (fun j => j ∈ ks) c → R (.ok (.ret .none)) s') →
      codeAny (model P w) A (.builtin "set.update.loop" ⟨[.ref D, .ref I], []⟩) R s := by
  have notw : D ∉ wr := fun z => hD (W.sub _ z)
  have more : ∀ b ∈ wr, b ∈ D :: wr := fun b hb => List.mem_cons_of_mem _ hb
  intro m
  induction m with
  | zero =>
    intro i s e1 e2 st ⟨c, hc, hS⟩ fin
    obtain rfl : i = n := by omega
    refine codeAny_builtin F.entry_set_update_loop ?_
    rw [Around.under_plainId F.plain_set_update_loop _]
    show wpAny _ A.in1 (pyNext (.ref I) >>= _) _ _ s
    refine wpAny_bind (W.done s _ _ st fun s2 mv => ?_)
    show wpAny _ A.in1 (ret Value.none) _ _ s2
    rw [List.take_of_length_le (l := ks) (i := i) (by omega)] at hS
    exact wpAny_pure (fin s2 c (mv.mono more) hc (hS.keep fun o e => mv.heap D o notw e))
  | succ m ih =>
    intro i s e1 e2 st ⟨c, hc, hS⟩ fin
    have lt : i < n := by omega
    refine codeAny_builtin F.entry_set_update_loop ?_
    rw [Around.under_plainId F.plain_set_update_loop _]
    show wpAny _ A.in1 (pyNext (.ref I) >>= _) _ _ s
    refine wpAny_bind (W.item i s _ _ lt st fun v s2 pv st2 mv => ?_)
    obtain ⟨k, hk, isk⟩ := are i v pv
    have hS2 := hS.keep fun o e => mv.heap D o notw e
    show wpAny _ A.in1 (holding [v] (setAdd D v) >>= _) _ _ s2
    refine wpAny_bind (wpAny_holding ?_)
    unfold setAdd
    refine wpAny_holding ?_
    refine wpAny_bind ((mixKind P w).pyHash (k := k) isk ?_)
    refine sx_add (s := { s2 with toks := s2.toks + 1 }) hS2 (by omega) isk fun h' m2 sb hm hS3 b => ?_
    have hS4 : SX w h' D (fun j => j ∈ ks.take (i + 1)) m2 := hS3.like fun j => by
      rw [List.take_add_one, hk, List.mem_append]
      simp
    refine wpAny_pure ⟨plainId_quiet F.plain_set_update_loop _, ih (i + 1) _ (by omega) lt (W.frame _ s2 _ _ st2 (Nat.le_succ _) fun b hb o e => ?_) ⟨_, (show m2 ≤ i + 1 by omega), hS4⟩ fun s3 c3 mv3 hc3 hS5 => ?_⟩
    · rw [sb.2 b (fun z : b = D => hD (z ▸ hb))]
      exact e
    · refine fin s3 c3 (Moved.trans W.gtrans ((mv.mono more).then_heap (Nat.le_succ _) fun b o hb e => ?_) mv3) hc3 hS5
      rw [sb.2 b (fun z : b = D => hb (by rw [z]; exact List.mem_cons_self))]
      exact e
theorem sx_new {h : Heap} {ks : List Key} (q : h.get? a = some { cls := .type "set", dict := none, data := .set #[] 0 (.fresh 0 0 (!w.params.followText "set-order")) }) : SX w h a (fun j => j ∈ ks.take 0) 0 := by
  refine ⟨_, #[], 0, _, ⟨q, ⟨rfl, rfl, rfl⟩, rfl⟩, ⟨fun e he => by simp at he, by simp, fun k => by simp⟩, ⟨by decide, by rfl, rfl⟩, List.Pairwise.nil, ?_⟩
  show _ ∨ (!w.params.followText "set-order") = true
  cases w.params.followText "set-order"
  · exact .inr rfl
  · exact .inl rfl
set_option maxHeartbeats 3200000 in
theorem sx_call {l : Addr} {items : Array Value} (ks : List Key) {Q : Value → Shared → Prop} (hh : A.handled = none) (hl : s.heap.IsList l items) (len : items.size = ks.length) (are : ∀ (i : Nat) (v : Value), items[i]? = some v → ∃ k, ks[i]? = some k ∧ keyIs k v = true) (few : ks.length + 1 < scanBound)
    (fin : ∀ (h' : Heap) (tk c : Nat), SX w h' s.heap.objs.size (fun j => j ∈ ks) c → c ≤ ks.length → (∀ b o, s.heap.get? b = some o → h'.get? b = some o) → Q (.ref s.heap.objs.size) { s with heap := h', toks := tk }) :
    wpAny (model P w) A (call (.type "set") [.ref l]) Q E s := by
  obtain ⟨c, tl, m1⟩ := F.called_set.mro
  have m2 := F.called_set.made
  have m3 := F.called_set.sub
  refine wpAny_call (codeAny_of_tree ?_)
  show wpAny _ _ (callAny (.type "set") _) _ _ _
  refine wpAny_pure ⟨Code.quiet_builtin _ (by decide +kernel), codeAny_builtin F.entry_type_call ?_⟩
  rw [Around.under_plain (weight_type_call_type "set" [.ref l] []) rfl]
  have m4 := F.called_set.notType
  have m5 := F.called_set.canCreate
  have m6 := F.typeCall_set_1 (.ref l)
  repeat (any_goals (first | assumption | wp_step))
  refine codeAny_mono (code_set_led1 (.ref l) (E := E) (Q₁ := fun obj s1 => obj = .ref s.heap.objs.size ∧ s1 = { s with heap := s.heap.push { cls := .type "set", dict := none, data := .set #[] 0 (.fresh 0 0 (!w.params.followText "set-order")) } }) ⟨rfl, rfl⟩) fun r s1 hr => ?_
  cases r with
  | error e => exact hr
  | ok fl =>
    cases fl with
    | ret obj =>
      obtain ⟨rfl, rfl⟩ := hr
      have atS : (s.heap.push { cls := .type "set", dict := none, data := .set #[] 0 (.fresh 0 0 (!w.params.followText "set-order")) }).get? s.heap.objs.size = some { cls := .type "set", dict := none, data := .set #[] 0 (.fresh 0 0 (!w.params.followText "set-order")) } := Heap.get?_push_size _ rfl
      have tyS : Shared.TypeIs { s with heap := s.heap.push { cls := .type "set", dict := none, data := .set #[] 0 (.fresh 0 0 (!w.params.followText "set-order")) } } (.ref s.heap.objs.size) "set" := ⟨_, atS, rfl⟩
      have m7 := F.called_set.init.lookup
      have m8 := F.called_set.init.bind (.ref s.heap.objs.size)
      repeat (any_goals (first | assumption | wp_step))
      refine codeAny_mono (codeAny_call_builtin (R := wants (fun r s2 => r = .none ∧ ∃ h' tk c, s2 = { s with heap := h', toks := tk } ∧ SX w h' s.heap.objs.size (fun j => j ∈ ks) c ∧ c ≤ ks.length ∧
          (∀ b o, s.heap.get? b = some o → h'.get? b = some o)) E) F.called_set.init.plain F.entry_set_init (check_set_init_1 tyS ?_)) fun r2 s2 hr2 => ?_
      · obtain ⟨ol, o1, o2, nl, o3⟩ := hl
        obtain ⟨ocls, odict, odata, oslots⟩ := ol
        simp only at o2 o3
        subst o2
        subst o3
        have at2 : (s.heap.push { cls := .type "set", dict := none, data := .set #[] 0 (.fresh 0 0 (!w.params.followText "set-order")) }).get? l = some { cls := .type "list", dict := odict, data := .seq items nl, slots := oslots } := Heap.get?_push_of_some _ o1
        have n1 := F.sub_list_set
        have n2 := F.sub_list_frozenset
        have n3 : (Value.type "list" == Value.type "dict") = false := by decide
        have isl : (s.heap.push { cls := .type "set", dict := none, data := .set #[] 0 (.fresh 0 0 (!w.params.followText "set-order")) }).IsList l items := ⟨_, at2, rfl, nl, rfl⟩
        unfold Builtin.«set.__init__» noKeywords Builtin.Frozenset.updateFrom
        generalize hPI : pyIter = PI
        wp_walk
        subst hPI
        refine wpAny_pyIter_list isl ?_
        refine wpAny_bind (wpAny_runValue ?_)
        have lS : l < s.heap.objs.size := Heap.lt_size o1
        have hh3 : A.in1.in1.in1.handled = none := by simp [hh]
        have sz1 : (s.heap.push { cls := .type "set", dict := none, data := .set #[] 0 (.fresh 0 0 (!w.params.followText "set-order")) }).objs.size = s.heap.objs.size + 1 := Heap.size_push ..
        have ne1 : l ≠ (s.heap.push { cls := .type "set", dict := none, data := .set #[] 0 (.fresh 0 0 (!w.params.followText "set-order")) }).objs.size := Nat.ne_of_lt (sz1.symm ▸ Nat.lt_succ_of_lt lS)
        have ne2 : s.heap.objs.size ∉ [(s.heap.push { cls := .type "set", dict := none, data := .set #[] 0 (.fresh 0 0 (!w.params.followText "set-order")) }).objs.size, l] := by
          rw [sz1]
          simp only [List.mem_cons, List.not_mem_nil, or_false, not_or]
          exact ⟨Nat.ne_of_lt (Nat.lt_succ_self _), Nat.ne_of_gt lS⟩
        refine sx_loop ((Walks.list hh3 _ l ne1 items).toS) s.heap.objs.size ne2 ks len few are (items.size - 0) 0 _ (by omega) (Nat.zero_le _) ⟨⟨_, Heap.get?_push_size _ rfl, rfl, rfl⟩, (isl.push _)⟩ ?one ?all
        case one => exact ⟨0, Nat.le_refl 0, sx_new (Heap.get?_push_of_some _ atS)⟩
        case all =>
          intro s3 c3 mv hc hS
          obtain ⟨h', g2, d', tk', os'⟩ := s3
          have eg : g2 = s.gens := mv.gens
          have ed : d' = s.drawn := mv.drawn
          have eo : os' = s.os := mv.os
          subst eg
          subst ed
          subst eo
          show wpAny _ _ _ _ _ _
          refine wpAny_pure ?_
          show wpAny _ _ (ret Value.none) _ _ _
          refine wpAny_pure ⟨rfl, h', tk', c3, rfl, hS, by omega, fun b o e => ?_⟩
          have lt : b < s.heap.objs.size := Heap.lt_size e
          refine mv.heap b o ?_ (Heap.get?_push_of_some _ (Heap.get?_push_of_some _ e))
          rw [sz1]
          simp only [List.mem_cons, List.not_mem_nil, or_false, not_or]
          exact ⟨Nat.ne_of_lt lt, Nat.ne_of_lt (Nat.lt_succ_of_lt lt)⟩
      · cases r2 with
        | error e => exact hr2
        | ok fl2 =>
          cases fl2 with
          | ret r =>
            obtain ⟨rfl, h', tk, c', rfl, z1, z2, z3⟩ := hr2
            repeat (any_goals (first | assumption | wp_step))
            exact fin _ _ _ z1 z2 z3
          | _ => exact hr2.elim
    | _ => exact hr.elim
/-- sorted of a set whose keys are all read as data by enc -/
theorem sx_sorted {enc : Key → PyData} {Q : Value → Shared → Prop} (R : SX w s.heap a S n) (hh : A.handled = none) (all : ∀ k v, S k → keyIs k v = true → ∃ as, ∀ h : Heap, Reads h v (enc k) as ∧ ∀ b, b ∉ as)
    (alk : ∀ k j, S k → S j → PySem.W.alike (enc k) (enc j) = true) (plain : ∀ k, S k → enc k ≠ .none ∧ ∀ xs, enc k ≠ .tuple xs) (un : A.units + 70 < cLine) (dep : ∀ k, (enc k).depth ≤ 60) (line : n ≤ sizeLine)
    (fin : ∀ s' p (out : List Value) (c : Nat) (ks : List Key), (∀ b o, s.heap.get? b = some o → s'.heap.get? b = some o) → s'.gens = s.gens → s'.os = s.os → s.heap.objs.size ≤ p →
      s'.heap.get? p = some (seqObj "list" out.toArray c) → ks.Nodup → (∀ k, k ∈ ks ↔ S k) → ks.length = n → PySem.W.EachIs (fun v k => keyIs k v = true) out (ks.mergeSort (PySem.W.dataLe false enc)) → Q (.ref p) s') :
    wpAny (model P w) A (call (.builtin "sorted") [.ref a]) Q E s := by
  obtain ⟨o, es, ep, t, ⟨q1, q2, q3⟩, ⟨k1, k2, k3⟩, ⟨few, fit, size⟩, up, led⟩ := R
  refine Calls.call_function_entry PyProof.Rows.kind_sorted PyProof.Rows.plain_sorted PyProof.Rows.entry_sorted (PyProof.Rows.args_sorted1 _) ?_
  unfold Builtin.«sorted»
  refine wpAny_bind (m := checkCount "sorted" 1 1 _) (wpAny_pure ?_)
  refine wpAny_bind (collect_set (A := A.in1) hh ⟨o, q1, q2.1, q3⟩ fit few up led fun s1 vs keep big gens os perm => ?_)
  obtain ⟨ks, p1, p2⟩ : ∃ ks : List Key, ks.Perm (es.toList.map kx) ∧ PySem.W.EachIs (fun v k => keyIs k v = true) vs ks := by
    have key : ∀ l : List Value, (∀ v ∈ l, ∃ k, keyIs k v = true) → PySem.W.EachIs (fun v k => keyIs k v = true) l (l.map fun v => kx (0, v)) := fun l => by
      induction l with
      | nil => exact fun _ => .nil
      | cons v l ih =>
        intro h
        obtain ⟨k, hk⟩ := h v List.mem_cons_self
        exact .cons (by show keyIs (kx (0, v)) v = true; rw [kx_of (e := (0, v)) hk]; exact hk) (ih fun u hu => h u (List.mem_cons_of_mem _ hu))
    refine ⟨vs.map fun v => kx (0, v), ?_, key vs fun v hv => ?_⟩
    · have z := perm.map fun v => kx (0, v)
      rw [List.map_map] at z
      exact z
    · obtain ⟨e, he, rfl⟩ := List.mem_map.mp (perm.mem_iff.mp hv)
      obtain ⟨k, g1, _⟩ := k1 e he
      exact ⟨k, g1⟩
  have inS : ∀ k, k ∈ ks ↔ S k := fun k => by rw [p1.mem_iff, ← k3 k]
  have len1 : ks.length = n := by rw [p1.length_eq, List.length_map, Array.length_toList, size]
  have len2 : vs.length = n := by rw [p2.length, len1]
  refine wpAny_bind (wpAny_newList ?_ (by rw [len2]; exact line))
  have at1 : (s1.heap.push (seqObj "list" vs.toArray 0)).get? s1.heap.objs.size = some (seqObj "list" vs.toArray 0) := Heap.get?_push_size _ rfl
  have reads : ∀ h : Heap, PySem.W.EachIs (fun v k => ∃ as, Reads h v (enc k) as ∧ s1.heap.objs.size ∉ as) vs ks := fun h => by
    have go : ∀ {l : List Value} {m : List Key}, PySem.W.EachIs (fun v k => keyIs k v = true) l m → (∀ k ∈ m, S k) → PySem.W.EachIs (fun v k => ∃ as, Reads h v (enc k) as ∧ s1.heap.objs.size ∉ as) l m := fun {l m} e => by
      induction e with
      | nil => exact fun _ => .nil
      | cons r e ih =>
        intro hS
        obtain ⟨as, ha⟩ := all _ _ (hS _ List.mem_cons_self) r
        exact .cons ⟨as, (ha h).1, (ha h).2 _⟩ (ih fun k hk => hS k (List.mem_cons_of_mem _ hk))
    exact go p2 fun k hk => (inS k).mp hk
  refine wpAny_bind (wpAny_holding (PySem.W.list_sort_data (enc := enc) (R := fun v k => keyIs k v = true) at1 p2 (reads _) (fun d hd e he => ?_) (.inr fun d hd => ?_) (by rw [len1]; exact line) (fun k hk => ?_) fun out ho each => ?_))
  · obtain ⟨k, hk, rfl⟩ := List.mem_map.mp hd
    obtain ⟨j, hj, rfl⟩ := List.mem_map.mp he
    exact alk k j ((inS k).mp hk) ((inS j).mp hj)
  · obtain ⟨k, hk, rfl⟩ := List.mem_map.mp hd
    exact plain k ((inS k).mp hk)
  · have := dep k
    show A.units + 1 + 1 + _ < cLine
    omega
  obtain ⟨c, atp⟩ := PyProof.Rows.sortedHeap_at (vs := vs) (out := out.toArray) at1
  refine wpAny_pure ⟨_, rfl, fin _ s1.heap.objs.size out c ks (fun b u e => ?_) gens os big atp (p1.nodup_iff.mpr k2) inS len1 each⟩
  have z := keep b u e
  have lt := Heap.lt_size z
  show (PyProof.Rows.sortedHeap (s1.heap.push (seqObj "list" vs.toArray 0)) s1.heap.objs.size vs out.toArray).get? b = some u
  rw [PyProof.Rows.sortedHeap_old (Nat.ne_of_lt lt) (by rw [size_push']; exact Nat.lt_succ_of_lt lt)]
  exact Heap.get?_push_of_some _ z
end
/-! rules of the hand layer for them -/
def SXO (w : World) (a : Addr) (S : Key → Prop) (n : Nat) : HO := .ext fun h => SX w h a S n
theorem sxo_new {w : World} {P : Program} {H : Hp} {h : Heap} {a : Addr} {S : Key → Prop} {n : Nat} (R : SX w h a S n) : ObjOk P w H h a (SXO w a S n) := by
  have R0 := R
  obtain ⟨o, es, ep, t, ⟨q, _⟩, _⟩ := R0
  exact ⟨R, ⟨o, q⟩, fun _ _ p k => SX.keep p k⟩
theorem vals_at : ∀ {xs : List V} {us : List Value} {i : Nat} {u : Value}, Vals xs us → us[i]? = some u → ∃ x, xs[i]? = some x ∧ RelV x u
  | _, _, 0, _, .cons r _, h => by
    cases h
    exact ⟨_, rfl, r⟩
  | _, _, i + 1, u, .cons _ t, h => vals_at (i := i) (u := u) t h
theorem vals_keys : ∀ {us : List Value} {ks : List Key}, PySem.W.EachIs (fun v k => keyIs k v = true) us ks → Vals (ks.map kV) us
  | _, _, .nil => .nil
  | _, _, .cons r t => by
    refine .cons ?_ (vals_keys t)
    rcases keyIs_shape r with ⟨i, t, rfl, rfl⟩ | ⟨x, t, rfl, rfl⟩
    · exact ⟨t, rfl⟩
    · exact ⟨t, rfl⟩
def encK : Key → PyData
  | .inl i => .int i
  | .inr x => .str x
def leK : Key → Key → Bool := PySem.W.dataLe false encK
section
variable {X : Cx}
def rSetOf (K : PySem.W.Frag) (w : World) : List V → Hp → VK → Prop := fun xs H Q => ∃ (a : Addr) (ks : List Key), xs = [.ref a] ∧ SqL K H a (ks.map kV) ∧ ks.length ≤ 4000 ∧ ∀ p c o, H p = none → c ≤ ks.length → o = SXO w p (fun j => j ∈ ks) c → Q (.ref p) (upd H p o)
theorem cr_setOf (calm : X.calm = true) : CallR X (.type "set") (rSetOf X.K X.w) := by
  intro pins s σ H vs us Q I r h
  obtain ⟨a, ks, rfl, hs, few, q⟩ := h
  obtain ⟨its, rv, hl, _⟩ := I.list hs
  rw [Vals.ref1 r]
  have len : its.toArray.size = ks.length := by
    have z := rv.length
    rw [List.length_map] at z
    rw [List.size_toArray]
    omega
  refine sx_call (A := X.A) ks (I.ok.hd calm) hl.isList len (fun i v hv => ?_) (show ks.length + 1 < 4096 by omega) fun h' tk c hS cc keep => ?_
  · rw [List.getElem?_toArray] at hv
    obtain ⟨x, h1, h2⟩ := vals_at rv hv
    rw [List.getElem?_map] at h1
    cases e : ks[i]? with
    | none => rw [e] at h1; cases h1
    | some k =>
      rw [e] at h1
      cases Option.some.inj h1
      exact ⟨k, rfl, kV_is (P := X.prog) (w := X.w) h2⟩
  · exact ⟨.ref _, upd H s.heap.objs.size (SXO X.w s.heap.objs.size (fun j => j ∈ ks) c), I.laid (t' := tk) keep (Nat.le_refl _) (sxo_new hS), rfl, q _ _ _ (I.hok.fresh (Nat.le_refl _)) cc rfl⟩
theorem sx_rule {k : Nat} (hr : Room k X.A) (calm : X.calm = true) {pins : List (Addr × Obj)} {s : Shared} {σ : L2.St} {H : Hp} {a : Addr} {S : Key → Prop} {n : Nat} {Q : VK} {E : Value → Shared → Prop} (I : Inv X pins σ H s) (ha : H a = some (SXO X.w a S n))
    (kind : (∀ k, S k → ∃ i, k = .inl i) ∨ ∀ k, S k → ∃ x, k = .inr x) (few : n ≤ 4000) (q : ∀ (ks : List Key) (p : Addr), ks.Nodup → (∀ k, k ∈ ks ↔ S k) → ks.length = n → H p = none → Q (.ref p) (upd H p (.lst ((ks.mergeSort leK).map kV)))) :
    wpAny (model X.prog X.w) X.A (call (.builtin "sorted") [.ref a]) (fun v s' => ∃ x H', Inv X pins σ H' s' ∧ RelV x v ∧ Q x H') E s := by
  have R : SX X.w s.heap a S n := (I.hok a _ ha).1
  have un := hr.un
  refine sx_sorted (enc := encK) R (I.ok.hd calm) (fun k v hk hv => ⟨[], fun h => ⟨?_, fun _ z => nomatch z⟩⟩) (fun k j hk hj => ?_) (fun k hk => ?_) (by omega) (fun k => ?_) (Nat.le_trans few (by decide)) fun s' p out c ks keep gens os hp atp nd mem len each => ?_
  · rcases keyIs_shape hv with ⟨i, t, rfl, rfl⟩ | ⟨x, t, rfl, rfl⟩
    · exact .int i t
    · exact .str x t
  · rcases kind with c | c
    · obtain ⟨i, rfl⟩ := c k hk
      obtain ⟨j, rfl⟩ := c j hj
      rfl
    · obtain ⟨i, rfl⟩ := c k hk
      obtain ⟨j, rfl⟩ := c j hj
      rfl
  · cases k <;> exact ⟨nofun, nofun⟩
  · cases k <;> exact Nat.zero_le _
  have rv := vals_keys each
  have hlen : ((ks.mergeSort leK).map kV).length ≤ sizeLine := by
    rw [List.length_map, List.length_mergeSort, len]
    exact Nat.le_trans few (by decide)
  have hn : H p = none := I.hok.fresh hp
  have J : Inv X pins σ (upd H p (.lst ((ks.mergeSort leK).map kV))) { s with heap := s'.heap, gens := s'.gens, drawn := s'.drawn, toks := s'.toks } :=
    I.call (ch := []) (Un.laid keep hp hn) (I.hok.laid keep hp ⟨hlen, out, c, rv, atp⟩) (by rw [gens]; exact I.bare) (fun _ z => nomatch z)
  have e : s' = { s with heap := s'.heap, gens := s'.gens, drawn := s'.drawn, toks := s'.toks } := by
    cases s'
    cases s
    cases os
    rfl
  rw [e]
  exact ⟨.ref p, _, J, rfl, q ks p nd mem len hn⟩
theorem keys_ints : ∀ ks : List Key, (∀ k ∈ ks, ∃ i, k = .inl i) → ∃ ns : List Int, ks = ns.map Sum.inl
  | [], _ => ⟨[], rfl⟩
  | k :: ks, h => by
    obtain ⟨i, rfl⟩ := h k List.mem_cons_self
    obtain ⟨ns, rfl⟩ := keys_ints ks fun j hj => h j (List.mem_cons_of_mem _ hj)
    exact ⟨i :: ns, rfl⟩
theorem keys_strs : ∀ ks : List Key, (∀ k ∈ ks, ∃ i, k = .inr i) → ∃ ns : List Str, ks = ns.map Sum.inr
  | [], _ => ⟨[], rfl⟩
  | k :: ks, h => by
    obtain ⟨i, rfl⟩ := h k List.mem_cons_self
    obtain ⟨ns, rfl⟩ := keys_strs ks fun j hj => h j (List.mem_cons_of_mem _ hj)
    exact ⟨i :: ns, rfl⟩
theorem nodup_of_map {α β : Type} (f : α → β) : ∀ l : List α, (l.map f).Nodup → l.Nodup
  | [], _ => List.nodup_nil
  | x :: l, h => by
    rw [List.map_cons] at h
    obtain ⟨h1, h2⟩ := List.nodup_cons.mp h
    exact List.nodup_cons.mpr ⟨fun z => h1 (List.mem_map.mpr ⟨x, z, rfl⟩), nodup_of_map f l h2⟩
/-- sorted of a set of ints -/
def rSortSI (w : World) : List V → Hp → VK → Prop := fun xs H Q => ∃ (a : Addr) (S : Key → Prop) (n : Nat) (o : HO), xs = [.ref a] ∧ H a = some o ∧ o = SXO w a S n ∧ (∀ k, S k → ∃ i, k = .inl i) ∧ n ≤ 4000 ∧
  ∀ (ns : List Int) (p : Addr), ns.Pairwise (· < ·) → (∀ i, i ∈ ns ↔ S (.inl i)) → ns.length = n → H p = none → Q (.ref p) (upd H p (.lst (ns.map V.int)))
theorem cr_sortSI {k : Nat} (hr : Room k X.A) (calm : X.calm = true) : CallR X (.builtin "sorted") (rSortSI X.w) := by
  intro pins s σ H vs us Q I r h
  obtain ⟨a, S, n, o, rfl, ha, rfl, kind, few, q⟩ := h
  rw [Vals.ref1 r]
  refine sx_rule hr calm I ha (.inl kind) few fun ks p nd mem len hp => ?_
  obtain ⟨ns, rfl⟩ := keys_ints ks fun k hk => kind k ((mem k).mp hk)
  have le : ∀ a b : Int, leK (.inl a) (.inl b) = decide (a ≤ b) := fun a b => congrFun (congrFun (PySem.W.dataLe_int (β := Int) fun x => x) a) b
  have e : (ns.map Sum.inl).mergeSort leK = (ns.mergeSort fun a b => decide (a ≤ b)).map Sum.inl := (PySem.W.sort_maps (s := leK) Sum.inl (fun a _ b _ => (le a b).symm)).symm
  rw [e, List.map_map]
  have nd2 := nodup_of_map Sum.inl ns nd
  have up := List.pairwise_mergeSort (le := fun (a b : Int) => decide (a ≤ b)) (fun a b c h1 h2 => by rw [decide_eq_true_eq] at *; omega) (fun a b => by rw [Bool.or_eq_true, decide_eq_true_eq, decide_eq_true_eq]; omega) ns
  have nd3 : (ns.mergeSort fun a b => decide (a ≤ b)).Nodup := (List.mergeSort_perm ns _).nodup_iff.mpr nd2
  refine q _ p ((up.and nd3).imp fun {a b} h => ?_) (fun i => ?_) ?_ hp
  · have h1 := of_decide_eq_true h.1
    have h2 := h.2
    omega
  · rw [List.mem_mergeSort, ← mem]
    exact ⟨fun z => List.mem_map.mpr ⟨i, z, rfl⟩, fun z => by
      obtain ⟨j, z1, z2⟩ := List.mem_map.mp z
      cases z2
      exact z1⟩
  · rw [List.length_mergeSort, ← len, List.length_map]
/-- sorted of a set of texts -/
def rSortSS (w : World) : List V → Hp → VK → Prop := fun xs H Q => ∃ (a : Addr) (S : Key → Prop) (n : Nat) (o : HO), xs = [.ref a] ∧ H a = some o ∧ o = SXO w a S n ∧ (∀ k, S k → ∃ i, k = .inr i) ∧ n ≤ 4000 ∧
  ∀ (ns : List Str) (p : Addr), ns.Pairwise sl → (∀ i, i ∈ ns ↔ S (.inr i)) → ns.length = n → H p = none → Q (.ref p) (upd H p (.lst (ns.map V.str)))
theorem cr_sortSS {k : Nat} (hr : Room k X.A) (calm : X.calm = true) : CallR X (.builtin "sorted") (rSortSS X.w) := by
  intro pins s σ H vs us Q I r h
  obtain ⟨a, S, n, o, rfl, ha, rfl, kind, few, q⟩ := h
  rw [Vals.ref1 r]
  refine sx_rule hr calm I ha (.inr kind) few fun ks p nd mem len hp => ?_
  obtain ⟨ns, rfl⟩ := keys_strs ks fun k hk => kind k ((mem k).mp hk)
  have le : ∀ a b : Str, leK (.inr a) (.inr b) = decide (a.cps.toList ≤ b.cps.toList) := fun a b => congrFun (congrFun (PySem.W.dataLe_str (β := Str) fun x => x) a) b
  have e : (ns.map Sum.inr).mergeSort leK = (ns.mergeSort fun a b => decide (a.cps.toList ≤ b.cps.toList)).map Sum.inr := (PySem.W.sort_maps (s := leK) Sum.inr (fun a _ b _ => (le a b).symm)).symm
  rw [e, List.map_map]
  have nd2 := nodup_of_map Sum.inr ns nd
  have up := List.pairwise_mergeSort (le := fun (a b : Str) => decide (a.cps.toList ≤ b.cps.toList)) (fun a b c h1 h2 => by rw [decide_eq_true_eq] at *; exact List.le_trans h1 h2) (fun a b => by rw [Bool.or_eq_true, decide_eq_true_eq, decide_eq_true_eq]; exact List.le_total _ _) ns
  have nd3 : (ns.mergeSort fun a b => decide (a.cps.toList ≤ b.cps.toList)).Nodup := (List.mergeSort_perm ns _).nodup_iff.mpr nd2
  refine q _ p ((up.and nd3).imp fun {a b} h => ?_) (fun i => ?_) ?_ hp
  · have h1 := of_decide_eq_true h.1
    rcases sl_tot a b with z | z | z
    · exact z
    · exact absurd z h.2
    · exact absurd z (List.not_lt.mpr h1)
  · rw [List.mem_mergeSort, ← mem]
    exact ⟨fun z => List.mem_map.mpr ⟨i, z, rfl⟩, fun z => by
      obtain ⟨j, z1, z2⟩ := List.mem_map.mp z
      cases z2
      exact z1⟩
  · rw [List.length_mergeSort, ← len, List.length_map]
end
/-! ### lots of runs, in lists or tuples -/
def SqB (b : Bool) (K : PySem.W.Frag) (H : Hp) (a : Addr) (xs : List V) : Prop := if b = true then SqL K H a xs else SqT K H a xs
def Ita (b : Bool) (K : PySem.W.Frag) (a : Addr) : It := if b = true then Itl K a else Itt K a
theorem SqB.sm {b : Bool} {K : PySem.W.Frag} {H H' : Hp} {a : Addr} {xs : List V} (e : Same H H') (h : SqB b K H a xs) : SqB b K H' a xs := by
  cases b
  · exact SqT.sm e h
  · exact SqL.sm e h
/-- a walk over a list or a tuple, whichever is told ahead -/
def iSeq (K : PySem.W.Frag) (tl : TE) : TI := fun σ H R => ∃ b : Bool, tl σ H fun x H1 => ∃ a, x = .ref a ∧ (∃ xs, SqB b K H1 a xs) ∧ R (Ita b K a) H1
theorem pi_seq {X : Cx} {tg l : Expr} {tl : TE} (hl : PE X l tl) : PI X tg l (iSeq X.K tl) := by
  refine ⟨fun pins s σ H R I h => ?_⟩
  obtain ⟨b, h⟩ := h
  cases b
  · exact (pi_tup hl).run pins s σ H R I h
  · exact (pi_list hl).run pins s σ H R I h
theorem walk_seq {b : Bool} {K : PySem.W.Frag} {a : Addr} {xs : List V} : Walk (Ita b K a) xs.length (fun H => SqB b K H a xs) (YAt xs) := by
  cases b
  · exact walk_tup
  · exact walk_list
def NmOk (x : Str) : Prop := x.length ≤ 8 ∧ (x.cps.toList.all fun c => decide (c < 16 ^ 8)) = true
def RnOk (r : Rn) : Prop := 0 ≤ r.2.1 ∧ r.2.1 < r.2.2 ∧ r.2.2 ≤ 1000000000
def spNames : Sp := fun vs H Q _ => ∃ (f c : Addr) (n : Int), vs = [.ref f] ∧ Fd H f c n ∧ n ≤ 900000 ∧
  ∀ (l : Addr) (xs : List Str) (H' : Hp), Fd H' f c (n + 8) → But f H H' → l ≠ f → l ≠ c → H l = none → H' l = some (.lst (xs.map V.str)) → xs.length = 4 → (∀ x ∈ xs, NmOk x) → Q (.ref l) H'
def spAt : Sp := fun vs H Q _ => ∃ (f c : Addr) (m n : Int), vs = [.ref f, .int m] ∧ Fd H f c n ∧ n ≤ 900000 ∧ 0 < m ∧ m ≤ 1000000 ∧
  ∀ (d : Int) (H' : Hp), 0 ≤ d → d ≤ 999999999 → Fd H' f c (n + 4) → But f H H' → (∀ a, H a = none → H' a = none) → Q (.int d) H'
def spRun : Sp := fun vs H Q _ => ∃ (f c l : Addr) (m n : Int) (xs : List Str), vs = [.ref f, .ref l, .int m] ∧ Fd H f c n ∧ n ≤ 800000 ∧ 0 < m ∧ m ≤ 1000000 ∧ H l = some (.lst (xs.map V.str)) ∧ l ≠ f ∧ 0 < xs.length ∧ xs.length ≤ 10 ∧
  ∀ (t : Addr) (r : Rn) (H' : Hp), Fd H' f c (n + 8) → But f H H' → H t = none → H' t = some (.tup (rnV r)) → RnOk r → r.1 ∈ xs → Q (.ref t) H'
def spLot : Sp := fun vs H Q _ => ∃ (f c l : Addr) (m k n : Int) (xs : List Str), vs = [.ref f, .ref l, .int m, .int k] ∧ Fd H f c n ∧ n ≤ 700000 ∧ 0 < m ∧ m ≤ 1000000 ∧ 2 ≤ k ∧ k ≤ 60 ∧ H l = some (.lst (xs.map V.str)) ∧ l ≠ f ∧ 0 < xs.length ∧ xs.length ≤ 10 ∧
  ∀ (t : Addr) (ps : List Addr) (rs : List Rn) (H' : Hp), Fd H' f c (n + 600) → But f H H' → t ≠ f → t ≠ c → H t = none → H' t = some (.lst (ps.map V.ref)) → Prd H' ps rs → rs.length ≤ 60 → (rs.length : Int) ≤ k → (∀ r ∈ rs, RnOk r ∧ r.1 ∈ xs) → Q (.ref t) H'
def spHas (K : PySem.W.Frag) : Sp := fun vs H Q _ => ∃ (b : Bool) (a : Addr) (s : Str) (n : Int) (ps : List Addr) (rs : List Rn), vs = [.ref a, .str s, .int n] ∧ SqB b K H a (ps.map V.ref) ∧ Prd H ps rs ∧ rs.length ≤ 1000 ∧
  ∀ H', Same H H' → Q (.bl (hasB rs s n)) H'
theorem Prd.but {H H' : Hp} {f c : Addr} {n : Int} {ps : List Addr} {rs : List Rn} (hf : Fd H f c n) (b : But f H H') (h : Prd H ps rs) : Prd H' ps rs := by
  obtain ⟨zs, hz⟩ := hf.at
  refine Prd.keep (fun p hp o e => ?_) h
  obtain ⟨r, _, e2⟩ := Prd.mem h hp
  rw [e2] at e
  cases Option.some.inj e
  exact b p _ (ne_of e2 hz (fun z => nomatch z)) e2
theorem Prd.put {H : Hp} {l : Addr} {xs : List V} {o : HO} {ps : List Addr} {rs : List Rn} (hl : H l = some (.lst xs)) (h : Prd H ps rs) : Prd (upd H l o) ps rs := by
  refine Prd.keep (fun p hp u e => ?_) h
  obtain ⟨r, _, e2⟩ := Prd.mem h hp
  rw [upd_ne (ne_of e2 hl (fun z => nomatch z))]
  exact e
theorem pick_str {xs : List Str} {d : Int} (d0 : 0 ≤ d) (d1 : d < (((xs.map V.str).length : Nat) : Int)) : ∃ s ∈ xs, atI (xs.map V.str) d = some (.str s) := by
  rw [List.length_map] at d1
  obtain ⟨k, rfl⟩ : ∃ k : Nat, d = (k : Int) := ⟨d.toNat, by omega⟩
  have hk : k < xs.length := by omega
  exact ⟨xs[k], List.getElem_mem hk, atI_nat (by rw [List.getElem?_map, List.getElem?_eq_getElem hk]; rfl)⟩
theorem pick_ref {ps : List Addr} {rs : List Rn} {H : Hp} {d : Int} (h : Prd H ps rs) (d0 : 0 ≤ d) (d1 : d < (((ps.map V.ref).length : Nat) : Int)) : ∃ p, ∃ r ∈ rs, atI (ps.map V.ref) d = some (.ref p) ∧ H p = some (.tup (rnV r)) := by
  rw [List.length_map] at d1
  obtain ⟨k, rfl⟩ : ∃ k : Nat, d = (k : Int) := ⟨d.toNat, by omega⟩
  have hk : k < ps.length := by omega
  obtain ⟨r, h1, h2⟩ := Prd.get h (List.getElem?_eq_getElem hk)
  exact ⟨ps[k], r, List.mem_of_getElem? h1, atI_nat (by rw [List.getElem?_map, List.getElem?_eq_getElem hk]; rfl), h2⟩
theorem mulk_ok (ch : Nat) (d : Int) (h0 : 0 ≤ d) (h1 : d < 100) : MulOk ⟨#[ch]⟩ d := by
  refine ⟨?_, fun _ hd => ?_, fun _ _ => ?_⟩
  · simp only [Bool.or_eq_false_iff, decide_eq_false_iff_not]
    constructor <;> omega
  · have e : (⟨#[ch]⟩ : Str).length = 1 := rfl
    rw [e]
    by_cases z : d = 0
    · subst z
      first | omega | simp_all
    · have : (1 : Int) ≤ (2 ^ 63 - 1) / d := by
        rw [Int.le_ediv_iff_mul_le (by omega)]
        omega
      omega
  · have e : (⟨#[ch]⟩ : Str).length = 1 := rfl
    rw [e, Nat.one_mul]
    unfold Builtin.Str.tooLong
    rw [decide_eq_false_iff_not, sizeLine_eq]
    omega
theorem mulk_nm {ch : Nat} (d : Int) (h : ch < 16 ^ 8) (h1 : d ≤ 8) : NmOk (Txt.mul ⟨#[ch]⟩ d) := ⟨len_mul_one rfl h1, mul_chr d h⟩
theorem nm_app {a b : Str} {n m : Nat} (ha : a.length ≤ n ∧ (a.cps.toList.all fun c => decide (c < 16 ^ 8)) = true) (hb : b.length ≤ m ∧ (b.cps.toList.all fun c => decide (c < 16 ^ 8)) = true) (h : n + m ≤ 8) : NmOk (a ++ b) := by
  refine ⟨?_, ?_⟩
  · rw [strLen_append]
    omega
  · have e : (a ++ b).cps.toList = a.cps.toList ++ b.cps.toList := Array.toList_append
    rw [e, List.all_append, ha.2, hb.2]
    rfl
theorem nm_sign {ch : Nat} (h : ch < 16 ^ 8) : (⟨#[ch]⟩ : Str).length ≤ 1 ∧ ((⟨#[ch]⟩ : Str).cps.toList.all fun c => decide (c < 16 ^ 8)) = true := ⟨Nat.le_refl 1, by simp [h]⟩
theorem cut_tail (xs : List V) : cutV xs (some 1) none = xs.tail := by
  have e : HT.sIx xs.length 0 (some ((1 : Nat) : Int)) = min 1 xs.length := HT.sIx_nat _ _ _
  have e : HT.sIx xs.length 0 (some 1) = min 1 xs.length := e
  unfold cutV
  rw [e, HT.sIx_none]
  cases xs with
  | nil => rfl
  | cons x r =>
    have z : min 1 (x :: r).length = 1 := by rw [List.length_cons]; omega
    rw [z, List.length_cons]
    show r.take (r.length + 1 - 1) = r
    rw [Nat.add_sub_cancel, List.take_length]
/-- a lot of runs, in a list (b) or a tuple -/
structure Lt where
  b : Bool
  a : Addr
  ps : List Addr
  rs : List Rn
def LtAt (K : PySem.W.Frag) (H : Hp) (x : Lt) : Prop := SqB x.b K H x.a (x.ps.map V.ref) ∧ Prd H x.ps x.rs ∧ x.rs.length ≤ 200
theorem LtAt.same {K : PySem.W.Frag} {H H' : Hp} {x : Lt} (s : Same H H') (h : LtAt K H x) : LtAt K H' x := ⟨SqB.sm s h.1, Prd.same s h.2.1, h.2.2⟩
def allR (ls : List Lt) : List Rn := ls.flatMap fun x => x.rs
theorem allR_more {ls : List Lt} {i : Nat} {x : Lt} (h : ls[i]? = some x) : allR (ls.take (i + 1)) = allR (ls.take i) ++ x.rs := by
  obtain ⟨hi, e⟩ := List.getElem?_eq_some_iff.mp h
  unfold allR
  rw [List.take_succ_eq_append_getElem hi, List.flatMap_append, e, List.flatMap_singleton]
theorem allR_len {K : PySem.W.Frag} {H : Hp} : ∀ {ls : List Lt}, (∀ x ∈ ls, LtAt K H x) → (allR ls).length ≤ 200 * ls.length
  | [], _ => Nat.le_refl _
  | x :: ls, h => by
    have z := allR_len (ls := ls) fun y hy => h y (List.mem_cons_of_mem _ hy)
    have y := (h x List.mem_cons_self).2.2
    unfold allR at *
    rw [List.flatMap_cons, List.length_append, List.length_cons]
    omega
def endsOf (rs : List Rn) : List Int := rs.flatMap fun r => [r.2.1, r.2.2]
theorem endsOf_app (a b : List Rn) : endsOf (a ++ b) = endsOf a ++ endsOf b := List.flatMap_append
theorem endsOf_len : ∀ rs : List Rn, (endsOf rs).length = 2 * rs.length
  | [] => rfl
  | r :: rs => by
    have z := endsOf_len rs
    unfold endsOf at *
    rw [List.flatMap_cons, List.length_append, z, List.length_cons (as := rs)]
    show 2 + 2 * rs.length = 2 * (rs.length + 1)
    omega
theorem ends_of {rs : List Rn} {ns : List Str} {cs : List Int} (h1 : ∀ s, s ∈ ns ↔ s ∈ rs.map (·.1)) (h2 : ∀ i, i ∈ cs ↔ i ∈ endsOf rs) : Ends rs ns cs := fun r hr => by
  refine ⟨(h1 _).mpr (List.mem_map.mpr ⟨r, hr, rfl⟩), (h2 _).mpr ?_, (h2 _).mpr ?_⟩
  · exact List.mem_flatMap.mpr ⟨r, hr, List.mem_cons_self⟩
  · exact List.mem_flatMap.mpr ⟨r, hr, List.mem_cons_of_mem _ List.mem_cons_self⟩
theorem hasB_all (ls : List Lt) (s : Str) (n : Int) : ((ls.map fun x => hasB x.rs s n).any _root_.id) = hasB (allR ls) s n := by
  unfold hasB allR
  rw [List.any_flatMap, List.any_map]
  rfl
theorem goods_more {P : Str → Int → Bool} {s : Str} {ps : List (Int × Int)} {j : Nat} {p : Int × Int} (h : ps[j]? = some p) : goods P s (ps.take (j + 1)) = goods P s (ps.take j) ++ if P s p.1 = true then [(s, p.1, p.2)] else [] := by
  obtain ⟨hj, e⟩ := List.getElem?_eq_some_iff.mp h
  unfold goods
  rw [List.take_succ_eq_append_getElem hj, List.filter_append, List.map_append, e]
  congr 1
  cases hP : P s p.1 <;> simp [hP]
theorem goods_len {P : Str → Int → Bool} {s : Str} (ps : List (Int × Int)) : (goods P s ps).length ≤ ps.length := by
  unfold goods
  rw [List.length_map]
  exact List.length_filter_le _ _
theorem join_len (acc : List Rn) (r : Rn) : (join acc r).length ≤ acc.length + 1 := by
  rcases nil_or_snoc acc with rfl | ⟨i, l, rfl⟩
  · exact Nat.le_refl _
  · rw [join_snoc]
    split
    · rw [List.length_append, List.length_append, List.length_singleton, List.length_singleton]
      omega
    · rw [List.length_append, List.length_append, List.length_singleton, List.length_singleton]
      omega
theorem fold_join_len : ∀ (l acc : List Rn), (l.foldl join acc).length ≤ acc.length + l.length
  | [], acc => Nat.le_refl _
  | r :: l, acc => by
    have z := fold_join_len l (join acc r)
    have y := join_len acc r
    rw [List.foldl_cons, List.length_cons]
    omega
theorem flat_goods_len {P : Str → Int → Bool} (ps : List (Int × Int)) : ∀ ss : List Str, (ss.flatMap fun s => goods P s ps).length ≤ ss.length * ps.length
  | [] => Nat.zero_le _
  | s :: ss => by
    have z := flat_goods_len (P := P) ps ss
    have y := goods_len (P := P) (s := s) ps
    rw [List.flatMap_cons, List.length_append, List.length_cons, Nat.succ_mul]
    omega
theorem pcs_get {cs : List Int} {j : Nat} {x y : Int} (hx : cs[j]? = some x) (hy : cs.tail[j]? = some y) : (pcs cs)[j]? = some (x, y) := by
  unfold pcs
  rw [List.getElem?_zip_eq_some]
  exact ⟨hx, hy⟩
def spMade (K : PySem.W.Frag) : Sp := fun vs H Q _ => ∃ (l : Addr) (ls : List Lt), vs = [.ref l, .str (("some" : String) : Str)] ∧ SqL K H l (ls.map fun x => V.ref x.a) ∧ (∀ x ∈ ls, LtAt K H x) ∧ 0 < ls.length ∧ ls.length ≤ 3 ∧ Full (allR ls) ∧
  ∀ (t : Addr) (qs : List Addr) (H' : Hp), Same H H' → H t = none → H' t = some (.tup (qs.map V.ref)) → Prd H' qs (runsOf (allR ls)) → Q (.ref t) H'
def dictM (a b c : Bool) : List (Key × V) := [(Sum.inr (("some" : String) : Str), .bl a), (Sum.inr (("all" : String) : Str), .bl b), (Sum.inr (("first" : String) : Str), .bl c)]
theorem rn_fine {r : Rn} (h1 : RnOk r) (h2 : NmOk r.1) : fineD (rnD r) = true ∧ cost (rnD r) ≤ 5000 := by
  obtain ⟨a, b, c⟩ := h1
  refine ⟨?_, ?_⟩
  · show (fineD (.str r.1) && (fineD (.int r.2.1) && (fineD (.int r.2.2) && true))) = true
    have e : fineD (.str r.1) = true := h2.2
    rw [e, int_fine (by omega) (by omega), int_fine (by omega) (by omega)]
    rfl
  · have := h2.1
    simp only [rnD, Pn.cost, costAll]
    omega
theorem rns_fine : ∀ rs : List Rn, (∀ r ∈ rs, RnOk r ∧ NmOk r.1) → fineAll (rs.map rnD) = true ∧ costAll (rs.map rnD) ≤ 5002 * rs.length
  | [], _ => ⟨rfl, Nat.le_refl _⟩
  | r :: rs, h => by
    obtain ⟨z1, z2⟩ := rns_fine rs fun x hx => h x (List.mem_cons_of_mem _ hx)
    obtain ⟨y1, y2⟩ := rn_fine (h r List.mem_cons_self).1 (h r List.mem_cons_self).2
    refine ⟨?_, ?_⟩
    · rw [List.map_cons]
      unfold fineAll
      rw [y1, z1]
      rfl
    · rw [List.map_cons, List.length_cons]
      unfold costAll
      omega
theorem rns_depth (rs : List Rn) : PyData.depthAll (rs.map rnD) ≤ 2 := by
  induction rs with
  | nil => simp [PyData.depthAll]
  | cons r l ih =>
    rw [List.map_cons]
    simp only [PyData.depthAll, rnD, PyData.depth] at *
    omega
def lotD (rs : List Rn) : PyData := .list (rs.map rnD)
theorem lot_show {rs : List Rn} (h : ∀ r ∈ rs, RnOk r ∧ NmOk r.1) (hl : rs.length ≤ 60) : (lotD rs).showable = true ∧ (lotD rs).hasDict = false ∧ (lotD rs).depth ≤ 60 ∧ (lotD rs).shown.length ≤ sizeLine := by
  obtain ⟨z1, z2⟩ := rns_fine rs h
  have f : fineD (lotD rs) = true := z1
  have c := shown_cost _ f
  have e : cost (lotD rs) = costAll (rs.map rnD) + 3 := rfl
  have d := rns_depth rs
  obtain ⟨s1, s2⟩ := fine_show _ f
  refine ⟨s1, s2, ?_, Nat.le_trans c (Nat.le_trans (show _ ≤ 1000000 by omega) (by decide))⟩
  simp only [lotD, PyData.depth]
  omega
theorem lot_dp {K : PySem.W.Frag} {H : Hp} {t : Addr} {ps : List Addr} {rs : List Rn} (h : H t = some (.lst (ps.map V.ref))) (hp : Prd H ps rs) : Dp K H (.ref t) (lotD rs) := .lst (SqL.of h) (Prd.dp hp)
theorem Prd.rev {H : Hp} : ∀ {ps : List Addr} {rs : List Rn}, Prd H ps rs → Prd H ps.reverse rs.reverse
  | _, _, .nil => .nil
  | _, _, .cons a b => by
    rw [List.reverse_cons, List.reverse_cons]
    exact Prd.app (Prd.rev b) (Prd.one a)
theorem Prd.take {H : Hp} : ∀ {ps : List Addr} {rs : List Rn} (n : Nat), Prd H ps rs → Prd H (ps.take n) (rs.take n)
  | _, _, 0, _ => .nil
  | _, _, _ + 1, .nil => .nil
  | _, _, n + 1, .cons a b => .cons a (Prd.take n b)
theorem one_lot {K : PySem.W.Frag} {H : Hp} {x : Lt} (h : LtAt K H x) : ∀ y ∈ [x], LtAt K H y := fun y hy => by
  rw [List.mem_singleton.mp hy]
  exact h
theorem all_one (x : Lt) : allR [x] = x.rs := List.flatMap_singleton ..
theorem Nice.up : ∀ {n : Nat} {d : PyData}, Nice n d → Nice (n + 1) d
  | 0, _, h => Or.inl h
  | n + 1, _, h => by
    rcases h with h | ⟨ds, h1, h2, h3⟩
    · exact Or.inl h
    · exact Or.inr ⟨ds, h1, h2, fun e he => Nice.up (h3 e he)⟩
/-! ### both, less: pure, and what they have -/
/-- (a, i) ≤ (b, j) as Python has it -/
def lexLe (a : Str) (i : Int) (b : Str) (j : Int) : Bool := !PySem.W.dataLt (.tuple [.str b, .int j]) (.tuple [.str a, .int i])
theorem lexLe_iff (a : Str) (i : Int) (b : Str) (j : Int) : lexLe a i b j = true ↔ sl a b ∨ (a = b ∧ i ≤ j) := by
  unfold lexLe
  rw [PySem.W.dataLt_pair (by simp [PySem.W.alike]) (by simp [PySem.W.alike]), PySem.W.dataLt_str, PySem.W.dataLt_int]
  simp only [PyData.eqv, beq_iff_eq]
  by_cases e : b = a
  · subst e
    rw [if_pos rfl]
    by_cases e2 : j = i
    · subst e2
      rw [if_pos rfl]
      exact ⟨fun _ => .inr ⟨rfl, Int.le_refl _⟩, fun _ => rfl⟩
    · rw [if_neg e2, Bool.not_eq_true', decide_eq_false_iff_not]
      constructor
      · intro h
        exact .inr ⟨rfl, by omega⟩
      · rintro (h | ⟨_, h⟩)
        · exact (sl_irr _ h).elim
        · omega
  · rw [if_neg e, Bool.not_eq_true', decide_eq_false_iff_not]
    constructor
    · intro h
      rcases sl_tot a b with z | z | z
      · exact .inl z
      · exact absurd z.symm e
      · exact absurd z h
    · rintro (h | ⟨h, _⟩) z
      · exact sl_as h z
      · exact e h.symm
theorem lexLe_not {a : Str} {i : Int} {b : Str} {j : Int} (h : ¬ lexLe a i b j = true) : sl b a ∨ (a = b ∧ j < i) := by
  rw [lexLe_iff] at h
  rcases sl_tot a b with z | z | z
  · exact absurd (.inl z) h
  · exact .inr ⟨z, Int.not_le.mp fun k => h (.inr ⟨z, k⟩)⟩
  · exact .inl z
def mx (a b : Int) : Int := if b > a then b else a
def mn (a b : Int) : Int := if b < a then b else a
theorem mx_is (a b : Int) : (mx a b = a ∧ b ≤ a) ∨ (mx a b = b ∧ a ≤ b) := by
  unfold mx
  split <;> omega
theorem mn_is (a b : Int) : (mn a b = a ∧ a ≤ b) ∨ (mn a b = b ∧ b ≤ a) := by
  unfold mn
  split <;> omega
def meet (x y : Rn) : List Rn := if x.1 = y.1 ∧ mx x.2.1 y.2.1 < mn x.2.2 y.2.2 then [(x.1, mx x.2.1 y.2.1, mn x.2.2 y.2.2)] else []
def bothL : List Rn → List Rn → List Rn
  | x :: a, y :: b => meet x y ++ if lexLe x.1 x.2.2 y.1 y.2.2 = true then bothL a (y :: b) else bothL (x :: a) b
  | [], _ => []
  | _ :: _, [] => []
termination_by a b => a.length + b.length
theorem both_cons (x : Rn) (a : List Rn) (y : Rn) (b : List Rn) : bothL (x :: a) (y :: b) = meet x y ++ if lexLe x.1 x.2.2 y.1 y.2.2 = true then bothL a (y :: b) else bothL (x :: a) b := by
  rw [bothL]
theorem both_nil (b : List Rn) : bothL [] b = [] := by rw [bothL]
theorem both_nil2 (a : List Rn) : bothL a [] = [] := by cases a <;> rw [bothL]
theorem meet_in {x y r : Rn} : r ∈ meet x y ↔ x.1 = y.1 ∧ r.1 = x.1 ∧ r.2.1 = mx x.2.1 y.2.1 ∧ r.2.2 = mn x.2.2 y.2.2 ∧ r.2.1 < r.2.2 := by
  unfold meet
  split
  · rename_i h
    rw [List.mem_singleton]
    constructor
    · rintro rfl
      exact ⟨h.1, rfl, rfl, rfl, h.2⟩
    · rintro ⟨_, h1, h2, h3, _⟩
      exact Prod.ext h1 (Prod.ext h2 h3)
  · rename_i h
    refine ⟨fun z => (nomatch z), ?_⟩
    rintro ⟨h0, h1, h2, h3, h4⟩
    exact (h ⟨h0, by omega⟩).elim
theorem both_in : ∀ (a b : List Rn) (r : Rn), r ∈ bothL a b → ∃ u ∈ a, ∃ v ∈ b, r ∈ meet u v
  | [], b, r, h => by rw [both_nil] at h; exact nomatch h
  | x :: a, [], r, h => by rw [both_nil2] at h; exact nomatch h
  | x :: a, y :: b, r, h => by
    rw [both_cons] at h
    rcases List.mem_append.mp h with h | h
    · exact ⟨x, List.mem_cons_self, y, List.mem_cons_self, h⟩
    · split at h
      · obtain ⟨u, hu, v, hv, z⟩ := both_in a (y :: b) r h
        exact ⟨u, List.mem_cons_of_mem _ hu, v, hv, z⟩
      · obtain ⟨u, hu, v, hv, z⟩ := both_in (x :: a) b r h
        exact ⟨u, hu, v, List.mem_cons_of_mem _ hv, z⟩
termination_by a b => a.length + b.length
theorem meet_apart {x y u v r s : Rn} (hr : r ∈ meet x y) (hs : s ∈ meet u v) (h : apart x u = true ∨ apart y v = true) : apart r s = true := by
  obtain ⟨r0, r1, r2, r3, r4⟩ := meet_in.mp hr
  obtain ⟨s0, s1, s2, s3, s4⟩ := meet_in.mp hs
  have m1 := mx_is u.2.1 v.2.1
  have m2 := mn_is x.2.2 y.2.2
  rw [apart_iff]
  rcases h with h | h
  · rcases (apart_iff _ _).mp h with ⟨e, k⟩ | k
    · exact .inl ⟨r1.trans (e.trans s1.symm), by omega⟩
    · exact .inr (by rw [r1, s1]; exact k)
  · rcases (apart_iff _ _).mp h with ⟨e, k⟩ | k
    · exact .inl ⟨r1.trans (r0.trans (e.trans (s0.symm.trans s1.symm))), by omega⟩
    · exact .inr (by rw [r1, s1, r0, s0]; exact k)
theorem has_one {r : Rn} {l : List Rn} {s : Str} {n : Int} (h : r ∈ l) (k : r.1 = s ∧ r.2.1 ≤ n ∧ n < r.2.2) : has l s n := ⟨r, h, k⟩
theorem meet_has (x y : Rn) (s : Str) (n : Int) : has (meet x y) s n ↔ (x.1 = s ∧ x.2.1 ≤ n ∧ n < x.2.2) ∧ (y.1 = s ∧ y.2.1 ≤ n ∧ n < y.2.2) := by
  have m1 := mx_is x.2.1 y.2.1
  have m2 := mn_is x.2.2 y.2.2
  constructor
  · rintro ⟨r, h, k1, k2, k3⟩
    obtain ⟨r0, r1, r2, r3, r4⟩ := meet_in.mp h
    exact ⟨⟨r1.symm.trans k1, by omega, by omega⟩, ⟨r0.symm.trans (r1.symm.trans k1), by omega, by omega⟩⟩
  · rintro ⟨⟨k1, k2, k3⟩, ⟨j1, j2, j3⟩⟩
    exact ⟨(x.1, mx x.2.1 y.2.1, mn x.2.2 y.2.2), meet_in.mpr ⟨k1.trans j1.symm, rfl, rfl, rfl, by show mx _ _ < mn _ _; omega⟩, k1, by show mx _ _ ≤ n; omega, by show n < mn _ _; omega⟩
theorem both_ok : ∀ (a b : List Rn), Canon a → Canon b → Canon (bothL a b) ∧ ∀ s n, has (bothL a b) s n ↔ has a s n ∧ has b s n
  | [], b, _, _ => by
    rw [both_nil]
    exact ⟨canon_nil, fun s n => ⟨fun h => (has_nil _ _ h).elim, fun h => (has_nil _ _ h.1).elim⟩⟩
  | x :: a, [], _, _ => by
    rw [both_nil2]
    exact ⟨canon_nil, fun s n => ⟨fun h => (has_nil _ _ h).elim, fun h => (has_nil _ _ h.2).elim⟩⟩
  | x :: a, y :: b, ha, hb => by
    rw [both_cons]
    by_cases c : lexLe x.1 x.2.2 y.1 y.2.2 = true
    · rw [if_pos c]
      obtain ⟨i1, i2⟩ := both_ok a (y :: b) ha.tail hb
      rw [lexLe_iff] at c
      refine ⟨⟨List.pairwise_append.mpr ⟨?_, i1.1, fun r hr t ht => ?_⟩, fun r hr => ?_⟩, fun s n => ?_⟩
      · unfold meet
        split
        · exact List.pairwise_singleton _ _
        · exact .nil
      · obtain ⟨u, hu, v, hv, z⟩ := both_in _ _ _ ht
        exact meet_apart hr z (.inl ((List.pairwise_cons.mp ha.1).1 u hu))
      · rcases List.mem_append.mp hr with hr | hr
        · exact (meet_in.mp hr).2.2.2.2
        · exact i1.2 r hr
      · rw [has_app, i2, meet_has, has_cons x a, has_cons y b]
        constructor
        · rintro (⟨h1, h2⟩ | ⟨h1, h2⟩)
          · exact ⟨.inl h1, .inl h2⟩
          · exact ⟨.inr h1, h2⟩
        · rintro ⟨h1 | h1, h2⟩
          · rcases h2 with h2 | h2
            · exact .inl ⟨h1, h2⟩
            · exfalso
              rcases canon_first hb h2 with ⟨e, k⟩ | k
              · rcases c with c | ⟨c1, c2⟩
                · rw [h1.1, e] at c
                  exact sl_irr _ c
                · omega
              · rcases c with c | ⟨c1, c2⟩
                · exact sl_as c (h1.1 ▸ k)
                · rw [← c1, h1.1] at k
                  exact sl_irr _ k
          · exact .inr ⟨h1, h2⟩
    · rw [if_neg c]
      obtain ⟨i1, i2⟩ := both_ok (x :: a) b ha hb.tail
      have c := lexLe_not c
      refine ⟨⟨List.pairwise_append.mpr ⟨?_, i1.1, fun r hr t ht => ?_⟩, fun r hr => ?_⟩, fun s n => ?_⟩
      · unfold meet
        split
        · exact List.pairwise_singleton _ _
        · exact .nil
      · obtain ⟨u, hu, v, hv, z⟩ := both_in _ _ _ ht
        exact meet_apart hr z (.inr ((List.pairwise_cons.mp hb.1).1 v hv))
      · rcases List.mem_append.mp hr with hr | hr
        · exact (meet_in.mp hr).2.2.2.2
        · exact i1.2 r hr
      · rw [has_app, i2, meet_has, has_cons x a, has_cons y b]
        constructor
        · rintro (⟨h1, h2⟩ | ⟨h1, h2⟩)
          · exact ⟨.inl h1, .inl h2⟩
          · exact ⟨h1, .inr h2⟩
        · rintro ⟨h1, h2 | h2⟩
          · rcases h1 with h1 | h1
            · exact .inl ⟨h1, h2⟩
            · exfalso
              rcases canon_first ha h1 with ⟨e, k⟩ | k
              · rcases c with c | ⟨c1, c2⟩
                · rw [h2.1, e] at c
                  exact sl_irr _ c
                · omega
              · rcases c with c | ⟨c1, c2⟩
                · exact sl_as c (h2.1 ▸ k)
                · rw [c1, h2.1] at k
                  exact sl_irr _ k
          · exact .inr ⟨h1, h2⟩
termination_by a b => a.length + b.length
/-! less -/
def tailL (s : Str) (lo hi : Int) : List Rn := if lo < hi then [(s, lo, hi)] else []
def leftL (s : Str) (hi : Int) : Int → List Rn → List Rn
  | lo, [] => tailL s lo hi
  | lo, o :: os => if o.1 = s ∧ o.2.1 < hi then tailL s lo o.2.1 ++ leftL s hi o.2.2 os else tailL s lo hi
def skipL (s : Str) (lo : Int) (b : List Rn) : List Rn := b.dropWhile fun o => lexLe o.1 o.2.2 s lo
def lessL : List Rn → List Rn → List Rn
  | [], _ => []
  | x :: a, b => leftL x.1 x.2.2 x.2.1 (skipL x.1 x.2.1 b) ++ lessL a (skipL x.1 x.2.1 b)
theorem tail_in {s : Str} {lo hi : Int} {r : Rn} : r ∈ tailL s lo hi ↔ r = (s, lo, hi) ∧ lo < hi := by
  unfold tailL
  split
  · rename_i h
    rw [List.mem_singleton]
    exact ⟨fun z => ⟨z, h⟩, fun z => z.1⟩
  · rename_i h
    exact ⟨fun z => (nomatch z), fun z => (h z.2).elim⟩
theorem tail_has (s : Str) (lo hi : Int) (t : Str) (n : Int) : has (tailL s lo hi) t n ↔ t = s ∧ lo ≤ n ∧ n < hi := by
  constructor
  · rintro ⟨r, h, k1, k2, k3⟩
    obtain ⟨rfl, h2⟩ := tail_in.mp h
    exact ⟨k1.symm, k2, k3⟩
  · rintro ⟨rfl, k2, k3⟩
    exact ⟨(t, lo, hi), tail_in.mpr ⟨rfl, by omega⟩, rfl, k2, k3⟩
/-- what stands first isn't all ahead of it -/
def Ahd (s : Str) (lo : Int) (b : List Rn) : Prop := ∀ o os, b = o :: os → sl s o.1 ∨ (o.1 = s ∧ lo < o.2.2)
theorem left_ok : ∀ (b : List Rn) (s : Str) (lo hi : Int), Canon b → Ahd s lo b →
    ((leftL s hi lo b).Pairwise (fun a b => apart a b = true) ∧ ∀ r ∈ leftL s hi lo b, r.1 = s ∧ lo ≤ r.2.1 ∧ r.2.1 < r.2.2 ∧ r.2.2 ≤ hi) ∧ ∀ t n, has (leftL s hi lo b) t n ↔ t = s ∧ lo ≤ n ∧ n < hi ∧ ¬ has b t n
  | [], s, lo, hi, _, _ => by
    refine ⟨⟨?_, fun r hr => ?_⟩, fun t n => ?_⟩
    · show (tailL s lo hi).Pairwise _
      unfold tailL
      split
      · exact List.pairwise_singleton _ _
      · exact .nil
    · obtain ⟨rfl, h⟩ := tail_in.mp hr
      exact ⟨rfl, Int.le_refl _, h, Int.le_refl _⟩
    · show has (tailL s lo hi) t n ↔ _
      rw [tail_has]
      exact ⟨fun ⟨h1, h2, h3⟩ => ⟨h1, h2, h3, has_nil _ _⟩, fun ⟨h1, h2, h3, _⟩ => ⟨h1, h2, h3⟩⟩
  | o :: os, s, lo, hi, hb, hh => by
    have fo := hb.2 o List.mem_cons_self
    unfold leftL
    by_cases c : o.1 = s ∧ o.2.1 < hi
    · rw [if_pos c]
      have lo2 : lo < o.2.2 := by
        rcases hh o os rfl with z | z
        · exact (sl_irr _ (c.1 ▸ z)).elim
        · exact z.2
      obtain ⟨⟨i1, i2⟩, i3⟩ := left_ok os s o.2.2 hi hb.tail (fun p ps e => by
        subst e
        rcases (apart_iff _ _).mp ((List.pairwise_cons.mp hb.1).1 p List.mem_cons_self) with ⟨e, k⟩ | k
        · have := hb.2 p (List.mem_cons_of_mem _ List.mem_cons_self)
          exact .inr ⟨e.symm.trans c.1, by omega⟩
        · exact .inl (c.1 ▸ k))
      refine ⟨⟨List.pairwise_append.mpr ⟨?_, i1, fun x hx y hy => ?_⟩, fun r hr => ?_⟩, fun t n => ?_⟩
      · unfold tailL
        split
        · exact List.pairwise_singleton _ _
        · exact .nil
      · obtain ⟨rfl, h⟩ := tail_in.mp hx
        obtain ⟨j1, j2, j3, j4⟩ := i2 y hy
        rw [apart_iff]
        exact .inl ⟨j1.symm, show o.2.1 < y.2.1 by omega⟩
      · rcases List.mem_append.mp hr with hr | hr
        · obtain ⟨rfl, h⟩ := tail_in.mp hr
          exact ⟨rfl, Int.le_refl _, h, show o.2.1 ≤ hi by omega⟩
        · obtain ⟨j1, j2, j3, j4⟩ := i2 r hr
          exact ⟨j1, by omega, j3, j4⟩
      · rw [has_app, tail_has, i3, has_cons]
        constructor
        · rintro (⟨h1, h2, h3⟩ | ⟨h1, h2, h3, h4⟩)
          · refine ⟨h1, h2, by omega, ?_⟩
            rintro (z | z)
            · omega
            · rcases canon_first hb z with ⟨_, z⟩ | z
              · omega
              · rw [c.1, h1] at z
                exact sl_irr _ z
          · refine ⟨h1, by omega, h3, ?_⟩
            rintro (z | z)
            · omega
            · exact h4 z
        · rintro ⟨h1, h2, h3, h4⟩
          by_cases d : n < o.2.1
          · exact .inl ⟨h1, h2, d⟩
          · refine .inr ⟨h1, ?_, h3, fun z => h4 (.inr z)⟩
            by_cases d2 : n < o.2.2
            · exact (h4 (.inl ⟨c.1.trans h1.symm, by omega, d2⟩)).elim
            · omega
    · rw [if_neg c]
      refine ⟨⟨?_, fun r hr => ?_⟩, fun t n => ?_⟩
      · unfold tailL
        split
        · exact List.pairwise_singleton _ _
        · exact .nil
      · obtain ⟨rfl, h⟩ := tail_in.mp hr
        exact ⟨rfl, Int.le_refl _, h, Int.le_refl _⟩
      · rw [tail_has]
        refine ⟨fun ⟨h1, h2, h3⟩ => ⟨h1, h2, h3, fun z => ?_⟩, fun ⟨h1, h2, h3, _⟩ => ⟨h1, h2, h3⟩⟩
        subst h1
        rcases hh o os rfl with k | ⟨k1, k2⟩
        · rcases (has_cons _ _ _ _).mp z with z | z
          · rw [z.1] at k
            exact sl_irr _ k
          · rcases canon_first hb z with ⟨e, _⟩ | z
            · rw [e] at k
              exact sl_irr _ k
            · exact sl_as k z
        · have k3 : hi ≤ o.2.1 := Int.not_lt.mp fun z => c ⟨k1, z⟩
          rcases (has_cons _ _ _ _).mp z with z | z
          · omega
          · rcases canon_first hb z with ⟨_, z⟩ | z
            · omega
            · rw [k1] at z
              exact sl_irr _ z
theorem canon_drop {b : List Rn} (h : Canon b) (f : Rn → Bool) : Canon (b.dropWhile f) := by
  have z := List.dropWhile_suffix f (l := b)
  exact ⟨h.1.sublist z.sublist, fun r hr => h.2 r (z.subset hr)⟩
theorem skip_ahd (s : Str) (lo : Int) (b : List Rn) : Ahd s lo (skipL s lo b) := fun o os e => by
  have z := List.head?_dropWhile_not (fun o : Rn => lexLe o.1 o.2.2 s lo) b
  unfold skipL at e
  rw [e] at z
  have z : lexLe o.1 o.2.2 s lo = false := z
  exact lexLe_not (by rw [z]; decide)
theorem skip_has : ∀ (b : List Rn) (s : Str) (lo : Int) (t : Str) (n : Int), ((t = s ∧ lo ≤ n) ∨ sl s t) → (has (skipL s lo b) t n ↔ has b t n)
  | [], _, _, _, _, _ => Iff.rfl
  | o :: b, s, lo, t, n, h => by
    unfold skipL
    rw [List.dropWhile_cons]
    split
    · rename_i c
      rw [lexLe_iff] at c
      refine (skip_has b s lo t n h).trans ?_
      rw [has_cons]
      refine ⟨.inr, ?_⟩
      rintro (⟨k1, k2, k3⟩ | k)
      · exfalso
        rcases c with c | ⟨c1, c2⟩ <;> rcases h with ⟨h1, h2⟩ | h
        · rw [k1, h1] at c
          exact sl_irr _ c
        · exact sl_as (k1 ▸ c) h
        · omega
        · rw [← c1, k1] at h
          exact sl_irr _ h
      · exact k
    · exact Iff.rfl
theorem less_ok : ∀ (a b : List Rn), Canon a → Canon b → Canon (lessL a b) ∧ (∀ r ∈ lessL a b, ∃ u ∈ a, r.1 = u.1 ∧ u.2.1 ≤ r.2.1 ∧ r.2.2 ≤ u.2.2) ∧ ∀ s n, has (lessL a b) s n ↔ has a s n ∧ ¬ has b s n
  | [], b, _, _ => ⟨canon_nil, fun _ h => (nomatch h), fun s n => ⟨fun h => (has_nil _ _ h).elim, fun h => (has_nil _ _ h.1).elim⟩⟩
  | x :: a, b, ha, hb => by
    unfold lessL
    have hb2 : Canon (skipL x.1 x.2.1 b) := canon_drop hb _
    obtain ⟨⟨l1, l2⟩, l3⟩ := left_ok (skipL x.1 x.2.1 b) x.1 x.2.1 x.2.2 hb2 (skip_ahd _ _ _)
    obtain ⟨i1, i2, i3⟩ := less_ok a (skipL x.1 x.2.1 b) ha.tail hb2
    have fx := ha.2 x List.mem_cons_self
    refine ⟨⟨List.pairwise_append.mpr ⟨l1, i1.1, fun r hr t ht => ?_⟩, fun r hr => ?_⟩, fun r hr => ?_, fun s n => ?_⟩
    · obtain ⟨j1, j2, j3, j4⟩ := l2 r hr
      obtain ⟨u, hu, k1, k2, k3⟩ := i2 t ht
      rw [apart_iff]
      rcases (apart_iff _ _).mp ((List.pairwise_cons.mp ha.1).1 u hu) with ⟨e, k⟩ | k
      · exact .inl ⟨j1.trans (e.trans k1.symm), by omega⟩
      · exact .inr (by rw [j1, k1]; exact k)
    · rcases List.mem_append.mp hr with hr | hr
      · exact (l2 r hr).2.2.1
      · exact i1.2 r hr
    · rcases List.mem_append.mp hr with hr | hr
      · obtain ⟨j1, j2, j3, j4⟩ := l2 r hr
        exact ⟨x, List.mem_cons_self, j1, j2, j4⟩
      · obtain ⟨u, hu, k⟩ := i2 r hr
        exact ⟨u, List.mem_cons_of_mem _ hu, k⟩
    · rw [has_app, l3, i3, has_cons]
      constructor
      · rintro (⟨h1, h2, h3, h4⟩ | ⟨h1, h2⟩)
        · subst h1
          exact ⟨.inl ⟨rfl, h2, h3⟩, fun z => h4 ((skip_has b _ _ _ _ (.inl ⟨rfl, h2⟩)).mpr z)⟩
        · refine ⟨.inr h1, fun z => h2 ((skip_has b _ _ _ _ ?_).mpr z)⟩
          rcases canon_first ha h1 with ⟨e, k⟩ | k
          · exact .inl ⟨e.symm, by omega⟩
          · exact .inr k
      · rintro ⟨⟨k1, k2, k3⟩ | h1, h2⟩
        · refine .inl ⟨k1.symm, k2, k3, fun z => h2 ((skip_has b _ _ _ _ (.inl ⟨k1.symm, k2⟩)).mp z)⟩
        · refine .inr ⟨h1, fun z => h2 ((skip_has b _ _ _ _ ?_).mp z)⟩
          rcases canon_first ha h1 with ⟨e, k⟩ | k
          · exact .inl ⟨e.symm, by omega⟩
          · exact .inr k
/-! ### rules and promises of together, both, less -/
def rLeP (K : PySem.W.Frag) : R2 := fun x y H Q => ∃ (a b : Addr) (s t : Str) (i j : Int), x = .ref a ∧ y = .ref b ∧ SqT K H a [.str s, .int i] ∧ SqT K H b [.str t, .int j] ∧ Q (.bl (lexLe s i t j)) H
theorem op_leP {X : Cx} {k : Nat} (hr : Room k X.A) : OpR X (compareOp .LtE) (rLeP X.K) := by
  intro pins s σ H x y v u Q I rx ry h
  obtain ⟨a, b, p, q, i, j, rfl, rfl, ha, hb, q'⟩ := h
  have un := hr.un
  obtain ⟨as, r1⟩ := Dp.reads I (.tuple [.str p, .int i]) (.ref a) _ (.tup ha (.cons (.str _) (.cons (.int _) .nil))) rx
  obtain ⟨bs, r2⟩ := Dp.reads I (.tuple [.str q, .int j]) (.ref b) _ (.tup hb (.cons (.str _) (.cons (.int _) .nil))) ry
  refine PySem.W.le_data r1 r2 (by simp [PySem.W.alike, PySem.W.alikeAll]) nofun ?_ ⟨.bl _, H, I, rfl, q'⟩
  simp only [PyData.depth, PyData.depthAll]
  omega
/-- runs in a tuple -/
def TpAt (K : PySem.W.Frag) (H : Hp) (t : Addr) (rs : List Rn) : Prop := ∃ qs : List Addr, SqT K H t (qs.map V.ref) ∧ Prd H qs rs
theorem TpAt.same {K : PySem.W.Frag} {H H' : Hp} {t : Addr} {rs : List Rn} (s : Same H H') (h : TpAt K H t rs) : TpAt K H' t rs := by
  obtain ⟨qs, h1, h2⟩ := h
  exact ⟨qs, SqT.sm s h1, Prd.same s h2⟩
theorem TpAt.of {K : PySem.W.Frag} {H : Hp} {t : Addr} {qs : List Addr} {rs : List Rn} (h : H t = some (.tup (qs.map V.ref))) (k : Prd H qs rs) : TpAt K H t rs := ⟨qs, SqT.of h, k⟩
theorem TpAt.dp {K : PySem.W.Frag} {H : Hp} {t : Addr} {rs : List Rn} (h : TpAt K H t rs) : Dp K H (.ref t) (rnsD rs) := by
  obtain ⟨qs, h1, h2⟩ := h
  exact .tup h1 (Prd.dp h2)
/-- a def of two RUNS that tells RUNS -/
def spTwo (K : PySem.W.Frag) (F : List Rn → List Rn → List Rn) : Sp := fun vs H Q _ => ∃ (a b : Addr) (rs ts : List Rn), vs = [.ref a, .ref b] ∧ TpAt K H a rs ∧ TpAt K H b ts ∧ rs.length ≤ 3000 ∧ ts.length ≤ 3000 ∧
  ∀ (t : Addr) (qs : List Addr) (H' : Hp), Same H H' → H t = none → H' t = some (.tup (qs.map V.ref)) → Prd H' qs (F rs ts) → Q (.ref t) H'
def togL (a b : List Rn) : List Rn := runsOf (a ++ b)
def spLeft (K : PySem.W.Frag) : Sp := fun vs H Q _ => ∃ (x b : Addr) (k : Nat) (r : Rn) (ts : List Rn), vs = [.ref x, .ref b, .int k] ∧ H x = some (.tup (rnV r)) ∧ TpAt K H b ts ∧ ts.length ≤ 3000 ∧ k ≤ ts.length ∧
  ∀ (t : Addr) (qs : List Addr) (H' : Hp), Same H H' → H t = none → H' t = some (.lst (qs.map V.ref)) → Prd H' qs (leftL r.1 r.2.2 r.2.1 (ts.drop k)) → Q (.ref t) H'
theorem left_len (s : Str) (hi : Int) : ∀ (b : List Rn) (lo : Int), (leftL s hi lo b).length ≤ b.length + 1
  | [], lo => by
    show (tailL s lo hi).length ≤ 1
    unfold tailL
    split
    · exact Nat.le_refl 1
    · exact Nat.zero_le 1
  | o :: b, lo => by
    unfold leftL
    have t1 : ∀ x y : Int, (tailL s x y).length ≤ 1 := fun x y => by
      unfold tailL
      split
      · exact Nat.le_refl 1
      · exact Nat.zero_le 1
    split
    · have z := left_len s hi b o.2.2
      have y := t1 lo o.2.1
      rw [List.length_append, List.length_cons]
      omega
    · have y := t1 lo hi
      rw [List.length_cons]
      omega
theorem drop_at {α : Type} {l : List α} {k : Nat} {x : α} (h : l[k]? = some x) : l.drop k = x :: l.drop (k + 1) := by
  obtain ⟨hk, e⟩ := List.getElem?_eq_some_iff.mp h
  rw [List.drop_eq_getElem_cons hk, e]
theorem drop_end {α : Type} {l : List α} {k : Nat} (h : l.length ≤ k) : l.drop k = [] := List.drop_eq_nil_of_le h
/-- the run at place k of RUNS -/
theorem tp_at {H : Hp} {qs : List Addr} {rs : List Rn} (h : Prd H qs rs) {k : Nat} (hk : k < rs.length) : ∃ p r, atI (qs.map V.ref) (k : Int) = some (.ref p) ∧ rs[k]? = some r ∧ H p = some (.tup (rnV r)) := by
  have hk2 : k < qs.length := by rw [h.len]; exact hk
  obtain ⟨r, h1, h2⟩ := Prd.get h (List.getElem?_eq_getElem hk2)
  exact ⟨qs[k], r, atI_nat (by rw [List.getElem?_map, List.getElem?_eq_getElem hk2]; rfl), h1, h2⟩
def rEqP (K : PySem.W.Frag) (neg : Bool) : R2 := fun x y H Q => ∃ d e, Dp K H x d ∧ Dp K H y e ∧ d.plain = true ∧ e.plain = true ∧ d.depth ≤ 60 ∧ Q (.bl (xor neg (PyData.eqv d e))) H
theorem op_eqP {X : Cx} {k : Nat} (hr : Room k X.A) : OpR X (compareOp .Eq) (rEqP X.K false) := by
  intro pins s σ H x y v u Q I rx ry h
  obtain ⟨d, e, hd, he, p1, p2, dep, q⟩ := h
  have un := hr.un
  obtain ⟨as, r1⟩ := Dp.reads I d x v hd rx
  obtain ⟨bs, r2⟩ := Dp.reads I e y u he ry
  rw [Bool.false_xor] at q
  exact PySem.SeqAt.eq_plain r1 r2 p1 p2 (by omega) ⟨.bl _, H, I, rfl, q⟩
theorem op_neP {X : Cx} {k : Nat} (hr : Room k X.A) : OpR X (compareOp .NotEq) (rEqP X.K true) := by
  intro pins s σ H x y v u Q I rx ry h
  obtain ⟨d, e, hd, he, p1, p2, dep, q⟩ := h
  have un := hr.un
  obtain ⟨as, r1⟩ := Dp.reads I d x v hd rx
  obtain ⟨bs, r2⟩ := Dp.reads I e y u he ry
  rw [Bool.true_xor] at q
  exact PySem.SeqAt.ne_plain r1 r2 p1 p2 (by omega) ⟨.bl _, H, I, rfl, q⟩
theorem rns_plain (rs : List Rn) : (rnsD rs).plain = true := by
  have all : ∀ l : List Rn, PyData.plainAll (l.map rnD) = true := fun l => by
    induction l with
    | nil => rfl
    | cons r l ih =>
      rw [List.map_cons]
      simp only [PyData.plainAll, ih, rnD, PyData.plain, Bool.and_self]
  exact all rs
theorem rns_eqv : ∀ a b : List Rn, PyData.eqv (rnsD a) (rnsD b) = decide (a = b)
  | [], [] => rfl
  | [], y :: b => by simp [rnsD, PyData.eqv, PyData.eqvAll]
  | x :: a, [] => by simp [rnsD, PyData.eqv, PyData.eqvAll]
  | x :: a, y :: b => by
    have ih := rns_eqv a b
    have e : PyData.eqv (rnsD (x :: a)) (rnsD (y :: b)) = (PyData.eqv (rnD x) (rnD y) && PyData.eqv (rnsD a) (rnsD b)) := by
      unfold rnsD
      rw [List.map_cons, List.map_cons]
      simp only [PyData.eqv, PyData.eqvAll]
    have e2 : PyData.eqv (rnD x) (rnD y) = decide (x = y) := by
      obtain ⟨x1, x2, x3⟩ := x
      obtain ⟨y1, y2, y3⟩ := y
      rw [Bool.eq_iff_iff]
      simp [rnD, PyData.eqv, PyData.eqvAll]
    rw [e, ih, e2, Bool.eq_iff_iff]
    simp
theorem rnsD_depth (rs : List Rn) : (rnsD rs).depth ≤ 60 := by
  have z := rns_depth rs
  simp only [rnsD, PyData.depth]
  omega
theorem both_len : ∀ a b : List Rn, (bothL a b).length ≤ a.length + b.length
  | [], b => by rw [both_nil]; exact Nat.zero_le _
  | x :: a, [] => by rw [both_nil2]; exact Nat.zero_le _
  | x :: a, y :: b => by
    rw [both_cons, List.length_append]
    have m : (meet x y).length ≤ 1 := by
      unfold meet
      split
      · exact Nat.le_refl 1
      · exact Nat.zero_le 1
    split
    · have z := both_len a (y :: b)
      rw [List.length_cons (as := b)] at z
      rw [List.length_cons, List.length_cons]
      omega
    · have z := both_len (x :: a) b
      rw [List.length_cons (as := a)] at z
      rw [List.length_cons, List.length_cons]
      omega
termination_by a b => a.length + b.length
theorem skip_len (s : Str) (lo : Int) (b : List Rn) : (skipL s lo b).length ≤ b.length := (List.dropWhile_suffix _).sublist.length_le
/-- pieces left of all: no more than runs of both -/
theorem less_len : ∀ a b : List Rn, (lessL a b).length ≤ (a.length) * (b.length + 1)
  | [], b => Nat.zero_le _
  | x :: a, b => by
    unfold lessL
    have z1 := left_len x.1 x.2.2 (skipL x.1 x.2.1 b) x.2.1
    have z2 := less_len a (skipL x.1 x.2.1 b)
    have z3 := skip_len x.1 x.2.1 b
    have z4 : a.length * ((skipL x.1 x.2.1 b).length + 1) ≤ a.length * (b.length + 1) := Nat.mul_le_mul (Nat.le_refl _) (by omega)
    rw [List.length_append, List.length_cons, Nat.succ_mul]
    omega
def spWithin (K : PySem.W.Frag) : Sp := fun vs H Q _ => ∃ (a b : Addr) (rs ts : List Rn), vs = [.ref a, .ref b] ∧ TpAt K H a rs ∧ TpAt K H b ts ∧ rs.length ≤ 3000 ∧ ts.length ≤ 3000 ∧
  ∀ H', Same H H' → Q (.bl (decide (lessL rs ts = []))) H'
def ofL (s : Str) (rs : List Rn) : List Rn := rs.filter fun r => decide (r.1 = s)
def spOfs (K : PySem.W.Frag) : Sp := fun vs H Q _ => ∃ (a : Addr) (s : Str) (rs : List Rn), vs = [.ref a, .str s] ∧ TpAt K H a rs ∧ rs.length ≤ 3000 ∧
  ∀ (t : Addr) (qs : List Addr) (H' : Hp), Same H H' → H t = none → H' t = some (.tup (qs.map V.ref)) → Prd H' qs (ofL s rs) → Q (.ref t) H'
/-! ### the three of k04 -/
def rTupOf (K : PySem.W.Frag) : List V → Hp → VK → Prop := fun xs H Q => ∃ p ys, xs = [V.ref p] ∧ ((SqL K H p ys ∧ ∀ l, H l = none → Q (V.ref l) (upd H l (.tup ys))) ∨ SqT K H p ys ∧ Q (V.ref p) H)
def Pq (rs ts : List Rn) (q : Nat) (s : Str) (n : Int) : Bool := if q = 0 then hasB rs s n || hasB ts s n else if q = 1 then hasB rs s n && hasB ts s n else hasB rs s n && !hasB ts s n
def dueL (rs ts : List Rn) (q : Nat) : List Rn := if q = 0 then togL rs ts else if q = 1 then bothL rs ts else lessL rs ts
/-- t + u, whichever tuple that is -/
def rCatU (K : PySem.W.Frag) : R2 := fun x y H Q => ∃ a b xs ys, x = .ref a ∧ y = .ref b ∧ SqT K H a xs ∧ SqT K H b ys ∧ xs.length + ys.length ≤ sizeLine ∧ ∀ W H', Same H H' → SqT K H' W (xs ++ ys) → Q (.ref W) H'
theorem op_catU {X : Cx} : OpR X (binaryOp .Add) (rCatU X.K) := by
  intro pins s σ H x y v u Q I rx ry h
  obtain ⟨a, b, xs, ys, rfl, rfl, ha, hb, hl, q⟩ := h
  refine op_catA pins s σ H _ _ v u Q I rx ry ⟨a, b, xs, ys, rfl, rfl, ha, hb, hl, fun e => ?_, fun _ e => ?_, fun _ _ p hp => ?_⟩
  · subst e
    exact q b H (Same.refl _) hb
  · subst e
    exact q a H (Same.refl _) (by rw [List.append_nil]; exact ha)
  · exact q p _ (same_new hp _) (SqT.of upd_same)
theorem three_made {rs ts : List Rn} {ns : List Str} {cs : List Int} (hr : Canon rs) (ht : Canon ts) (h1 : Ends rs ns cs) (h2 : Ends ts ns cs) (hn : ns.Pairwise sl) (hc : cs.Pairwise (· < ·)) (q : Nat) : mades (Pq rs ts q) ns cs = dueL rs ts q := by
  obtain ⟨y1, y2⟩ := mades_ok (P := Pq rs ts q) hn hc (fun s p n k1 k2 k3 => by
    unfold Pq
    rw [hasB_flat h1 hc k1 k2 k3, hasB_flat h2 hc k1 k2 k3]) (fun s n h => by
    unfold Pq at h
    split at h
    · rcases Bool.or_eq_true_iff.mp h with h | h
      · exact hasB_only h1 hc h
      · exact hasB_only h2 hc h
    · split at h
      · exact hasB_only h1 hc (Bool.and_eq_true_iff.mp h).1
      · exact hasB_only h1 hc (Bool.and_eq_true_iff.mp h).1)
  unfold dueL
  unfold Pq at y1 y2 ⊢
  split
  · rename_i e
    simp only [if_pos e] at y1 y2 ⊢
    have full : Full (rs ++ ts) := fun r hr' => by
      rcases List.mem_append.mp hr' with z | z
      · exact hr.2 r z
      · exact ht.2 r z
    exact (runsOf_eq full y1 fun s n => by rw [y2, has_app, Bool.or_eq_true, hasB_iff, hasB_iff]).symm
  · rename_i e
    simp only [if_neg e] at y1 y2 ⊢
    split
    · rename_i e2
      simp only [if_pos e2] at y1 y2 ⊢
      obtain ⟨b1, b2⟩ := both_ok rs ts hr ht
      exact canon_uniq y1 b1 fun s n => by rw [y2, b2, Bool.and_eq_true, hasB_iff, hasB_iff]
    · rename_i e2
      simp only [if_neg e2] at y1 y2 ⊢
      obtain ⟨b1, _, b2⟩ := less_ok rs ts hr ht
      refine canon_uniq y1 b1 fun s n => ?_
      rw [y2, b2, Bool.and_eq_true, hasB_iff, Bool.not_eq_true', ← Bool.not_eq_true, hasB_iff]
theorem ends_of2 {rs : List Rn} {ns : List Str} {cs : List Int} (h1 : ∀ s, s ∈ ns ↔ s ∈ rs.map (·.1)) (h2 : ∀ i, i ∈ cs ↔ i ∈ rs.map (·.2.1) ++ rs.map (·.2.2)) : Ends rs ns cs := fun r hr => by
  refine ⟨(h1 _).mpr (List.mem_map.mpr ⟨r, hr, rfl⟩), (h2 _).mpr ?_, (h2 _).mpr ?_⟩
  · exact List.mem_append_left _ (List.mem_map.mpr ⟨r, hr, rfl⟩)
  · exact List.mem_append_right _ (List.mem_map.mpr ⟨r, hr, rfl⟩)
theorem Ends.left {a b : List Rn} {ns : List Str} {cs : List Int} (h : Ends (a ++ b) ns cs) : Ends a ns cs := fun r hr => h r (List.mem_append_left _ hr)
theorem Ends.right {a b : List Rn} {ns : List Str} {cs : List Int} (h : Ends (a ++ b) ns cs) : Ends b ns cs := fun r hr => h r (List.mem_append_right _ hr)
/-- what stands in part q when j pieces of the i-th series are looked at -/
def stL (rs ts : List Rn) (ss : List Str) (cs : List Int) (q i j : Nat) (s : Str) : List Rn := (((ss.take i).flatMap fun s => goods (Pq rs ts q) s (pcs cs)) ++ goods (Pq rs ts q) s ((pcs cs).take j)).foldl join []
def spThree (K : PySem.W.Frag) : Sp := fun vs H Q _ => ∃ (a b : Addr) (rs ts : List Rn), vs = [.ref a, .ref b] ∧ TpAt K H a rs ∧ TpAt K H b ts ∧ Canon rs ∧ Canon ts ∧ rs.length ≤ 1000 ∧ ts.length ≤ 1000 ∧
  ∀ (D t0 t1 t2 : Addr) (H' : Hp), Same H H' → H D = none → H' D = some (.lst [.ref t0, .ref t1, .ref t2]) → TpAt K H' t0 (togL rs ts) → TpAt K H' t1 (bothL rs ts) → TpAt K H' t2 (lessL rs ts) → Q (.ref D) H'
/-- good RUNS in a tuple -/
structure Rg (K : PySem.W.Frag) (H : Hp) (t : Addr) (rs : List Rn) (n : Nat) : Prop where
  tp : TpAt K H t rs
  ca : Canon rs
  len : rs.length ≤ n
  ok : ∀ r ∈ rs, RnOk r ∧ NmOk r.1
theorem Rg.same {K : PySem.W.Frag} {H H' : Hp} {t : Addr} {rs : List Rn} {n : Nat} (s : Same H H') (h : Rg K H t rs n) : Rg K H' t rs n := ⟨h.tp.same s, h.ca, h.len, h.ok⟩
theorem Rg.mono {K : PySem.W.Frag} {H : Hp} {t : Addr} {rs : List Rn} {n m : Nat} (h : Rg K H t rs n) (l : n ≤ m) : Rg K H t rs m := ⟨h.tp, h.ca, Nat.le_trans h.len l, h.ok⟩
theorem push_all {acc : List Rn} {r : Rn} (h : ∀ x ∈ acc, RnOk x ∧ NmOk x.1) (hr : RnOk r ∧ NmOk r.1) : ∀ x ∈ push acc r, RnOk x ∧ NmOk x.1 := by
  rcases nil_or_snoc acc with rfl | ⟨i, l, rfl⟩
  · intro x hx
    rw [List.mem_singleton.mp (show x ∈ [r] from hx)]
    exact hr
  · rw [push_snoc]
    split
    · intro x hx
      rcases List.mem_append.mp hx with hx | hx
      · exact h x hx
      · rw [List.mem_singleton.mp hx]
        exact hr
    · intro x hx
      rcases List.mem_append.mp hx with hx | hx
      · exact h x (List.mem_append_left _ hx)
      · rw [List.mem_singleton.mp hx]
        obtain ⟨⟨a1, a2, a3⟩, a4⟩ := h l (List.mem_append_right _ List.mem_cons_self)
        obtain ⟨⟨b1, b2, b3⟩, b4⟩ := hr
        refine ⟨⟨a1, ?_, ?_⟩, a4⟩
        · show l.2.1 < if r.2.2 > l.2.2 then r.2.2 else l.2.2
          split <;> omega
        · show (if r.2.2 > l.2.2 then r.2.2 else l.2.2) ≤ _
          split <;> omega
theorem runsOf_all {rs : List Rn} (h : ∀ x ∈ rs, RnOk x ∧ NmOk x.1) : ∀ x ∈ runsOf rs, RnOk x ∧ NmOk x.1 := by
  have all : ∀ (l acc : List Rn), (∀ x ∈ l, RnOk x ∧ NmOk x.1) → (∀ x ∈ acc, RnOk x ∧ NmOk x.1) → ∀ x ∈ l.foldl push acc, RnOk x ∧ NmOk x.1 := fun l => by
    induction l with
    | nil => exact fun _ _ h => h
    | cons r l ih => exact fun acc h1 h2 => ih _ (fun x hx => h1 x (List.mem_cons_of_mem _ hx)) (push_all h2 (h1 r List.mem_cons_self))
  exact all _ [] (fun x hx => h x (List.mem_mergeSort.mp hx)) fun _ h => nomatch h
theorem both_all {a b : List Rn} (ha : ∀ x ∈ a, RnOk x ∧ NmOk x.1) (hb : ∀ x ∈ b, RnOk x ∧ NmOk x.1) : ∀ x ∈ bothL a b, RnOk x ∧ NmOk x.1 := fun x hx => by
  obtain ⟨u, hu, v, hv, z⟩ := both_in a b x hx
  obtain ⟨r0, r1, r2, r3, r4⟩ := meet_in.mp z
  obtain ⟨⟨a1, a2, a3⟩, a4⟩ := ha u hu
  obtain ⟨⟨b1, b2, b3⟩, _⟩ := hb v hv
  have m1 := mx_is u.2.1 v.2.1
  have m2 := mn_is u.2.2 v.2.2
  exact ⟨⟨by omega, r4, by omega⟩, r1 ▸ a4⟩
theorem less_all {a b : List Rn} (ca : Canon a) (cb : Canon b) (ha : ∀ x ∈ a, RnOk x ∧ NmOk x.1) : ∀ x ∈ lessL a b, RnOk x ∧ NmOk x.1 := fun x hx => by
  obtain ⟨z1, z2, _⟩ := less_ok a b ca cb
  obtain ⟨u, hu, k1, k2, k3⟩ := z2 x hx
  obtain ⟨⟨a1, a2, a3⟩, a4⟩ := ha u hu
  exact ⟨⟨by omega, z1.2 x hx, by omega⟩, k1 ▸ a4⟩
/-- less has no more runs than both together -/
theorem left_len2 (s : Str) (hi : Int) : ∀ (b : List Rn) (lo : Int), ∃ k, k ≤ b.length ∧ (leftL s hi lo b).length ≤ k + 1 := fun b lo => ⟨b.length, Nat.le_refl _, left_len s hi b lo⟩
def spRight3 (K : PySem.W.Frag) : Sp := fun vs H Q _ => ∃ (a b : Addr) (rs ts : List Rn), vs = [.ref a, .ref b] ∧ Rg K H a rs 1000 ∧ Rg K H b ts 1000 ∧ (lessL rs ts).length ≤ 100000 ∧ ∀ H', Same H H' → Q (.bl true) H'
theorem pair_show {a b : List Rn} (ha : ∀ r ∈ a, RnOk r ∧ NmOk r.1) (hb : ∀ r ∈ b, RnOk r ∧ NmOk r.1) (la : a.length ≤ 1000) (lb : b.length ≤ 1000) :
    (PyData.tuple [rnsD a, rnsD b]).showable = true ∧ (PyData.tuple [rnsD a, rnsD b]).hasDict = false ∧ (PyData.tuple [rnsD a, rnsD b]).depth ≤ 60 ∧ (PyData.tuple [rnsD a, rnsD b]).shown.length ≤ sizeLine := by
  obtain ⟨x1, x2⟩ := rns_fine a ha
  obtain ⟨y1, y2⟩ := rns_fine b hb
  have f : fineD (.tuple [rnsD a, rnsD b]) = true := by
    show (fineAll (a.map rnD) && (fineAll (b.map rnD) && true)) = true
    rw [x1, y1]
    rfl
  have c := shown_cost _ f
  have e : cost (.tuple [rnsD a, rnsD b]) = ((costAll (a.map rnD) + 3) + 2 + ((costAll (b.map rnD) + 3) + 2 + 0)) + 3 := rfl
  have d1 := rns_depth a
  have d2 := rns_depth b
  obtain ⟨s1, s2⟩ := fine_show _ f
  refine ⟨s1, s2, ?_, Nat.le_trans c (Nat.le_trans (show _ ≤ 11000000 by omega) (by decide))⟩
  simp only [rnsD, PyData.depth, PyData.depthAll]
  omega
theorem stL_more {rs ts : List Rn} {ss : List Str} {cs : List Int} {q i j : Nat} {s : Str} {p : Int × Int} (h : (pcs cs)[j]? = some p) : stL rs ts ss cs q i (j + 1) s = if Pq rs ts q s p.1 = true then join (stL rs ts ss cs q i j s) (s, p.1, p.2) else stL rs ts ss cs q i j s := by
  unfold stL
  rw [goods_more h]
  split
  · rw [← List.append_assoc, List.foldl_append]
    rfl
  · rw [List.append_nil]
theorem stL_next {rs ts : List Rn} {ss : List Str} {cs : List Int} {q i : Nat} {s s' : Str} (h : ss[i]? = some s) : stL rs ts ss cs q i (pcs cs).length s = stL rs ts ss cs q (i + 1) 0 s' := by
  obtain ⟨hi, e⟩ := List.getElem?_eq_some_iff.mp h
  unfold stL
  rw [List.take_length, List.take_succ_eq_append_getElem hi, List.flatMap_append, e, List.flatMap_singleton]
  have z : goods (Pq rs ts q) s' ((pcs cs).take 0) = [] := rfl
  rw [z, List.append_nil]
theorem stL_end {rs ts : List Rn} {ss : List Str} {cs : List Int} {q : Nat} {s : Str} : stL rs ts ss cs q ss.length 0 s = mades (Pq rs ts q) ss cs := by
  unfold stL mades
  have z : goods (Pq rs ts q) s ((pcs cs).take 0) = [] := rfl
  rw [List.take_length, z, List.append_nil]
theorem stL_len {rs ts : List Rn} {ss : List Str} {cs : List Int} {q i j : Nat} {s : Str} (h1 : ss.length ≤ 2000) (h2 : cs.length ≤ 4000) : (stL rs ts ss cs q i j s).length < sizeLine := by
  have z0 := fold_join_len (((ss.take i).flatMap fun s => goods (Pq rs ts q) s (pcs cs)) ++ goods (Pq rs ts q) s ((pcs cs).take j)) []
  have z1 := flat_goods_len (P := Pq rs ts q) (pcs cs) (ss.take i)
  have z2 := goods_len (P := Pq rs ts q) (s := s) ((pcs cs).take j)
  have z3 := pcs_len cs
  rw [List.length_take] at z1 z2
  have z4 : min i ss.length * (pcs cs).length ≤ 2000 * 4000 := Nat.mul_le_mul (by omega) (by omega)
  rw [List.length_append, List.length_nil] at z0
  unfold stL
  exact Nat.lt_of_le_of_lt (show _ ≤ 9000000 by omega) (by decide)
def A3 (p0 p1 p2 : Addr) (q : Nat) : Addr := if q = 0 then p0 else if q = 1 then p1 else p2
theorem all3 {T : Nat → Prop} (h0 : T 0) (h1 : T 1) (h2 : T 2) : ∀ q, q < 3 → T q := fun q hq => by
  rcases (show q = 0 ∨ q = 1 ∨ q = 2 by omega) with rfl | rfl | rfl
  · exact h0
  · exact h1
  · exact h2
/-! ### a call of a def that is told that no repr is under way -/
theorem FnG.mono {P : Program} {w : World} {K : PySem.W.Frag} {mg : Str → Option Value} {base : Heap} {j k : Nat} {f : Addr} {fd : FuncData} {ps : List Str} {sp : Sp} (F : FnG P w K mg base j f fd ps sp) (h : j ≤ k) : FnG P w K mg base k f fd ps sp :=
  ⟨F.len, fun A outer s H args us vs Q E room => F.run A outer s H args us vs Q E (room.mono h)⟩
theorem pe_callG {X : Cx} {k : Nat} {f : Addr} {fd : FuncData} {ps : List Str} {sp : Sp} {x : Str} {ds : List Value} {dvs : List V} {E : XK} {e : Expr} {es : List Expr} {t : TA} {p pos : Pos}
    (F : FnG X.prog X.w X.K X.mg X.base k f fd ps sp) (gu : X.A.guards = some []) (room : Room k X.A) (gl : Gl X x) (hm : X.mg x = some (.ref f)) (kp : PySem.W.keepIn X.K (.ref f) = true) (bi : Binds X.K fd ps ds) (hd : Vals dvs ds) (pass : Passes CX0 X E)
    (ha : PA X (e :: es) t) (ndb : (x == ("__debug__" : Str)) = false := by decide) (st : starEach (e :: es) X.env = (false, eval e X.env) :: starEach es X.env := by rfl) (np : (backTo pos (starEach es X.env)).any (·.1) = false := by rfl) :
    PE X (.Call (.Name x p) (e :: es) [] pos) (tCall sp dvs E t) := by
  constructor
  intro pins s σ H Q I wish
  refine wpAny_Call_Name_kw (ld_glob I gl hm ?_ ndb)
  refine PySem.W.callWith_K (h₀ := X.base) I.ok.mod.kin kp (thn (ha.run pos pins s σ H _ I wish) fun us s1 ⟨vs, H1, I1, rel, q⟩ => ⟨I1.kIn, ?_⟩) st np
  have rel2 : Vals (vs ++ dvs) (us ++ ds) := rel.append hd
  have len : (us ++ ds).length = ps.length := rel2.length.symm.trans (F.len _ _ _ _ q)
  refine wpAny_call (codeAny_mono (F.run X.A X.stack s1 H1 ⟨us, []⟩ (us ++ ds) (vs ++ dvs) Q E room gu I1.env0 (bi s1 us I1.kIn len) rel2 q) fun res s2 told => ?_)
  match res, told with
  | .error er, told => exact pass pins σ H1 s1 er s2 I1 told
  | .ok (.ret u), told => exact I1.after told
  | .ok .next, told => exact told.elim
  | .ok .brk, told => exact told.elim
  | .ok .cont, told => exact told.elim
/-! ### what leads where: walks, the going by way of each place, the search by widths -/
abbrev Ed := Str × Str
def Wlk (E : List Ed) : Nat → Str → Str → Prop
  | 0, x, y => x = y
  | n + 1, x, y => ∃ z, Wlk E n x z ∧ (z, y) ∈ E
theorem wlk_app {E : List Ed} {n : Nat} {x z : Str} (h : Wlk E n x z) : ∀ {m : Nat} {y : Str}, Wlk E m z y → Wlk E (n + m) x y
  | 0, _, k => by
    cases (show z = _ from k)
    exact h
  | m + 1, _, ⟨u, k1, k2⟩ => ⟨u, wlk_app h k1, k2⟩
def Least (E : List Ed) (x y : Str) (n : Nat) : Prop := Wlk E n x y ∧ ∀ m, Wlk E m x y → n ≤ m
theorem least_one {E : List Ed} {x y : Str} {n m : Nat} (h : Least E x y n) (k : Least E x y m) : n = m := Nat.le_antisymm (h.2 m k.1) (k.2 n h.1)
abbrev Ap := Str → Str → Option Nat
structure FwOk (E : List Ed) (V : Str → Prop) (S : Str → Prop) (d : Ap) : Prop where
  sound : ∀ x y n, d x y = some n → Wlk E n x y
  refl : ∀ x, V x → d x x = some 0
  edge : ∀ x y, (x, y) ∈ E → ∃ n, d x y = some n ∧ n ≤ 1
  tri : ∀ z, S z → ∀ x y a b, d x z = some a → d z y = some b → ∃ n, d x y = some n ∧ n ≤ a + b
  dom : ∀ x y n, d x y = some n → V x ∧ V y
def fwMin (o : Option Nat) (n : Nat) : Nat := match o with
  | some c => if n < c then n else c
  | none => n
def fwStep (d : Ap) (v : Str) : Ap := fun x y => match d x v, d v y with
  | some a, some b => some (fwMin (d x y) (a + b))
  | _, _ => d x y
theorem fw_val {d : Ap} {v x y : Str} {a b : Nat} (h1 : d x v = some a) (h2 : d v y = some b) : fwStep d v x y = some (fwMin (d x y) (a + b)) := by
  unfold fwStep
  rw [h1, h2]
theorem fw_none {d : Ap} {v x y : Str} (h : d x v = none ∨ d v y = none) : fwStep d v x y = d x y := by
  unfold fwStep
  rcases h with h | h
  · rw [h]
  · rw [h]
    cases d x v <;> rfl
theorem fwMin_le (o : Option Nat) (n : Nat) : fwMin o n ≤ n ∧ (∀ c, o = some c → fwMin o n ≤ c) ∧ (fwMin o n = n ∨ o = some (fwMin o n)) := by
  unfold fwMin
  cases o with
  | none => exact ⟨Nat.le_refl _, fun _ h => (nomatch h), .inl rfl⟩
  | some c =>
    dsimp only
    split
    · exact ⟨Nat.le_refl _, fun c' h => by cases h; omega, .inl rfl⟩
    · exact ⟨by omega, fun c' h => by cases h; omega, .inr rfl⟩
theorem fw_le {d : Ap} {v x y : Str} {c : Nat} (h : d x y = some c) : ∃ n, fwStep d v x y = some n ∧ n ≤ c := by
  cases h1 : d x v with
  | none => exact ⟨c, (fw_none (.inl h1)).trans h, Nat.le_refl _⟩
  | some a =>
    cases h2 : d v y with
    | none => exact ⟨c, (fw_none (.inr h2)).trans h, Nat.le_refl _⟩
    | some b => exact ⟨_, fw_val h1 h2, (fwMin_le _ _).2.1 c h⟩
theorem fw_via {d : Ap} {v x y : Str} {a b : Nat} (h1 : d x v = some a) (h2 : d v y = some b) : ∃ n, fwStep d v x y = some n ∧ n ≤ a + b := ⟨_, fw_val h1 h2, (fwMin_le _ _).1⟩
theorem fw_cases {d : Ap} {v x y : Str} {n : Nat} (h : fwStep d v x y = some n) : d x y = some n ∨ ∃ a b, d x v = some a ∧ d v y = some b ∧ n = a + b := by
  cases h1 : d x v with
  | none => exact .inl ((fw_none (.inl h1)).symm.trans h)
  | some a =>
    cases h2 : d v y with
    | none => exact .inl ((fw_none (.inr h2)).symm.trans h)
    | some b =>
      have e := (fw_val h1 h2).symm.trans h
      have e := Option.some.inj e
      rcases (fwMin_le (d x y) (a + b)).2.2 with z | z
      · exact .inr ⟨a, b, rfl, rfl, e.symm.trans z⟩
      · rw [e] at z
        exact .inl z
theorem fw_ok {E : List Ed} {V S : Str → Prop} {d : Ap} {v : Str} (h : FwOk E V S d) (hv : V v) : FwOk E V (fun z => S z ∨ z = v) (fwStep d v) where
  sound := fun x y n e => by
    rcases fw_cases e with z | ⟨a, b, z1, z2, rfl⟩
    · exact h.sound x y n z
    · exact wlk_app (h.sound _ _ _ z1) (h.sound _ _ _ z2)
  refl := fun x hx => by
    obtain ⟨n, e, l⟩ := fw_le (v := v) (h.refl x hx)
    rw [e, Nat.le_zero.mp l]
  edge := fun x y e => by
    obtain ⟨n, e1, l1⟩ := h.edge x y e
    obtain ⟨m, e2, l2⟩ := fw_le (v := v) e1
    exact ⟨m, e2, by omega⟩
  tri := fun z hz x y a b e1 e2 => by
    have c1 := fw_cases e1
    have c2 := fw_cases e2
    rcases hz with hz | rfl
    · rcases c1 with c1 | ⟨p, q, p1, p2, rfl⟩ <;> rcases c2 with c2 | ⟨r, s, r1, r2, rfl⟩
      · obtain ⟨n, n1, n2⟩ := h.tri z hz x y a b c1 c2
        obtain ⟨m, m1, m2⟩ := fw_le (v := v) n1
        exact ⟨m, m1, by omega⟩
      · obtain ⟨n, n1, n2⟩ := h.tri z hz x v a r c1 r1
        obtain ⟨m, m1, m2⟩ := fw_via n1 r2
        exact ⟨m, m1, by omega⟩
      · obtain ⟨n, n1, n2⟩ := h.tri z hz v y q b p2 c2
        obtain ⟨m, m1, m2⟩ := fw_via p1 n1
        exact ⟨m, m1, by omega⟩
      · obtain ⟨m, m1, m2⟩ := fw_via p1 r2
        exact ⟨m, m1, by omega⟩
    · have d1 : ∃ a', d x z = some a' ∧ a' ≤ a := by
        rcases c1 with c1 | ⟨p, q, p1, p2, rfl⟩
        · exact ⟨a, c1, Nat.le_refl _⟩
        · exact ⟨p, p1, by omega⟩
      have d2 : ∃ b', d z y = some b' ∧ b' ≤ b := by
        rcases c2 with c2 | ⟨p, q, p1, p2, rfl⟩
        · exact ⟨b, c2, Nat.le_refl _⟩
        · exact ⟨q, p2, by omega⟩
      obtain ⟨a', a1, a2⟩ := d1
      obtain ⟨b', b1, b2⟩ := d2
      obtain ⟨m, m1, m2⟩ := fw_via a1 b1
      exact ⟨m, m1, by omega⟩
  dom := fun x y n e => by
    rcases fw_cases e with z | ⟨a, b, z1, z2, rfl⟩
    · exact h.dom x y n z
    · exact ⟨(h.dom _ _ _ z1).1, (h.dom _ _ _ z2).2⟩
theorem fw_end {E : List Ed} {V S : Str → Prop} {d : Ap} (h : FwOk E V S d) (all : ∀ x, V x → S x) {x : Str} (hx : V x) : ∀ {n : Nat} {y : Str}, Wlk E n x y → ∃ m, d x y = some m ∧ m ≤ n
  | 0, _, k => by
    cases (show x = _ from k)
    exact ⟨0, h.refl x hx, Nat.le_refl _⟩
  | n + 1, y, ⟨z, k1, k2⟩ => by
    obtain ⟨m, m1, m2⟩ := fw_end h all hx k1
    obtain ⟨c, c1, c2⟩ := h.edge z y k2
    obtain ⟨r, r1, r2⟩ := h.tri z (all z (h.dom _ _ _ m1).2) x y m c m1 c1
    exact ⟨r, r1, by omega⟩
theorem fw_least {E : List Ed} {V S : Str → Prop} {d : Ap} (h : FwOk E V S d) (all : ∀ x, V x → S x) {x y : Str} {n : Nat} (hx : V x) (e : d x y = some n) : Least E x y n := by
  refine ⟨h.sound x y n e, fun m k => ?_⟩
  obtain ⟨c, c1, c2⟩ := fw_end h all hx k
  rw [e] at c1
  cases c1
  exact c2
/-- a way from x, its places one behind the other, to the last one -/
inductive Pth (E : List Ed) (x : Str) : List Str → Str → Prop
  | one : Pth E x [x] x
  | snoc {p : List Str} {u v : Str} : Pth E x p u → (u, v) ∈ E → Pth E x (p ++ [v]) v
theorem pth_len {E : List Ed} {x : Str} {p : List Str} {v : Str} (h : Pth E x p v) : ∃ n, p.length = n + 1 ∧ Wlk E n x v := by
  induction h with
  | one => exact ⟨0, rfl, rfl⟩
  | snoc k e ih =>
    obtain ⟨n, n1, n2⟩ := ih
    exact ⟨n + 1, by rw [List.length_append, List.length_singleton, n1], _, n2, e⟩
theorem pth_first {E : List Ed} {x : Str} {p : List Str} {v : Str} (h : Pth E x p v) : ∃ q, p = x :: q := by
  induction h with
  | one => exact ⟨[], rfl⟩
  | snoc k e ih =>
    obtain ⟨q, rfl⟩ := ih
    exact ⟨q ++ [_], rfl⟩
theorem pth_last {E : List Ed} {x : Str} {p : List Str} {v : Str} (h : Pth E x p v) : ∃ q, p = q ++ [v] := by
  cases h with
  | one => exact ⟨[], rfl⟩
  | snoc k e => exact ⟨_, rfl⟩
theorem pth_edges {E : List Ed} {x : Str} {p : List Str} {v : Str} (h : Pth E x p v) : ∀ k a b, p[k]? = some a → p[k + 1]? = some b → (a, b) ∈ E := by
  induction h with
  | one => intro k a b _ h2; exact nomatch h2
  | snoc k e ih =>
    rename_i p u v
    intro i a b h1 h2
    by_cases c : i + 1 < p.length
    · rw [List.getElem?_append_left (by omega)] at h1
      rw [List.getElem?_append_left c] at h2
      exact ih i a b h1 h2
    · obtain ⟨q, rfl⟩ := pth_last k
      rw [List.length_append, List.length_singleton] at c
      have z := (List.getElem?_eq_some_iff.mp h2).1
      rw [List.length_append, List.length_append, List.length_singleton, List.length_singleton] at z
      have ei : i = q.length := by omega
      subst ei
      rw [List.getElem?_append_left (by rw [List.length_append, List.length_singleton]; omega), List.getElem?_concat_length] at h1
      have e2 : q.length + 1 = (q ++ [u]).length := by rw [List.length_append, List.length_singleton]
      rw [e2, List.getElem?_concat_length] at h2
      cases h1
      cases h2
      exact e
abbrev En := Str × List Str
structure Bfs (E : List Ed) (x : Str) (es : List En) (at_ : Nat) : Prop where
  ok : ∀ e ∈ es, Pth E x e.2 e.1
  nodup : (es.map (·.1)).Nodup
  mono : es.Pairwise fun a b => a.2.length ≤ b.2.length
  near : ∀ c, es[at_]? = some c → ∀ e ∈ es, e.2.length ≤ c.2.length + 1
  done : ∀ i c, i < at_ → es[i]? = some c → ∀ y, (c.1, y) ∈ E → ∃ e ∈ es, e.1 = y ∧ e.2.length ≤ c.2.length + 1
  root : ∃ e ∈ es, e.1 = x ∧ e.2.length = 1
theorem bfs_new (E : List Ed) (x : Str) : Bfs E x [(x, [x])] 0 := by
  refine ⟨fun e he => ?_, by simp, List.pairwise_singleton _ _, fun c hc e he => ?_, fun i c hi => absurd hi (Nat.not_lt_zero _), ⟨_, List.mem_cons_self, rfl, rfl⟩⟩
  · rw [List.mem_singleton.mp he]
    exact .one
  · rw [List.mem_singleton.mp he]
    cases Option.some.inj hc
    exact Nat.le_succ _
theorem bfs_add {E : List Ed} {x : Str} {es : List En} {k : Nat} {c : En} {t : Str} (h : Bfs E x es k) (hc : es[k]? = some c) (ht : (c.1, t) ∈ E) (new : ∀ e ∈ es, e.1 ≠ t) : Bfs E x (es ++ [(t, c.2 ++ [t])]) k := by
  have hk := (List.getElem?_eq_some_iff.mp hc).1
  have len : (c.2 ++ [t]).length = c.2.length + 1 := by rw [List.length_append, List.length_singleton]
  refine ⟨fun e he => ?_, ?_, List.pairwise_append.mpr ⟨h.mono, List.pairwise_singleton _ _, fun a ha b hb => ?_⟩, fun c' hc' e he => ?_, fun i c' hi hc' y hy => ?_, ?_⟩
  · rcases List.mem_append.mp he with he | he
    · exact h.ok e he
    · rw [List.mem_singleton.mp he]
      exact .snoc (h.ok c (List.mem_of_getElem? hc)) ht
  · rw [List.map_append, List.nodup_append]
    refine ⟨h.nodup, by simp, fun a ha b hb => ?_⟩
    obtain ⟨e, he, rfl⟩ := List.mem_map.mp ha
    have : b = t := by simpa using hb
    subst this
    exact new e he
  · rw [List.mem_singleton.mp hb]
    show a.2.length ≤ (c.2 ++ [t]).length
    rw [len]
    exact h.near c hc a ha
  · rw [List.getElem?_append_left hk, hc] at hc'
    cases hc'
    rcases List.mem_append.mp he with he | he
    · exact h.near c hc e he
    · rw [List.mem_singleton.mp he]
      show (c.2 ++ [t]).length ≤ _
      rw [len]
      exact Nat.le_refl _
  · rw [List.getElem?_append_left (by omega)] at hc'
    obtain ⟨e, e1, e2⟩ := h.done i c' hi hc' y hy
    exact ⟨e, List.mem_append_left _ e1, e2⟩
  · obtain ⟨e, e1, e2⟩ := h.root
    exact ⟨e, List.mem_append_left _ e1, e2⟩
theorem bfs_next {E : List Ed} {x : Str} {es : List En} {k : Nat} {c : En} (h : Bfs E x es k) (hc : es[k]? = some c) (all : ∀ y, (c.1, y) ∈ E → ∃ e ∈ es, e.1 = y ∧ e.2.length ≤ c.2.length + 1) : Bfs E x es (k + 1) := by
  have hk := (List.getElem?_eq_some_iff.mp hc)
  refine ⟨h.ok, h.nodup, h.mono, fun c' hc' e he => ?_, fun i c' hi hc' y hy => ?_, h.root⟩
  · have hk' := (List.getElem?_eq_some_iff.mp hc')
    have z1 := h.near c hc e he
    have z2 := (List.pairwise_iff_getElem.mp h.mono) k (k + 1) hk.1 hk'.1 (by omega)
    rw [hk.2, hk'.2] at z2
    omega
  · by_cases d : i < k
    · exact h.done i c' d hc' y hy
    · have ei : i = k := by omega
      subst ei
      rw [hc] at hc'
      cases hc'
      exact all y hy
theorem bfs_end {E : List Ed} {x : Str} {es : List En} {k : Nat} (h : Bfs E x es k) (hk : es.length ≤ k) : ∀ {n : Nat} {y : Str}, Wlk E n x y → ∃ e ∈ es, e.1 = y ∧ e.2.length ≤ n + 1
  | 0, _, w => by
    cases (show x = _ from w)
    obtain ⟨e, e1, e2, e3⟩ := h.root
    exact ⟨e, e1, e2, by omega⟩
  | n + 1, y, ⟨z, w1, w2⟩ => by
    obtain ⟨e, e1, e2, e3⟩ := bfs_end h hk w1
    obtain ⟨i, hi, ei⟩ := List.getElem_of_mem e1
    obtain ⟨f, f1, f2, f3⟩ := h.done i e (by omega) (by rw [List.getElem?_eq_getElem hi, ei]) y (by rw [e2]; exact w2)
    exact ⟨f, f1, f2, by omega⟩
theorem fst_inj {es : List En} (h : (es.map (·.1)).Nodup) {a b : En} (ha : a ∈ es) (hb : b ∈ es) (e : a.1 = b.1) : a = b := by
  induction es with
  | nil => exact nomatch ha
  | cons x l ih =>
    rw [List.map_cons, List.nodup_cons] at h
    rcases List.mem_cons.mp ha with ha2 | ha2 <;> rcases List.mem_cons.mp hb with hb2 | hb2
    · rw [ha2, hb2]
    · exact (h.1 (List.mem_map.mpr ⟨b, hb2, by rw [← e, ha2]⟩)).elim
    · exact (h.1 (List.mem_map.mpr ⟨a, ha2, by rw [e, hb2]⟩)).elim
    · exact ih h.2 ha2 hb2
theorem bfs_least {E : List Ed} {x : Str} {es : List En} {k : Nat} (h : Bfs E x es k) (hk : es.length ≤ k) {e : En} (he : e ∈ es) : ∃ n, e.2.length = n + 1 ∧ Least E x e.1 n := by
  obtain ⟨n, n1, n2⟩ := pth_len (h.ok e he)
  refine ⟨n, n1, n2, fun m w => ?_⟩
  obtain ⟨f, f1, f2, f3⟩ := bfs_end h hk w
  cases fst_inj h.nodup f1 he f2
  omega
theorem sub_len {α : Type} [DecidableEq α] : ∀ {l m : List α}, l.Nodup → (∀ x ∈ l, x ∈ m) → l.length ≤ m.length
  | [], _, _, _ => Nat.zero_le _
  | x :: l, m, h, s => by
    obtain ⟨h1, h2⟩ := List.nodup_cons.mp h
    have hx := s x List.mem_cons_self
    have z := sub_len (l := l) (m := m.erase x) h2 fun y hy => (List.mem_erase_of_ne (fun e => h1 (by rw [← e]; exact hy))).mpr (s y (List.mem_cons_of_mem _ hy))
    rw [List.length_erase_of_mem hx] at z
    have : 0 < m.length := List.length_pos_of_mem hx
    rw [List.length_cons]
    omega
theorem pth_in {E : List Ed} {V : Str → Prop} {x : Str} (hx : V x) (hE : ∀ a b, (a, b) ∈ E → V b) {p : List Str} {v : Str} (h : Pth E x p v) : V v := by
  cases h with
  | one => exact hx
  | snoc k e => exact hE _ _ e
/-! ### offices, roads, rows: rules and promises -/
theorem sort_strs (xs : List Str) : sortD (xs.map V.str) (xs.map .str) = (xs.mergeSort fun a b => decide (a.cps.toList ≤ b.cps.toList)).map V.str := by
  have e1 : ((xs.map V.str).zip (xs.map PyData.str)) = xs.map fun x => (V.str x, PyData.str x) := by
    rw [List.zip_map]
    induction xs with
    | nil => rfl
    | cons x l ih =>
      rw [List.zip_cons_cons, List.map_cons, List.map_cons, ih]
      rfl
  unfold sortD
  rw [e1, ← PySem.W.sort_maps (r := fun a b => decide (a.cps.toList ≤ b.cps.toList)) (fun x : Str => (V.str x, PyData.str x)) (fun a _ b _ => (congrFun (congrFun (PySem.W.dataLe_str (β := Str) fun x => x) a) b).symm), List.map_map]
  rfl
theorem sorted_up {xs : List Str} (nd : xs.Nodup) : (xs.mergeSort fun a b => decide (a.cps.toList ≤ b.cps.toList)).Pairwise sl := by
  have up := List.pairwise_mergeSort (le := fun (a b : Str) => decide (a.cps.toList ≤ b.cps.toList)) (fun a b c h1 h2 => by rw [decide_eq_true_eq] at *; exact List.le_trans h1 h2) (fun a b => by rw [Bool.or_eq_true, decide_eq_true_eq, decide_eq_true_eq]; exact List.le_total _ _) xs
  have nd3 : (xs.mergeSort fun a b => decide (a.cps.toList ≤ b.cps.toList)).Nodup := (List.mergeSort_perm xs _).nodup_iff.mpr nd
  refine (up.and nd3).imp fun {a b} h => ?_
  have h1 := of_decide_eq_true h.1
  rcases sl_tot a b with z | z | z
  · exact z
  · exact absurd z h.2
  · exact absurd z (List.not_lt.mpr h1)
/-- sorted of a dict whose keys are texts -/
def rSortDS : List V → Hp → VK → Prop := fun xs H Q => ∃ (a : Addr) (kvs : List (Key × V)) (ks : List Str), xs = [.ref a] ∧ Rd H a (.dK kvs) ∧ kvs.map (·.1) = ks.map Sum.inr ∧ ks.Nodup ∧ ks.length ≤ 100000 ∧
  ∀ (ys : List Str) (p : Addr), ys.Pairwise sl → (∀ y, y ∈ ys ↔ y ∈ ks) → ys.length = ks.length → H p = none → Q (.ref p) (upd H p (.lst (ys.map V.str)))
theorem cr_sortDS {X : Cx} {k : Nat} (hr : Room k X.A) (calm : X.calm = true) : CallR X (.builtin "sorted") rSortDS := by
  intro pins s σ H xs us Q I r h
  obtain ⟨a, kvs, ks, rfl, hd, keys, nd, long, q⟩ := h
  rw [Vals.ref1 r]
  have un := hr.un
  obtain ⟨z, lo, vs, rel, dd⟩ := dk_rd I.hok hd
  obtain ⟨ep, at1⟩ := dd.dictAt
  have vkeys : vs.map (·.1) = ks.map Sum.inr := rel.keys.symm.trans keys
  have len1 : vs.length = ks.length := by simpa using congrArg List.length vkeys
  have line : ks.length ≤ sizeLine := Nat.le_trans long (by decide)
  refine (Calls.call_function_entry PyProof.Rows.kind_sorted PyProof.Rows.plain_sorted PyProof.Rows.entry_sorted (PyProof.Rows.args_sorted1 _) ?_); unfold Builtin.«sorted»
  refine (wpAny_bind (m := checkCount "sorted" 1 1 _) (wpAny_pure ?_))
  refine wpAny_bind (PySem.W.kdu_collect (A := X.A.in1) (PySem.W.kdl_dict (knd := mixKind X.prog X.w) (kvs := vs) (ep := ep) lo) (I.ok.hd calm) at1 (by rw [len1]; exact line) fun h1 tk acc keep got => ?_)
  have len2 : acc.toList.length = ks.length := by rw [Array.length_toList, got.1, len1]
  have each : PySem.W.EachIs (fun v (x : Str) => ∃ t, v = Value.str x t) acc.toList ks := by
    have go : ∀ (l : List Value) (m : List Str), l.length = m.length → (∀ j v, l[j]? = some v → ∃ x t, m[j]? = some x ∧ v = Value.str x t) → PySem.W.EachIs (fun v (x : Str) => ∃ t, v = Value.str x t) l m := fun l => by
      induction l with
      | nil =>
        intro m e _
        cases m with
        | nil => exact .nil
        | cons x m => cases e
      | cons v l ih =>
        intro m e f
        cases m with
        | nil => cases e
        | cons x m =>
          obtain ⟨x', t, h1, h2⟩ := f 0 v rfl
          cases Option.some.inj h1
          exact .cons ⟨t, h2⟩ (ih m (Nat.succ.inj e) fun j u hu => f (j + 1) u hu)
    refine go _ _ len2 fun j v e => ?_
    obtain ⟨kk, x, e1, e2⟩ := got.2 j v (by rw [← Array.getElem?_toList]; exact e)
    have e3 : (vs.map (·.1))[j]? = some kk := by rw [List.getElem?_map, e1]; rfl
    rw [vkeys, List.getElem?_map] at e3
    obtain ⟨y, e4, e5⟩ : ∃ y, ks[j]? = some y ∧ Sum.inr y = kk := by
      cases e4 : ks[j]? with
      | none => rw [e4] at e3; cases e3
      | some y => rw [e4] at e3; exact ⟨y, rfl, Option.some.inj e3⟩
    subst e5
    rcases keyIs_shape (show keyIs (Sum.inr y) v = true from e2) with ⟨i, t, ek, ev⟩ | ⟨z, t, ek, ev⟩
    · cases ek
    · cases ek
      exact ⟨y, t, e4, ev⟩
  have J : Inv X pins σ H { s with heap := h1, toks := tk } := I.kept keep
  refine wpAny_bind (wpAny_newList ?_ (by rw [len2]; exact line))
  have new : (h1.push (seqObj "list" acc.toList.toArray 0)).get? h1.objs.size = some (seqObj "list" acc.toList.toArray 0) := Heap.get?_push_size _ rfl
  show wpAny _ _ _ _ _ { s with toks := tk, heap := h1.push (seqObj "list" acc.toList.toArray 0) }
  refine wpAny_bind (wpAny_holding (PySem.W.list_sort_data (enc := fun x : Str => .str x) (R := fun v (x : Str) => ∃ t, v = Value.str x t) new each (each.mono fun v x ⟨t, e⟩ => ⟨[], by rw [e]; exact .str x t, fun z => nomatch z⟩) (fun d hd e he => ?_) (.inr fun d hd => ?_) (Nat.le_trans long (by decide)) (fun x _ => ?_) fun out ho eo => ?_))
  · obtain ⟨x, _, rfl⟩ := List.mem_map.mp hd
    obtain ⟨y, _, rfl⟩ := List.mem_map.mp he
    rfl
  · obtain ⟨x, _, rfl⟩ := List.mem_map.mp hd
    exact ⟨nofun, nofun⟩
  · show X.A.units + 1 + 1 + 0 < cLine
    omega
  have rv : Vals ((ks.mergeSort (PySem.W.dataLe false fun x : Str => .str x)).map V.str) out := by
    clear ho
    generalize ks.mergeSort (PySem.W.dataLe false fun x : Str => .str x) = ms at eo
    induction eo with
    | nil => exact .nil
    | cons r e ih => exact .cons r ih
  rw [PySem.W.dataLe_str (β := Str) fun x => x] at rv
  obtain ⟨en, at2⟩ := PyProof.Rows.sortedHeap_at (vs := acc.toList) (out := out.toArray) new
  have len3 : ((ks.mergeSort fun a b => decide (a.cps.toList ≤ b.cps.toList)).map V.str).length ≤ sizeLine := by rw [List.length_map, List.length_mergeSort]; exact line
  refine wpAny_pure ⟨_, rfl, .ref h1.objs.size, upd H _ (.lst ((ks.mergeSort fun a b => decide (a.cps.toList ≤ b.cps.toList)).map V.str)), J.laid (t' := tk) (fun b u e => ?_) (Nat.le_refl _) ⟨len3, out, en, rv, at2⟩, rfl, q _ _ (sorted_up nd) (fun y => List.mem_mergeSort) (List.length_mergeSort _) (J.hok.fresh (Nat.le_refl _))⟩
  have lt : b < h1.objs.size := Heap.lt_size e
  rw [PyProof.Rows.sortedHeap_old (Nat.ne_of_lt lt) (by rw [size_push']; exact Nat.lt_succ_of_lt lt)]
  exact (Heap.get?_push_of_some _ e)
/-- repr of data, of a number, of None -/
def rReprV (K : PySem.W.Frag) : List V → Hp → VK → Prop := fun xs H Q => (∃ (a : Addr) (d : PyData), xs = [.ref a] ∧ Dp K H (.ref a) d ∧ d.showable = true ∧ d.hasDict = false ∧ d.depth ≤ 60 ∧ d.shown.length ≤ sizeLine ∧ Q (.str d.shown) H) ∨
  (∃ i : Int, xs = [.int i] ∧ i.natAbs.log2 < 1920 ∧ Q (.str (toString i)) H) ∨ (xs = [.non] ∧ Q (.str (("None" : String) : Str)) H)
theorem cr_reprV {X : Cx} {k : Nat} (gu : X.A.guards = some []) (hr : Room k X.A) : CallR X (.builtin "repr") (rReprV X.K) := by
  intro pins s σ H vs us Q I r h
  rcases h with h | ⟨i, rfl, hz, q⟩ | ⟨rfl, q⟩
  · exact cr_repr gu hr pins s σ H vs us Q I r h
  · obtain ⟨u, rfl, t, rfl⟩ := vals1 r
    exact PySem.P.repr_of_int hz ⟨.str _, H, I.tok _, ⟨_, rfl⟩, q⟩
  · obtain ⟨u, rfl, ru⟩ := vals1 r
    cases ru
    exact call_repr_gives (s := s) rfl F.slot_NoneType_repr F.entry_NoneType_repr (F.args_NoneType_repr_1 _) gives_none_repr ⟨.str _, H, I.tok _, ⟨_, rfl⟩, q⟩
/-- x in a list (b) or tuple of data -/
def rInP (K : PySem.W.Frag) (neg b : Bool) : R2 := fun x y H Q => ∃ d ds, Dp K H x d ∧ Dp K H y (if b = true then .list ds else .tuple ds) ∧ d.plain = true ∧ PyData.plainAll ds = true ∧ d.depth ≤ 50 ∧ Q (.bl (xor neg (ds.any fun z => PyData.eqv z d))) H
section
variable {X : Cx} {k : Nat}
theorem op_inLP (hr : Room k X.A) : OpR X (compareOp .In) (rInP X.K false true) := by
  intro pins s σ H x y v u Q I rx ry h
  obtain ⟨d, ds, hd, he, p1, p2, dep, q⟩ := h
  have un := hr.un
  obtain ⟨as, r1⟩ := Dp.reads I d x v hd rx
  obtain ⟨bs, r2⟩ := Dp.reads I _ y u he ry
  rw [Bool.false_xor] at q
  exact PySem.SeqAt.in_list_data r2 r1 p2 p1 (by omega) ⟨.bl _, H, I, rfl, q⟩
theorem op_notinLP (hr : Room k X.A) : OpR X (compareOp .NotIn) (rInP X.K true true) := by
  intro pins s σ H x y v u Q I rx ry h
  obtain ⟨d, ds, hd, he, p1, p2, dep, q⟩ := h
  have un := hr.un
  obtain ⟨as, r1⟩ := Dp.reads I d x v hd rx
  obtain ⟨bs, r2⟩ := Dp.reads I _ y u he ry
  rw [Bool.true_xor] at q
  exact PySem.SeqAt.notIn_list_data r2 r1 p2 p1 (by omega) ⟨.bl _, H, I, rfl, q⟩
theorem op_inTP (hr : Room k X.A) : OpR X (compareOp .In) (rInP X.K false false) := by
  intro pins s σ H x y v u Q I rx ry h
  obtain ⟨d, ds, hd, he, p1, p2, dep, q⟩ := h
  have un := hr.un
  obtain ⟨as, r1⟩ := Dp.reads I d x v hd rx
  obtain ⟨bs, r2⟩ := Dp.reads I _ y u he ry
  rw [Bool.false_xor] at q
  exact PySem.SeqAt.in_tuple_data r2 r1 p2 p1 (by omega) ⟨.bl _, H, I, rfl, q⟩
end
/-! roads in the heap -/
def edV (e : Ed) : List V := [.str e.1, .str e.2]
def edD (e : Ed) : PyData := .tuple [.str e.1, .str e.2]
abbrev Rds (H : Hp) (ps : List Addr) (es : List Ed) : Prop := Paired (fun (p : Addr) (e : Ed) => H p = some (.tup (edV e))) ps es
theorem Rds.len {H : Hp} {ps : List Addr} {es : List Ed} (h : Rds H ps es) : ps.length = es.length := Paired.length h
theorem Rds.keep {H H' : Hp} : ∀ {ps : List Addr} {es : List Ed}, (∀ p o, (∀ z, o ≠ HO.lst z) → (∀ z, o ≠ HO.dK z) → (∀ z, o ≠ HO.dT z) → H p = some o → H' p = some o) → Rds H ps es → Rds H' ps es
  | _, _, _, .nil => .nil
  | _, _, k, .cons a b => .cons (k _ _ (fun z => nofun) (fun z => nofun) (fun z => nofun) a) (Rds.keep k b)
theorem Rds.same {H H' : Hp} {ps : List Addr} {es : List Ed} (s : Same H H') (h : Rds H ps es) : Rds H' ps es := Rds.keep (fun p o _ _ _ e => s p o e) h
theorem Rds.put {H : Hp} {l : Addr} {xs : List V} {o : HO} {ps : List Addr} {es : List Ed} (hl : H l = some (.lst xs)) (h : Rds H ps es) : Rds (upd H l o) ps es :=
  Rds.keep (fun p u n1 _ _ e => by rw [upd_ne (ne_of e hl (n1 _))]; exact e) h
theorem Rds.but {H H' : Hp} {f c : Addr} {n : Int} {ps : List Addr} {es : List Ed} (hf : Fd H f c n) (b : But f H H') (h : Rds H ps es) : Rds H' ps es := by
  obtain ⟨zs, hz⟩ := hf.at
  exact Rds.keep (fun p o n1 _ _ e => b p o (ne_of e hz (n1 zs)) e) h
theorem Rds.app {H : Hp} : ∀ {ps qs : List Addr} {es ts : List Ed}, Rds H ps es → Rds H qs ts → Rds H (ps ++ qs) (es ++ ts)
  | _, _, _, _, .nil, b => b
  | _, _, _, _, .cons a r, b => .cons a (Rds.app r b)
theorem Rds.get {H : Hp} : ∀ {ps : List Addr} {es : List Ed} {i : Nat} {p : Addr}, Rds H ps es → ps[i]? = some p → ∃ e, es[i]? = some e ∧ H p = some (.tup (edV e))
  | _, _, 0, _, .cons a _, h => by
    cases h
    exact ⟨_, rfl, a⟩
  | _, _, i + 1, p, .cons _ b, h => Rds.get (i := i) (p := p) b h
theorem Rds.dp {K : PySem.W.Frag} {H : Hp} : ∀ {ps : List Addr} {es : List Ed}, Rds H ps es → DpAll K H (ps.map V.ref) (es.map edD)
  | _, _, .nil => .nil
  | _, _, .cons a b => .cons (.tup (SqT.of a) (.cons (.str _) (.cons (.str _) .nil))) (Rds.dp b)
theorem Rds.take {H : Hp} : ∀ {ps : List Addr} {rs : List Ed} (n : Nat), Rds H ps rs → Rds H (ps.take n) (rs.take n)
  | _, _, 0, _ => .nil
  | _, _, _ + 1, .nil => .nil
  | _, _, n + 1, .cons a b => .cons a (Rds.take n b)
abbrev Wt := Str × Int
def wtV (e : Wt) : List V := [.str e.1, .int e.2]
def wtD (e : Wt) : PyData := .tuple [.str e.1, .int e.2]
abbrev Wts (H : Hp) (ps : List Addr) (es : List Wt) : Prop := Paired (fun (p : Addr) (e : Wt) => H p = some (.tup (wtV e))) ps es
theorem Wts.keep {H H' : Hp} : ∀ {ps : List Addr} {es : List Wt}, (∀ p o, (∀ z, o ≠ HO.lst z) → H p = some o → H' p = some o) → Wts H ps es → Wts H' ps es
  | _, _, _, .nil => .nil
  | _, _, k, .cons a b => .cons (k _ _ (fun z => nofun) a) (Wts.keep k b)
theorem Wts.same {H H' : Hp} {ps : List Addr} {es : List Wt} (s : Same H H') (h : Wts H ps es) : Wts H' ps es := Wts.keep (fun p o _ e => s p o e) h
theorem Wts.put {H : Hp} {l : Addr} {xs : List V} {o : HO} {ps : List Addr} {es : List Wt} (hl : H l = some (.lst xs)) (h : Wts H ps es) : Wts (upd H l o) ps es :=
  Wts.keep (fun p u n1 e => by rw [upd_ne (ne_of e hl (n1 _))]; exact e) h
theorem Wts.but {H H' : Hp} {f c : Addr} {n : Int} {ps : List Addr} {es : List Wt} (hf : Fd H f c n) (b : But f H H') (h : Wts H ps es) : Wts H' ps es := by
  obtain ⟨zs, hz⟩ := hf.at
  exact Wts.keep (fun p o n1 e => b p o (ne_of e hz (n1 zs)) e) h
theorem Wts.app {H : Hp} : ∀ {ps qs : List Addr} {es ts : List Wt}, Wts H ps es → Wts H qs ts → Wts H (ps ++ qs) (es ++ ts)
  | _, _, _, _, .nil, b => b
  | _, _, _, _, .cons a r, b => .cons a (Wts.app r b)
theorem Wts.len {H : Hp} {ps : List Addr} {es : List Wt} (h : Wts H ps es) : ps.length = es.length := Paired.length h
theorem Wts.dp {K : PySem.W.Frag} {H : Hp} : ∀ {ps : List Addr} {es : List Wt}, Wts H ps es → DpAll K H (ps.map V.ref) (es.map wtD)
  | _, _, .nil => .nil
  | _, _, .cons a b => .cons (.tup (SqT.of a) (.cons (.str _) (.cons (.int _) .nil))) (Wts.dp b)
/-- the office at o: worths ws, roads E -/
def OfAt (H : Hp) (o : Addr) (ws : List Wt) (E : List Ed) : Prop := ∃ (w r : Addr) (wp rp : List Addr), H o = some (.tup [.ref w, .ref r]) ∧ H w = some (.tup (wp.map V.ref)) ∧ H r = some (.tup (rp.map V.ref)) ∧ Wts H wp ws ∧ Rds H rp E
theorem OfAt.same {H H' : Hp} {o : Addr} {ws : List Wt} {E : List Ed} (s : Same H H') (h : OfAt H o ws E) : OfAt H' o ws E := by
  obtain ⟨w, r, wp, rp, h1, h2, h3, h4, h5⟩ := h
  exact ⟨w, r, wp, rp, s _ _ h1, s _ _ h2, s _ _ h3, h4.same s, h5.same s⟩
theorem OfAt.but {H H' : Hp} {f c : Addr} {n : Int} {o : Addr} {ws : List Wt} {E : List Ed} (hf : Fd H f c n) (b : But f H H') (h : OfAt H o ws E) : OfAt H' o ws E := by
  obtain ⟨w, r, wp, rp, h1, h2, h3, h4, h5⟩ := h
  obtain ⟨zs, hz⟩ := hf.at
  have t : ∀ {a : Addr} {xs : List V}, H a = some (.tup xs) → H' a = some (.tup xs) := fun e => b _ _ (ne_of e hz (fun z => nomatch z)) e
  exact ⟨w, r, wp, rp, t h1, t h2, t h3, h4.but hf b, h5.but hf b⟩
def ofD (ws : List Wt) (E : List Ed) : PyData := .tuple [.tuple (ws.map wtD), .tuple (E.map edD)]
theorem OfAt.dp {K : PySem.W.Frag} {H : Hp} {o : Addr} {ws : List Wt} {E : List Ed} (h : OfAt H o ws E) : Dp K H (.ref o) (ofD ws E) := by
  obtain ⟨w, r, wp, rp, h1, h2, h3, h4, h5⟩ := h
  exact .tup (SqT.of h1) (.cons (.tup (SqT.of h2) h4.dp) (.cons (.tup (SqT.of h3) h5.dp) .nil))
/-- the rows of a search, in a dict -/
abbrev RwAt (H : Hp) (kvs : List (Key × V)) (es : List En) : Prop := Paired (fun (kv : Key × V) (e : En) => kv.1 = Sum.inr e.1 ∧ ∃ a, kv.2 = .ref a ∧ H a = some (.tup (e.2.map V.str))) kvs es
theorem RwAt.keep {H H' : Hp} : ∀ {kvs : List (Key × V)} {es : List En}, (∀ p o, (∀ z, o ≠ HO.lst z) → (∀ z, o ≠ HO.dK z) → H p = some o → H' p = some o) → RwAt H kvs es → RwAt H' kvs es
  | _, _, _, .nil => .nil
  | _, _, k, .cons ⟨a1, a, a2, a3⟩ b => .cons ⟨a1, a, a2, k _ _ (fun z => nofun) (fun z => nofun) a3⟩ (RwAt.keep k b)
theorem RwAt.same {H H' : Hp} {kvs : List (Key × V)} {es : List En} (s : Same H H') (h : RwAt H kvs es) : RwAt H' kvs es := RwAt.keep (fun p o _ _ e => s p o e) h
theorem RwAt.app {H : Hp} : ∀ {kvs lvs : List (Key × V)} {es fs : List En}, RwAt H kvs es → RwAt H lvs fs → RwAt H (kvs ++ lvs) (es ++ fs)
  | _, _, _, _, .nil, b => b
  | _, _, _, _, .cons a r, b => .cons a (RwAt.app r b)
theorem RwAt.keys {H : Hp} : ∀ {kvs : List (Key × V)} {es : List En}, RwAt H kvs es → kvs.map (·.1) = (es.map (·.1)).map Sum.inr
  | _, _, .nil => rfl
  | _, _, .cons a b => by
    rw [List.map_cons, List.map_cons, List.map_cons, a.1, RwAt.keys b]
theorem RwAt.val {H : Hp} : ∀ {kvs : List (Key × V)} {es : List En} (y : Str), RwAt H kvs es → (∃ e ∈ es, e.1 = y ∧ ∃ a, valV kvs (Sum.inr y) = some (.ref a) ∧ H a = some (.tup (e.2.map V.str))) ∨ ((∀ e ∈ es, e.1 ≠ y) ∧ valV kvs (Sum.inr y) = none)
  | _, _, y, .nil => .inr ⟨fun _ h => (nomatch h), rfl⟩
  | _, _, y, .cons (a := kv) (b := e) ⟨a1, a, a2, a3⟩ b => by
    by_cases c : e.1 = y
    · refine .inl ⟨e, List.mem_cons_self, c, a, ?_, a3⟩
      rw [valV_pos (by rw [a1, c]), a2]
    · have n : ¬ kv.1 = Sum.inr y := fun z => c (Sum.inr.inj (a1.symm.trans z))
      rcases RwAt.val y b with ⟨f, f1, f2, a', f3, f4⟩ | ⟨f1, f2⟩
      · exact .inl ⟨f, List.mem_cons_of_mem _ f1, f2, a', by rw [valV_neg n]; exact f3, f4⟩
      · refine .inr ⟨fun f hf => ?_, by rw [valV_neg n]; exact f2⟩
        rcases List.mem_cons.mp hf with rfl | hf
        · exact c
        · exact f1 f hf
def spRows : Sp := fun vs H Q _ => ∃ (o : Addr) (x : Str) (ws : List Wt) (E : List Ed), vs = [.ref o, .str x] ∧ OfAt H o ws E ∧ E.length ≤ 16 ∧
  ∀ (r : Addr) (kvs : List (Key × V)) (es : List En) (k : Nat) (H' : Hp), Same H H' → H r = none → H' r = some (.dK kvs) → RwAt H' kvs es → Bfs E x es k → es.length ≤ k → es.length ≤ 17 → (∀ e ∈ es, e.2.length ≤ 17) → Q (.ref r) H'
def spReach : Sp := fun vs H Q _ => ∃ (o : Addr) (x : Str) (ws : List Wt) (E : List Ed), vs = [.ref o, .str x] ∧ OfAt H o ws E ∧ E.length ≤ 16 ∧
  ∀ (t : Addr) (ys : List Str) (H' : Hp), Same H H' → H t = none → H' t = some (.tup (ys.map V.str)) → ys.Pairwise sl → (∀ y, y ∈ ys ↔ ∃ n, Wlk E n x y) → ys.length ≤ 17 → Q (.ref t) H'
/-- what road_row tells -/
def RowV (H : Hp) (E : List Ed) (x y : Str) (v : V) : Prop := (v = .non ∧ ∀ n, ¬ Wlk E n x y) ∨ ∃ (t : Addr) (p : List Str) (n : Nat), v = .ref t ∧ H t = some (.tup (p.map V.str)) ∧ Pth E x p y ∧ p.length = n + 1 ∧ Least E x y n ∧ n ≤ 17
def spRow : Sp := fun vs H Q _ => ∃ (o : Addr) (x y : Str) (ws : List Wt) (E : List Ed), vs = [.ref o, .str x, .str y] ∧ OfAt H o ws E ∧ E.length ≤ 16 ∧ ∀ (v : V) (H' : Hp), Same H H' → RowV H' E x y v → Q v H'
def spFar : Sp := fun vs H Q _ => ∃ (o : Addr) (x y : Str) (ws : List Wt) (E : List Ed), vs = [.ref o, .str x, .str y] ∧ OfAt H o ws E ∧ E.length ≤ 16 ∧ ∀ (v : V) (H' : Hp), Same H H' → ((v = .non ∧ ∀ n, ¬ Wlk E n x y) ∨ ∃ n : Nat, v = .int n ∧ Least E x y n) → Q v H'
/-! ### the law's own side: tapes, offices, places, what is apart -/
def spDrawT : Sp := fun vs H Q _ => ∃ (f c : Addr) (m n : Int), vs = [.ref f, .int m] ∧ Fd H f c n ∧ n ≤ 1000000 ∧ 0 < m ∧ m ≤ 1000000000 ∧
  ∀ (d : Int) (H' : Hp), 0 ≤ d → d < m → Fd H' f c (n + 1) → But f H H' → Q (.int d) H'
def gWords : List Str := [("a" : String), ("ab" : String), ("abc" : String), ("bank" : String), ("n" : String), ("nonea" : String), ("press" : String), ("zzzzzzzz" : String), ("nom" : String), ("b" : String)]
def gNone : Str := (("none" : String) : Str)
theorem gw_ok : ∀ x ∈ gWords, NmOk x ∧ x ≠ gNone := by
  intro x hx
  simp only [gWords, List.mem_cons, List.not_mem_nil, or_false] at hx
  rcases hx with rfl | rfl | rfl | rfl | rfl | rfl | rfl | rfl | rfl | rfl <;> exact ⟨⟨by decide +kernel, by decide +kernel⟩, by decide +kernel⟩
theorem gn_ok : NmOk gNone := ⟨by decide +kernel, by decide +kernel⟩
def EdOk (e : Ed) : Prop := NmOk e.1 ∧ NmOk e.2 ∧ e.1 ≠ e.2
def WtOk (w : Wt) : Prop := NmOk w.1 ∧ 0 ≤ w.2 ∧ w.2 ≤ 1000000
structure OfOk (ws : List Wt) (E : List Ed) : Prop where
  le : E.length ≤ 16
  ed : ∀ e ∈ E, EdOk e
  lw : ws.length ≤ 4
  wt : ∀ w ∈ ws, WtOk w
def spOffice : Sp := fun vs H Q _ => ∃ (f c : Addr) (n : Int), vs = [.ref f] ∧ Fd H f c n ∧ n ≤ 900000 ∧
  ∀ (o : Addr) (ws : List Wt) (E : List Ed) (H' : Hp), Fd H' f c (n + 200) → But f H H' → H o = none → OfAt H' o ws E → OfOk ws E → Q (.ref o) H'
theorem inV_strs (x : Str) (xs : List Str) : inV (.str x) (xs.map V.str) = decide (x ∈ xs) := by
  unfold inV
  rw [List.any_map, Bool.eq_iff_iff, List.any_eq_true, decide_eq_true_eq]
  constructor
  · rintro ⟨y, hy, e⟩
    have e : (y == x) = true := e
    rw [← beq_iff_eq.mp e]
    exact hy
  · intro h
    exact ⟨x, h, beq_iff_eq.mpr rfl⟩
theorem flat_strs' (xs : List Str) : (xs.map V.str).all flatV = true := by
  rw [List.all_map, List.all_eq_true]
  exact fun _ _ => rfl
/-- the places of roads, none first -/
def plc (E : List Ed) (y : Str) : Prop := y = gNone ∨ ∃ e ∈ E, y = e.1 ∨ y = e.2
def spPlaces : Sp := fun vs H Q _ => ∃ (o : Addr) (ws : List Wt) (E : List Ed), vs = [.ref o] ∧ OfAt H o ws E ∧ OfOk ws E ∧
  ∀ (l : Addr) (pl : List Str) (H' : Hp), Same H H' → H l = none → H' l = some (.lst (pl.map V.str)) → pl.Pairwise sl → (∀ y, y ∈ pl ↔ plc E y) → pl.length ≤ 33 → Q (.ref l) H'
def apOf (d : Ap) (kvs : List (List Key × V)) : Prop := ∀ x y, valV kvs [Sum.inr x, Sum.inr y] = (d x y).map fun (n : Nat) => V.int n
theorem apOf_put {d d' : Ap} {kvs : List (List Key × V)} {x y : Str} {n : Nat} (h : apOf d kvs) (h1 : d' x y = some n) (h2 : ∀ u v, ¬ (u = x ∧ v = y) → d' u v = d u v) : apOf d' (putK kvs [Sum.inr x, Sum.inr y] (.int n)) := fun u v => by
  rw [valV_put]
  by_cases c : u = x ∧ v = y
  · rw [c.1, c.2, if_pos rfl, h1]
    rfl
  · have ne : ¬ ([Sum.inr u, Sum.inr v] : List Key) = [Sum.inr x, Sum.inr y] := fun z => by
      injection z with z1 z2
      injection z2 with z2 _
      exact c ⟨Sum.inr.inj z1, Sum.inr.inj z2⟩
    rw [if_neg ne, h, h2 u v c]
def spApt : Sp := fun vs H Q _ => ∃ (o : Addr) (ws : List Wt) (E : List Ed), vs = [.ref o] ∧ OfAt H o ws E ∧ OfOk ws E ∧
  ∀ (a : Addr) (kvs : List (List Key × V)) (d : Ap) (H' : Hp), Same H H' → H a = none → H' a = some (.dT kvs) → apOf d kvs → FwOk E (plc E) (plc E) d → Q (.ref a) H'
theorem fw_col {d : Ap} {v x : Str} (h : d v v = some 0) : fwStep d v x v = d x v := by
  cases e : d x v with
  | none => exact (fw_none (.inl e)).trans e
  | some a =>
    rw [fw_val e h, e, Nat.add_zero]
    unfold fwMin
    dsimp only
    rw [if_neg (Nat.lt_irrefl _)]
theorem fw_row {d : Ap} {v y : Str} (h : d v v = some 0) : fwStep d v v y = d v y := by
  cases e : d v y with
  | none => exact (fw_none (.inr e)).trans e
  | some a =>
    rw [fw_val h e, e, Nat.zero_add]
    unfold fwMin
    dsimp only
    rw [if_neg (Nat.lt_irrefl _)]
theorem fwMin_again (o : Option Nat) (n : Nat) : fwMin (some (fwMin o n)) n = fwMin o n := by
  have z := fwMin_le o n
  show (if n < fwMin o n then n else fwMin o n) = _
  rw [if_neg (by omega)]
def spIsRow : Sp := fun vs H Q _ => ∃ (o t : Addr) (x y : Str) (n : Nat) (ws : List Wt) (E : List Ed) (p : List Str), vs = [.ref o, .str x, .str y, .int n, .ref t] ∧ OfAt H o ws E ∧ OfOk ws E ∧ H t = some (.tup (p.map V.str)) ∧ Pth E x p y ∧ p.length = n + 1 ∧ n ≤ 1000 ∧
  ∀ H', Same H H' → Q (.bl true) H'
def spRightO : Sp := fun vs H Q _ => ∃ (o : Addr) (ws : List Wt) (E : List Ed), vs = [.ref o] ∧ OfAt H o ws E ∧ OfOk ws E ∧ ∀ H', Same H H' → Q (.bl true) H'
theorem ed_plain (E : List Ed) : PyData.plainAll (E.map edD) = true := by
  induction E with
  | nil => rfl
  | cons e l ih =>
    rw [List.map_cons]
    simp only [PyData.plainAll, ih, edD, PyData.plain, Bool.and_self]
theorem ed_eqv (a b : Ed) : PyData.eqv (edD a) (edD b) = decide (a = b) := by
  obtain ⟨a1, a2⟩ := a
  obtain ⟨b1, b2⟩ := b
  rw [Bool.eq_iff_iff]
  simp [edD, PyData.eqv, PyData.eqvAll]
theorem ed_any (E : List Ed) (e : Ed) : ((E.map edD).any fun z => PyData.eqv z (edD e)) = decide (e ∈ E) := by
  rw [List.any_map, Bool.eq_iff_iff, List.any_eq_true, decide_eq_true_eq]
  constructor
  · rintro ⟨y, hy, k⟩
    have k : PyData.eqv (edD y) (edD e) = true := k
    rw [ed_eqv, decide_eq_true_eq] at k
    rw [← k]
    exact hy
  · intro h
    refine ⟨e, h, ?_⟩
    show PyData.eqv (edD e) (edD e) = true
    rw [ed_eqv, decide_eq_true rfl]
theorem ed_dep (e : Ed) : (edD e).depth ≤ 50 := by
  simp [edD, PyData.depth, PyData.depthAll]
theorem nm_fine {x : Str} (h : NmOk x) : fineD (.str x) = true ∧ cost (.str x) ≤ 82 := by
  refine ⟨h.2, ?_⟩
  have := h.1
  show 10 * x.length + 2 ≤ 82
  omega
theorem eds_fine : ∀ E : List Ed, (∀ e ∈ E, EdOk e) → fineAll (E.map edD) = true ∧ costAll (E.map edD) ≤ 200 * E.length
  | [], _ => ⟨rfl, Nat.le_refl _⟩
  | e :: E, h => by
    obtain ⟨z1, z2⟩ := eds_fine E fun s hs => h s (List.mem_cons_of_mem _ hs)
    obtain ⟨a1, a2, _⟩ := h e List.mem_cons_self
    obtain ⟨b1, b2⟩ := nm_fine a1
    obtain ⟨c1, c2⟩ := nm_fine a2
    refine ⟨?_, ?_⟩
    · rw [List.map_cons]
      unfold fineAll
      rw [z1]
      show ((fineD (.str e.1) && (fineD (.str e.2) && true)) && true) = true
      rw [b1, c1]
      rfl
    · rw [List.map_cons, List.length_cons]
      unfold costAll
      have e1 : cost (edD e) = (cost (.str e.1) + 2 + (cost (.str e.2) + 2 + 0)) + 3 := rfl
      omega
theorem wts_fine : ∀ ws : List Wt, (∀ w ∈ ws, WtOk w) → fineAll (ws.map wtD) = true ∧ costAll (ws.map wtD) ≤ 3000 * ws.length
  | [], _ => ⟨rfl, Nat.le_refl _⟩
  | e :: E, h => by
    obtain ⟨z1, z2⟩ := wts_fine E fun s hs => h s (List.mem_cons_of_mem _ hs)
    obtain ⟨a1, a2, a3⟩ := h e List.mem_cons_self
    obtain ⟨b1, b2⟩ := nm_fine a1
    refine ⟨?_, ?_⟩
    · rw [List.map_cons]
      unfold fineAll
      rw [z1]
      show ((fineD (.str e.1) && (fineD (.int e.2) && true)) && true) = true
      rw [b1, int_fine (by omega) (by omega)]
      rfl
    · rw [List.map_cons, List.length_cons]
      unfold costAll
      have e1 : cost (wtD e) = (cost (.str e.1) + 2 + (2000 + 2 + 0)) + 3 := rfl
      omega
theorem of_fine {ws : List Wt} {E : List Ed} (h : OfOk ws E) : fineD (ofD ws E) = true ∧ cost (ofD ws E) ≤ 20000 := by
  obtain ⟨a1, a2⟩ := wts_fine ws h.wt
  obtain ⟨b1, b2⟩ := eds_fine E h.ed
  have l1 := h.le
  have l2 := h.lw
  refine ⟨?_, ?_⟩
  · show (fineAll (ws.map wtD) && (fineAll (E.map edD) && true)) = true
    rw [a1, b1]
    rfl
  · have e1 : cost (ofD ws E) = ((costAll (ws.map wtD) + 3) + 2 + ((costAll (E.map edD) + 3) + 2 + 0)) + 3 := rfl
    omega
theorem of_depth (ws : List Wt) (E : List Ed) : (ofD ws E).depth ≤ 10 := by
  have d1 : PyData.depthAll (ws.map wtD) ≤ 3 := by
    induction ws with
    | nil => simp [PyData.depthAll]
    | cons s l ih => rw [List.map_cons]; simp only [PyData.depthAll, wtD, PyData.depth] at *; omega
  have d2 : PyData.depthAll (E.map edD) ≤ 3 := by
    induction E with
    | nil => simp [PyData.depthAll]
    | cons s l ih => rw [List.map_cons]; simp only [PyData.depthAll, edD, PyData.depth] at *; omega
  simp only [ofD, PyData.depth, PyData.depthAll]
  omega
def strsD (xs : List Str) : PyData := .tuple (xs.map .str)
theorem strs_dp {K : PySem.W.Frag} {H : Hp} {t : Addr} {xs : List Str} (h : SqT K H t (xs.map V.str)) : Dp K H (.ref t) (strsD xs) := by
  refine .tup h ?_
  clear h
  induction xs with
  | nil => exact .nil
  | cons x l ih => exact .cons (.str x) ih
theorem strs_show {xs : List Str} (h : ∀ x ∈ xs, NmOk x) (hl : xs.length ≤ 100) : (strsD xs).showable = true ∧ (strsD xs).hasDict = false ∧ (strsD xs).depth ≤ 60 ∧ (strsD xs).shown.length ≤ sizeLine := by
  have all : ∀ l : List Str, (∀ x ∈ l, NmOk x) → fineAll (l.map .str) = true ∧ costAll (l.map .str) ≤ 84 * l.length := fun l => by
    induction l with
    | nil => exact fun _ => ⟨rfl, Nat.le_refl _⟩
    | cons x l ih =>
      intro h
      obtain ⟨z1, z2⟩ := ih fun y hy => h y (List.mem_cons_of_mem _ hy)
      obtain ⟨b1, b2⟩ := nm_fine (h x List.mem_cons_self)
      refine ⟨?_, ?_⟩
      · rw [List.map_cons]
        unfold fineAll
        rw [b1, z1]
        rfl
      · rw [List.map_cons, List.length_cons]
        unfold costAll
        omega
  obtain ⟨z1, z2⟩ := all xs h
  have f : fineD (strsD xs) = true := z1
  have c := shown_cost _ f
  have e : cost (strsD xs) = costAll (xs.map .str) + 3 := rfl
  have d : PyData.depthAll (xs.map .str) ≤ 1 := by
    clear z1 z2 f c e h hl
    induction xs with
    | nil => simp [PyData.depthAll]
    | cons s l ih => rw [List.map_cons]; simp only [PyData.depthAll, PyData.depth] at *; omega
  obtain ⟨s1, s2⟩ := fine_show _ f
  refine ⟨s1, s2, ?_, Nat.le_trans c (Nat.le_trans (show _ ≤ 100000 by omega) (by decide))⟩
  simp only [strsD, PyData.depth]
  omega
theorem ups_same {a b : List Str} (ha : a.Pairwise sl) (hb : b.Pairwise sl) (h : ∀ y, y ∈ a ↔ y ∈ b) : a = b := by
  have na : a.Nodup := ha.imp fun {x y} (h : sl x y) (e : x = y) => sl_irr y (by rw [e] at h; exact h)
  have nb : b.Nodup := hb.imp fun {x y} (h : sl x y) (e : x = y) => sl_irr y (by rw [e] at h; exact h)
  have hp : a.Perm b := (List.perm_ext_iff_of_nodup na nb).mpr h
  exact List.Perm.eq_of_pairwise (le := fun x y => sl x y) (fun x y _ _ h1 h2 => (sl_as h1 h2).elim) ha hb hp
theorem ints_all' {K : PySem.W.Frag} {H : Hp} : ∀ ns : List Int, DpAll K H (ns.map V.int) (ns.map .int)
  | [] => .nil
  | n :: ns => .cons (.int n) (ints_all' ns)
theorem ints_plain (ns : List Int) : (PyData.list (ns.map .int)).plain = true := by
  have all : PyData.plainAll (ns.map .int) = true := by
    induction ns with
    | nil => rfl
    | cons n l ih => rw [List.map_cons]; simp only [PyData.plainAll, PyData.plain, ih, Bool.and_self]
  exact all
theorem ints_depth (ns : List Int) : (PyData.list (ns.map .int)).depth ≤ 60 := by
  have d : PyData.depthAll (ns.map .int) ≤ 1 := by
    induction ns with
    | nil => simp [PyData.depthAll]
    | cons s l ih => rw [List.map_cons]; simp only [PyData.depthAll, PyData.depth] at *; omega
  simp only [PyData.depth]
  omega
theorem strs_all {K : PySem.W.Frag} {H : Hp} : ∀ xs : List Str, DpAll K H (xs.map V.str) (xs.map .str)
  | [] => .nil
  | x :: xs => .cons (.str x) (strs_all xs)
theorem strs_alike (xs : List Str) : PySem.W.AllAlike (xs.map .str) := by
  intro d hd e he
  obtain ⟨a, _, rfl⟩ := List.mem_map.mp hd
  obtain ⟨b, _, rfl⟩ := List.mem_map.mp he
  rfl
theorem strs_sortable (xs : List Str) : PySem.W.Sortable (xs.map .str) := by
  refine Or.inr fun d hd => ?_
  obtain ⟨a, _, rfl⟩ := List.mem_map.mp hd
  exact ⟨nofun, nofun⟩
theorem strs_flat (xs : List Str) : ∀ d ∈ xs.map PyData.str, d.depth ≤ 60 := by
  intro d hd
  obtain ⟨a, _, rfl⟩ := List.mem_map.mp hd
  exact Nat.zero_le _
/-! ### how an office is drawn -/
theorem sort_ed {H : Hp} {ps : List Addr} {rs : List Ed} (h : Rds H ps rs) : ∃ (qs : List Addr) (es : List Ed), sortD (ps.map V.ref) (rs.map edD) = qs.map V.ref ∧ Rds H qs es ∧ es.length = rs.length ∧ ∀ e ∈ es, e ∈ rs := by
  have hl := h.len
  have e1 : ((ps.map V.ref).zip (rs.map edD)) = (ps.zip rs).map (fun x => (V.ref x.1, edD x.2)) := by
    rw [List.zip_map]
    rfl
  refine ⟨((ps.zip rs).mergeSort (fun x y => PySem.W.dataLe false Prod.snd (V.ref x.1, edD x.2) (V.ref y.1, edD y.2))).map Prod.fst, ((ps.zip rs).mergeSort (fun x y => PySem.W.dataLe false Prod.snd (V.ref x.1, edD x.2) (V.ref y.1, edD y.2))).map Prod.snd, ?_, ?_, ?_, fun e he => ?_⟩
  · unfold sortD
    rw [e1, ← PySem.W.sort_maps (r := fun x y => PySem.W.dataLe false Prod.snd (V.ref x.1, edD x.2) (V.ref y.1, edD y.2)) (fun x : Addr × Ed => (V.ref x.1, edD x.2)) (fun _ _ _ _ => rfl), List.map_map, List.map_map]
    rfl
  · have at_ : ∀ x ∈ ps.zip rs, H x.1 = some (.tup (edV x.2)) := by
      clear e1 hl
      induction h with
      | nil => exact fun x hx => nomatch hx
      | cons a b ih =>
        intro x hx
        rcases List.mem_cons.mp hx with z | z
        · subst z
          exact a
        · exact ih x z
    have all : ∀ l : List (Addr × Ed), (∀ x ∈ l, H x.1 = some (.tup (edV x.2))) → Rds H (l.map Prod.fst) (l.map Prod.snd) := fun l => by
      induction l with
      | nil => exact fun _ => .nil
      | cons x l ih => exact fun k => .cons (k x List.mem_cons_self) (ih fun y hy => k y (List.mem_cons_of_mem _ hy))
    exact all _ fun x hx => at_ x (List.mem_mergeSort.mp hx)
  · rw [List.length_map, List.length_mergeSort, List.length_zip]
    omega
  · obtain ⟨x, hx, rfl⟩ := List.mem_map.mp he
    exact (List.of_mem_zip (List.mem_mergeSort.mp hx)).2
theorem eds_alike (rs : List Ed) : PySem.W.AllAlike (rs.map edD) := by
  intro d hd e he
  obtain ⟨a, _, rfl⟩ := List.mem_map.mp hd
  obtain ⟨b, _, rfl⟩ := List.mem_map.mp he
  simp [edD, PySem.W.alike, PySem.W.alikeAll]
theorem eds_sortable (rs : List Ed) : PySem.W.Sortable (rs.map edD) := by
  refine Or.inl fun d hd => ?_
  obtain ⟨a, _, rfl⟩ := List.mem_map.mp hd
  exact ⟨_, _, rfl⟩
theorem eds_flat (rs : List Ed) : ∀ d ∈ rs.map edD, d.depth ≤ 60 := by
  intro d hd
  obtain ⟨a, _, rfl⟩ := List.mem_map.mp hd
  simp [edD, PyData.depth, PyData.depthAll]
theorem eds_depth (E : List Ed) : (PyData.list (E.map edD)).depth ≤ 60 := by
  have d2 : PyData.depthAll (E.map edD) ≤ 3 := by
    induction E with
    | nil => simp [PyData.depthAll]
    | cons s l ih => rw [List.map_cons]; simp only [PyData.depthAll, edD, PyData.depth] at *; omega
  simp only [PyData.depth]
  omega
theorem Rds.mk1 {H : Hp} {p : Addr} {e : Ed} (h : H p = some (.tup (edV e))) : Rds H [p] [e] := .cons h .nil
theorem Wts.mk1 {H : Hp} {p : Addr} {e : Wt} (h : H p = some (.tup (wtV e))) : Wts H [p] [e] := .cons h .nil
theorem few8 {d : Int} (h0 : 0 ≤ d) (h1 : d < 8) : ∃ k : Int, 2 ≤ k ∧ k ≤ 8 ∧ atI [V.int 2, .int 3, .int 4, .int 5, .int 3, .int 4, .int 8, .int 6] d = some (.int k) := by
  rcases (show d = 0 ∨ d = 1 ∨ d = 2 ∨ d = 3 ∨ d = 4 ∨ d = 5 ∨ d = 6 ∨ d = 7 by omega) with rfl | rfl | rfl | rfl | rfl | rfl | rfl | rfl <;> exact ⟨_, by decide, by decide, rfl⟩
theorem few4 {d : Int} (h0 : 0 ≤ d) (h1 : d < 4) : ∃ k : Int, 1 ≤ k ∧ k ≤ 9 ∧ atI [V.int 1, .int 3, .int 7, .int 9] d = some (.int k) := by
  rcases (show d = 0 ∨ d = 1 ∨ d = 2 ∨ d = 3 by omega) with rfl | rfl | rfl | rfl <;> exact ⟨_, by decide, by decide, rfl⟩
theorem fewW {d m : Int} (h0 : 0 ≤ d) (h1 : d < 4) (m0 : 0 ≤ m) (m1 : m < 1000) : ∃ k : Int, 0 ≤ k ∧ k ≤ 1000000 ∧ atI [V.int 1, .int 5, .int 1000000, .int (1 + m)] d = some (.int k) := by
  rcases (show d = 0 ∨ d = 1 ∨ d = 2 ∨ d = 3 by omega) with rfl | rfl | rfl | rfl
  · exact ⟨1, by decide, by decide, rfl⟩
  · exact ⟨5, by decide, by decide, rfl⟩
  · exact ⟨1000000, by decide, by decide, rfl⟩
  · exact ⟨1 + m, by omega, by omega, rfl⟩
def gSer : List Str := [("a" : String), ("aa" : String), ("none" : String), ("x" : String)]
theorem gs_ok : ∀ x ∈ gSer, NmOk x := by
  intro x hx
  simp only [gSer, List.mem_cons, List.not_mem_nil, or_false] at hx
  rcases hx with rfl | rfl | rfl | rfl <;> exact ⟨by decide +kernel, by decide +kernel⟩
/-! ### what is apart: the law's own going by way of each place -/
def ap1 (E : List Ed) : Ap := fun x y => if (x, y) ∈ E then some 1 else none
def ap0 (E : List Ed) (pl : List Str) : Ap := fun x y => if x = y ∧ x ∈ pl then some 0 else ap1 E x y
theorem fw_init {E : List Ed} {pl : List Str} (mem : ∀ y, y ∈ pl ↔ plc E y) : FwOk E (plc E) (fun z => z ∈ pl.take 0) (ap0 E pl) where
  sound := fun x y n e => by
    unfold ap0 at e
    split at e
    · rename_i h
      cases Option.some.inj e
      exact h.1
    · unfold ap1 at e
      split at e
      · rename_i h
        cases Option.some.inj e
        exact ⟨x, rfl, h⟩
      · cases e
  refl := fun x hx => by
    unfold ap0
    rw [if_pos ⟨rfl, (mem x).mpr hx⟩]
  edge := fun x y h => by
    unfold ap0
    by_cases c : x = y ∧ x ∈ pl
    · rw [if_pos c]
      exact ⟨0, rfl, by decide⟩
    · rw [if_neg c]
      unfold ap1
      rw [if_pos h]
      exact ⟨1, rfl, Nat.le_refl _⟩
  tri := fun z hz => by
    rw [List.take_zero] at hz
    exact nomatch hz
  dom := fun x y n e => by
    unfold ap0 at e
    split at e
    · rename_i h
      have z := (mem x).mp h.2
      rw [← h.1]
      exact ⟨z, z⟩
    · unfold ap1 at e
      split at e
      · rename_i h
        exact ⟨.inr ⟨(x, y), h, .inl rfl⟩, .inr ⟨(x, y), h, .inr rfl⟩⟩
      · cases e
theorem ap1_put {E : List Ed} {i : Nat} {e : Ed} {kvs : List (List Key × V)} (hi : E[i]? = some e) (h : apOf (ap1 (E.take i)) kvs) : apOf (ap1 (E.take (i + 1))) (putK kvs [Sum.inr e.1, Sum.inr e.2] (.int ((1 : Nat) : Int))) := by
  obtain ⟨hl, he⟩ := List.getElem?_eq_some_iff.mp hi
  have e1 : E.take (i + 1) = E.take i ++ [e] := by rw [List.take_succ_eq_append_getElem hl, he]
  refine apOf_put h ?_ fun u v n => ?_
  · unfold ap1
    rw [if_pos (by rw [e1]; exact List.mem_append_right _ List.mem_cons_self)]
  · unfold ap1
    have z : (u, v) ∈ E.take (i + 1) ↔ (u, v) ∈ E.take i := by
      rw [e1, List.mem_append, List.mem_singleton]
      refine ⟨fun h => h.elim id fun z => (n ?_).elim, .inl⟩
      rw [← z]
      exact ⟨rfl, rfl⟩
    by_cases c : (u, v) ∈ E.take i
    · rw [if_pos c, if_pos (z.mpr c)]
    · rw [if_neg c, if_neg (fun k => c (z.mp k))]
theorem ap0_zero (E : List Ed) : ap0 E [] = ap1 E := by
  funext x y
  unfold ap0
  rw [if_neg (fun h => nomatch h.2)]
theorem ap0_put {E : List Ed} {pl : List Str} {i : Nat} {s : Str} {kvs : List (List Key × V)} (hi : pl[i]? = some s) (h : apOf (ap0 E (pl.take i)) kvs) : apOf (ap0 E (pl.take (i + 1))) (putK kvs [Sum.inr s, Sum.inr s] (.int ((0 : Nat) : Int))) := by
  obtain ⟨hl, he⟩ := List.getElem?_eq_some_iff.mp hi
  have e1 : pl.take (i + 1) = pl.take i ++ [s] := by rw [List.take_succ_eq_append_getElem hl, he]
  refine apOf_put h ?_ fun u v n => ?_
  · unfold ap0
    rw [if_pos ⟨rfl, by rw [e1]; exact List.mem_append_right _ List.mem_cons_self⟩]
  · unfold ap0
    have z : (u = v ∧ u ∈ pl.take (i + 1)) ↔ (u = v ∧ u ∈ pl.take i) := by
      rw [e1, List.mem_append, List.mem_singleton]
      refine ⟨fun h => ⟨h.1, h.2.elim id fun z => (n ?_).elim⟩, fun h => ⟨h.1, .inl h.2⟩⟩
      exact ⟨z, h.1.symm.trans z⟩
    by_cases c : u = v ∧ u ∈ pl.take i
    · rw [if_pos c, if_pos (z.mpr c)]
    · rw [if_neg c, if_neg (fun k => c (z.mp k))]
/-- c stands between d and the step by v -/
def MidA (d : Ap) (v : Str) (c : Ap) : Prop := ∀ x y, c x y = d x y ∨ c x y = fwStep d v x y
theorem MidA.col {d : Ap} {v : Str} {c : Ap} (h : MidA d v c) (r : d v v = some 0) (x : Str) : c x v = d x v := by
  rcases h x v with z | z
  · exact z
  · rw [z, fw_col r]
theorem MidA.row {d : Ap} {v : Str} {c : Ap} (h : MidA d v c) (r : d v v = some 0) (y : Str) : c v y = d v y := by
  rcases h v y with z | z
  · exact z
  · rw [z, fw_row r]
theorem MidA.none {d : Ap} {v : Str} {c : Ap} (h : MidA d v c) {x y : Str} (k : d x v = none ∨ d v y = none) : c x y = fwStep d v x y := by
  rcases h x y with z | z
  · rw [z, fw_none k]
  · exact z
theorem MidA.min {d : Ap} {v : Str} {c : Ap} (h : MidA d v c) {x y : Str} {a b : Nat} (k1 : d x v = some a) (k2 : d v y = some b) : fwMin (c x y) (a + b) = fwMin (d x y) (a + b) := by
  rcases h x y with z | z
  · rw [z]
  · rw [z, fw_val k1 k2, fwMin_again]
/-- c with the step at one pair -/
def putA (d : Ap) (v : Str) (c : Ap) (x y : Str) : Ap := fun u w => if u = x ∧ w = y then fwStep d v x y else c u w
theorem putA_mid {d : Ap} {v : Str} {c : Ap} (h : MidA d v c) (x y : Str) : MidA d v (putA d v c x y) := fun u w => by
  unfold putA
  by_cases k : u = x ∧ w = y
  · rw [if_pos k, k.1, k.2]
    exact .inr rfl
  · rw [if_neg k]
    exact h u w
theorem putA_at {d : Ap} {v : Str} {c : Ap} (x y : Str) : putA d v c x y x y = fwStep d v x y := by
  unfold putA
  rw [if_pos ⟨rfl, rfl⟩]
theorem putA_done {d : Ap} {v : Str} {c : Ap} {x y u w : Str} (h : c u w = fwStep d v u w) : putA d v c x y u w = fwStep d v u w := by
  unfold putA
  by_cases k : u = x ∧ w = y
  · rw [if_pos k, k.1, k.2]
  · rw [if_neg k, h]
theorem putA_else {d : Ap} {v : Str} {c : Ap} {x y u w : Str} (k : ¬ (u = x ∧ w = y)) : putA d v c x y u w = c u w := by
  unfold putA
  rw [if_neg k]
theorem apOf_step {d : Ap} {v : Str} {c : Ap} {kvs : List (List Key × V)} {x y : Str} {a b : Nat} (h : apOf c kvs) (m : MidA d v c) (k1 : d x v = some a) (k2 : d v y = some b) : apOf (putA d v c x y) (putK kvs [Sum.inr x, Sum.inr y] (.int ((fwMin (c x y) (a + b) : Nat) : Int))) :=
  apOf_put h (by rw [putA_at, fw_val k1 k2, m.min k1 k2]) fun _ _ n => putA_else n
theorem putK_le (kvs : List (List Key × V)) (k : List Key) (v : V) : (putK kvs k v).length ≤ kvs.length + 1 := length_putK kvs k v
/-- min of what is there, or else the new one, and the new one -/
theorem min_fw (o : Option Nat) (n : Nat) : (if (n : Int) < (match o with | some c => (c : Int) | none => (n : Int)) then (n : Int) else (match o with | some c => (c : Int) | none => (n : Int))) = ((fwMin o n : Nat) : Int) := by
  cases o with
  | none =>
    show (if (n : Int) < n then (n : Int) else n) = _
    rw [if_neg (Int.lt_irrefl _)]
    rfl
  | some c =>
    show (if (n : Int) < c then (n : Int) else c) = ((if n < c then n else c : Nat) : Int)
    split <;> split <;> omega
def gI (o : Option Nat) (n : Int) : Int := match o with
  | some c => (c : Int)
  | none => n
theorem getD_int (o : Option Nat) (n : Int) : (o.map fun (n : Nat) => V.int n).getD (.int n) = .int (gI o n) := by
  cases o <;> rfl
theorem min_gI (o : Option Nat) (a b : Nat) : (if ((a : Int) + (b : Int)) < gI o ((a : Int) + (b : Int)) then ((a : Int) + (b : Int)) else gI o ((a : Int) + (b : Int))) = ((fwMin o (a + b) : Nat) : Int) := by
  have z := min_fw o (a + b)
  rw [Int.natCast_add] at z
  exact z
theorem filt_take {F : Str → Bool} {pl : List Str} {j : Nat} {s : Str} (h : pl[j]? = some s) : (pl.take (j + 1)).filter F = (pl.take j).filter F ++ if F s = true then [s] else [] := by
  obtain ⟨hj, es⟩ := List.getElem?_eq_some_iff.mp h
  rw [List.take_succ_eq_append_getElem hj, List.filter_append, es]
  congr 1
  by_cases c : F s = true
  · rw [if_pos c, List.filter_cons_of_pos c]
    rfl
  · rw [if_neg c, List.filter_cons_of_neg c]
    rfl
theorem ap_get {c : Ap} {kvs : List (List Key × V)} {H : Hp} {A u : Addr} {x y : Str} (h : apOf c kvs) (hA : H A = some (.dT kvs)) (hu : H u = some (.tup [.str x, .str y])) : DGet H A (.ref u) ((c x y).map fun (n : Nat) => V.int n) := by
  have z := DGet.t (k := [Sum.inr x, Sum.inr y]) hA hu
  rw [h x y] at z
  exact z
theorem ap_some {c : Ap} {kvs : List (List Key × V)} {H : Hp} {A u : Addr} {x y : Str} {n : Nat} (h : apOf c kvs) (hA : H A = some (.dT kvs)) (hu : H u = some (.tup [.str x, .str y])) (e : c x y = some n) : DGet H A (.ref u) (some (.int n)) := by
  have z := ap_get h hA hu
  rw [e] at z
  exact z
/-! ### Refusals: a class of the text over ValueError that keeps what it is made of -/
def clsBody : Stmt → List Stmt
  | .ClassDef _ _ _ b _ _ _ _ _ _ _ => b
  | _ => []
def oexB (K : PySem.W.Frag) (C : Addr) : Bool := match K.lookup C with
  | some ⟨c, _, .cls cd, sl⟩ => decide (c = .type "type") && (match cd.mro, sl.toList with
    | .ref D :: bm, [_, _, _, _, some (.builtin n), _] => decide (D = C) && (decide (n = "ValueError.__new__") && (PySem.HandSPX.refsVE bm && (cd.hasDict && !cd.hasDel)))
    | _, _ => false)
  | _ => false
theorem oexB_ok {K : PySem.W.Frag} {C : Addr} (h : oexB K C = true) : ∃ nm q N bs bm sn sub ab col dd k0 k1 k2 k3 k5,
    K.lookup C = some (excClassObj nm q C N bs bm true sn sub ab col dd k0 k1 k2 k3 k5 "ValueError.__new__") ∧ PySem.HandSPX.refsVE bm = true := by
  unfold oexB at h
  split at h
  · rename_i c dd cd sl e
    obtain ⟨h1, h2⟩ := Bool.and_eq_true_iff.mp h
    split at h2
    · rename_i D bm k0 k1 k2 k3 n k5 em es
      obtain ⟨h3, h2⟩ := Bool.and_eq_true_iff.mp h2
      obtain ⟨h4, h2⟩ := Bool.and_eq_true_iff.mp h2
      obtain ⟨h5, h2⟩ := Bool.and_eq_true_iff.mp h2
      obtain ⟨h6, h7⟩ := Bool.and_eq_true_iff.mp h2
      have z1 := of_decide_eq_true h1
      have z3 := of_decide_eq_true h3
      have z4 := of_decide_eq_true h4
      have z7 : cd.hasDel = false := by simpa using h7
      obtain ⟨nm, bs, mro, ns, qn, hd, sn, sub, ab, col, del⟩ := cd
      dsimp only at em h6 z7
      obtain ⟨l⟩ := sl
      dsimp only at es
      subst z1 z3 z4 em h6 z7 es
      exact ⟨nm, qn, ns, bs, bm, sn, sub, ab, col, dd, k0, k1, k2, k3, k5, e, h5⟩
    · cases h2
  · cases h
/-- what stands of the class x (one field f), caught by the class y, the classes zs others -/
structure Rf (K : PySem.W.Frag) (x f y : Str) (zs : List Str) : Prop where
  o : OexC K (He.ga K x)
  xf : XfC K (He.ga K x)
  no : PySem.W.findIn K (.ref (He.ga K x)) f = some none
  iC : PySem.W.findIn K (.ref (He.ga K x)) "__init__" = some (some (.ref (He.ma K (He.ga K x) "__init__")))
  tI : PySem.W.typeIn K (.ref (He.ma K (He.ga K x) "__init__")) = some (.type "function")
  cl : (PySem.W.clsIn K (He.ga K x)).isSome = true
  ha : PySem.W.findIn K (.ref (He.ga K x)) "__class__" = some (some (.builtin "object.__class__"))
  hn : PySem.W.specialIn K (.builtin "object.__class__") "__get__" = some (some (.builtin "getset_descriptor.__get__"))
  ht : PySem.W.takesIn K (.builtin "object.__class__") = some true
  hm : PySem.W.mroIn K (He.ga K x) (.type "object") = some true
  ex : PySem.W.exmOne K (.ref (He.ga K x)) (.ref (He.ga K y)) = some true
  isV : PySem.W.kitOne K (.ref (He.ga K x)) (.type "ValueError") = some true
  isO : PySem.W.kitAny K (.ref (He.ga K x)) (zs.map fun z => .ref (He.ga K z)) = some false
def rfB (K : PySem.W.Frag) (x f y : Str) (zs : List Str) : Bool :=
  oexB K (He.ga K x) && (He.eqO (PySem.W.findIn K (.ref (He.ga K x)) "__setattr__") (some (some (.builtin "object.__setattr__"))) && (decide (PySem.W.typeIn K (.ref (He.ga K x)) = some (.type "type")) && (PySem.W.keepIn K (.ref (He.ga K x)) &&
  (xfB K (He.ga K x) && (He.eqO (PySem.W.findIn K (.ref (He.ga K x)) f) (some none) && (He.eqO (PySem.W.findIn K (.ref (He.ga K x)) "__init__") (some (some (.ref (He.ma K (He.ga K x) "__init__")))) &&
  (decide (PySem.W.typeIn K (.ref (He.ma K (He.ga K x) "__init__")) = some (.type "function")) && ((PySem.W.clsIn K (He.ga K x)).isSome && (He.eqO (PySem.W.findIn K (.ref (He.ga K x)) "__class__") (some (some (.builtin "object.__class__"))) &&
  (He.eqO (PySem.W.specialIn K (.builtin "object.__class__") "__get__") (some (some (.builtin "getset_descriptor.__get__"))) && (decide (PySem.W.takesIn K (.builtin "object.__class__") = some true) && (decide (PySem.W.mroIn K (He.ga K x) (.type "object") = some true) &&
  (decide (PySem.W.exmOne K (.ref (He.ga K x)) (.ref (He.ga K y)) = some true) && (decide (PySem.W.kitOne K (.ref (He.ga K x)) (.type "ValueError") = some true) && decide (PySem.W.kitAny K (.ref (He.ga K x)) (zs.map fun z => .ref (He.ga K z)) = some false)))))))))))))))
theorem rfB_ok {K : PySem.W.Frag} {x f y : Str} {zs : List Str} (h : rfB K x f y zs = true) : Rf K x f y zs := by
  obtain ⟨h1, h⟩ := Bool.and_eq_true_iff.mp h
  obtain ⟨h2, h⟩ := Bool.and_eq_true_iff.mp h
  obtain ⟨h3, h⟩ := Bool.and_eq_true_iff.mp h
  obtain ⟨h4, h⟩ := Bool.and_eq_true_iff.mp h
  obtain ⟨h5, h⟩ := Bool.and_eq_true_iff.mp h
  obtain ⟨h6, h⟩ := Bool.and_eq_true_iff.mp h
  obtain ⟨h7, h⟩ := Bool.and_eq_true_iff.mp h
  obtain ⟨h8, h⟩ := Bool.and_eq_true_iff.mp h
  obtain ⟨h9, h⟩ := Bool.and_eq_true_iff.mp h
  obtain ⟨h10, h⟩ := Bool.and_eq_true_iff.mp h
  obtain ⟨h11, h⟩ := Bool.and_eq_true_iff.mp h
  obtain ⟨h12, h⟩ := Bool.and_eq_true_iff.mp h
  obtain ⟨h13, h⟩ := Bool.and_eq_true_iff.mp h
  obtain ⟨h14, h⟩ := Bool.and_eq_true_iff.mp h
  obtain ⟨h15, h16⟩ := Bool.and_eq_true_iff.mp h
  have xf := xfB_ok h5
  exact ⟨⟨oexB_ok h1, He.eqO_ok h2, xf.exC, of_decide_eq_true h3, h4⟩, xf, He.eqO_ok h6, He.eqO_ok h7, of_decide_eq_true h8, h9, He.eqO_ok h10, He.eqO_ok h11, of_decide_eq_true h12, of_decide_eq_true h13, of_decide_eq_true h14, of_decide_eq_true h15, of_decide_eq_true h16⟩
/-- what __init__ does: self.f = what it is given -/
def spIn (C : Addr) (f : Str) : Sp := fun vs H Q _ => ∃ (a : Addr) (x : V), vs = [.ref a, x] ∧ H a = some (exo a C none) ∧
  ∀ dx, H dx = none → dx ≠ a → Q .non (upd (upd H dx (exd dx [(f, x)])) a (exo a C (some dx)))
theorem init_ok {P : Program} {w : World} {K : PySem.W.Frag} {mg : Str → Option Value} {base : Heap} {qual f : Str} {st : Stmt} {fI C : Addr} {fd : FuncData} {N : List Str} {ps : List Str} {k : Nat} (F : Fun K "__init__" qual st fI fd) (S : FnScope N ps (defScope st)) (hp : ps.length = 2)
    (T : OexC K C) (no : PySem.W.findIn K (.ref C) f = some none)
    (hb : ∀ (X : Cx), X.N = N → X.K = K → X.env.scope = defScope st → PSs X (defBody st) (tOst X.K f (tVar 0) (tVar 1))) (hN : N = ps) : FnOk P w K mg base CX0 (k + 1) fI fd ps (spIn C f) := by
  refine F.ok S (fun vs H Q E h => ?_) (fun cdv A outer s H vs Q E hr h => ?_)
  · obtain ⟨a, x, rfl, _⟩ := h
    exact hp.symm
  · obtain ⟨a, x, rfl, ha, q⟩ := h
    refine ⟨_, hb _ rfl rfl rfl, ?_⟩
    subst hN
    match N, hp with
    | [n1, n2], _ => exact ⟨_, rfl, _, rfl, a, C, rfl, T, no, Or.inl ⟨ha, q⟩⟩
theorem mk_read {C : Addr} {f : Str} {v : V} {H : Hp} {Q : XK} (h : ∀ d H', H d = none → Same H H' → H' d = some (.xd [(f, v)]) → Q (.ref C) (some d) H') :
    [v].length ≤ 1000 ∧ ∀ a, H a = none → spIn C f (.ref a :: ([v] ++ [])) (upd H a (exo a C none))
      (fun u H2 => u = .non ∧ ∃ (d : Addr) (fs : List (Str × V)), H2 a = some (exo a C (some d)) ∧ H2 d = some (exd d fs) ∧ H d = none ∧ Q (.ref C) (some d) (upd (del H2 a) d (.xd fs))) (fun _ _ _ => False) := by
  refine ⟨(show 1 ≤ 1000 by decide), fun a ha => ⟨a, v, rfl, upd_same, fun dx hdx ne => ?_⟩⟩
  rw [upd_ne ne] at hdx
  refine ⟨rfl, dx, [(f, v)], upd_same, (upd_ne ne).trans upd_same, hdx, h dx _ hdx (fun b o e => ?_) upd_same⟩
  have n1 : b ≠ dx := ne_of_none e hdx
  have n2 : b ≠ a := ne_of_none e ha
  rw [upd_ne n1, del_ne n2, upd_ne n2, upd_ne n1, upd_ne n2]
  exact e
theorem PSs.as {X : Cx} {b : List Stmt} {t u : TS} (h : PSs X b t) (e : t = u) : PSs X b u := e ▸ h
section
variable {Y : Cx} {a : Addr} {oe : Obj} {cls : Value} {d : Option Addr} {x f y : Str} {zs : List Str}
theorem inst_at {C : Addr} {pins : List (Addr × Obj)} {σ : L2.St} {H : Hp} {s : Shared} {dd : Addr} {fs : List (Str × V)} (hp : (a, oe) ∈ Y.pn) (hz : Zc (.ref C) (some dd) oe) (hf : ∃ vs, oe.data = .fields vs) (I : Inv Y pins σ H s) (e : H dd = some (.xd fs)) :
    ∃ od, PySem.W.InstAt s.heap a oe C (some od) ∧ ∃ mA : Str → Option Value, (∀ g, RelO (fs.lookup g) (mA g)) ∧ ∀ n, PySem.W.lookIn n od = some (mA n) := by
  obtain ⟨ha, _⟩ := I.pin (a, oe) (List.mem_append_left _ hp)
  obtain ⟨vs, hd⟩ := hf
  have hx : ObjOk Y.prog Y.w H s.heap dd (.xd fs) := I.hok dd _ e
  obtain ⟨mA, hns, hr⟩ := hx
  obtain ⟨od, ho, hl⟩ := lookIn_ns hns
  exact ⟨od, ⟨ha, hz.1, by unfold PySem.W.notCls; rw [hd] <;> rfl, by rw [hz.2]; exact ho⟩, mA, hr, hl⟩
/-- isinstance(e, c), e the refusal that the suite holds -/
def rIs1 (K : PySem.W.Frag) (x : Str) (a : Addr) (cls : Value) (d : Option Addr) : List V → Hp → VK → Prop := fun xs H Q => cls = .ref (He.ga K x) ∧ ∃ (dd : Addr) (fs : List (Str × V)) (c : V) (cv : Value) (b : Bool), d = some dd ∧ H dd = some (.xd fs) ∧
  xs = [.ref a, c] ∧ (∀ u, RelV c u → u = cv) ∧ PySem.W.kitOne K (.ref (He.ga K x)) cv = some b ∧ Q (.bl b) H
theorem call_is1 {K : PySem.W.Frag} (hK : Y.K = K) (R : Rf K x f y zs) (hz : Zc cls d oe) (hf : ∃ vs, oe.data = .fields vs) (hp : (a, oe) ∈ Y.pn) : CallR Y (.builtin "isinstance") (rIs1 K x a cls d) := by
  subst hK
  intro pins s σ H xs us Q I r h
  obtain ⟨rfl, dd, fs, c, cv, b, rfl, hd, rfl, hcv, e, q⟩ := h
  obtain ⟨u1, u2, rfl, r1, r2⟩ := vals2 r
  obtain rfl : u1 = Value.ref a := r1
  have z := hcv _ r2
  subst z
  obtain ⟨od, J, _⟩ := inst_at hp hz hf I hd
  exact PySem.W.kia_one (PySem.W.kitx_exc (od := some od) R.cl R.xf.ga R.xf.gg R.xf.exC R.ha R.hn R.ht R.hm) I.kIn J e (fun z => nomatch z) fun tk => ⟨.bl b, H, I.kept (t' := tk) fun _ _ z => z, rfl, q⟩
theorem vals_refs : ∀ {cs : List Addr} {us : List Value}, Vals (cs.map V.ref) us → us = cs.map Value.ref
  | [], _, .nil => rfl
  | c :: cs, _, .cons r t => by
    have e : _ = Value.ref c := r
    rw [e, vals_refs t]
    rfl
/-- isinstance(e, (c, ..)) -/
def rIsN (K : PySem.W.Frag) (x : Str) (a : Addr) (cls : Value) (d : Option Addr) : List V → Hp → VK → Prop := fun xs H Q => cls = .ref (He.ga K x) ∧ ∃ (dd : Addr) (fs : List (Str × V)) (tp : Addr) (cs : List Addr) (b : Bool), d = some dd ∧ H dd = some (.xd fs) ∧
  xs = [.ref a, .ref tp] ∧ H tp = some (.tup (cs.map V.ref)) ∧ PySem.W.kitAny K (.ref (He.ga K x)) (cs.map Value.ref) = some b ∧ Q (.bl b) H
theorem call_isN {K : PySem.W.Frag} (hK : Y.K = K) (R : Rf K x f y zs) (hz : Zc cls d oe) (hf : ∃ vs, oe.data = .fields vs) (hp : (a, oe) ∈ Y.pn) : CallR Y (.builtin "isinstance") (rIsN K x a cls d) := by
  subst hK
  intro pins s σ H xs us Q I r h
  obtain ⟨rfl, dd, fs, tp, cs, b, rfl, hd, rfl, hT, e, q⟩ := h
  obtain ⟨u1, u2, rfl, r1, r2⟩ := vals2 r
  obtain rfl : u1 = Value.ref a := r1
  obtain rfl : u2 = Value.ref tp := r2
  obtain ⟨od, J, _⟩ := inst_at hp hz hf I hd
  obtain ⟨_, its, rv, o, h1, h2, n, h3⟩ := (show ObjOk Y.prog Y.w H s.heap tp (.tup (cs.map V.ref)) from I.hok tp _ hT)
  have e3 := vals_refs rv
  subst e3
  obtain ⟨oc, od2, dt, sl⟩ := o
  simp only at h2 h3
  subst h2 h3
  exact PySem.W.kia_tup (PySem.W.kitx_exc (od := some od) R.cl R.xf.ga R.xf.gg R.xf.exC R.ha R.hn R.ht R.hm) I.kIn J h1 e (fun z => nomatch z) fun tk => ⟨.bl b, H, I.kept (t' := tk) fun _ _ z => z, rfl, q⟩
/-- e.f, e the refusal that the suite holds -/
def tFld (K : PySem.W.Frag) (x f : Str) (a : Addr) (cls : Value) (d : Option Addr) (te : TE) : TE := fun σ H Q => te σ H fun u H1 => u = .ref a ∧ cls = .ref (He.ga K x) ∧ ∃ (dd : Addr) (fs : List (Str × V)) (v : V), d = some dd ∧ H1 dd = some (.xd fs) ∧ fs.lookup f = some v ∧ Q v H1
theorem pe_fld {K : PySem.W.Frag} {e : Expr} {te : TE} {pos : Pos} (hK : Y.K = K) (R : Rf K x f y zs) (hz : Zc cls d oe) (hf : ∃ vs, oe.data = .fields vs) (hp : (a, oe) ∈ Y.pn) (he : PE Y e te) (hb : attributeBase e f Y.env (eval e Y.env) = eval e Y.env := by rfl) :
    PE Y (.Attribute e f pos) (tFld K x f a cls d te) := by
  subst hK
  refine ⟨fun pins s σ H Q I h => attr_of hb (thn (he.run pins s σ H _ I h) fun u s1 hh => ?_)⟩
  obtain ⟨z, H1, I1, rx, rfl, rfl, dd, fs, v, rfl, ea, l, q⟩ := hh
  obtain rfl : u = Value.ref a := rx
  obtain ⟨od, J, mA, hr, hl⟩ := inst_at hp hz hf I1 ea
  obtain ⟨u, hu, ru⟩ := RelO.some_of (v := v) (o := mA f) (by rw [← l]; exact hr f)
  exact HandSPX.exc_get I1.kIn J R.xf.ga R.xf.gg R.xf.exC (PySem.W.findObj_own R.xf.hdC R.no rfl (by rw [hl, hu])) (handed_of ru) ⟨v, H1, I1.tok _, ru, q⟩
end
theorem kit_self {K : PySem.W.Frag} {t : Value} : PySem.W.kitOne K t t = some true := by
  unfold PySem.W.kitOne
  rw [if_pos (beq_iff_eq.mpr rfl)]
theorem look1 {f : Str} {v : V} : List.lookup f [(f, v)] = some v := by simp [List.lookup]
/-! ### Generator expressions that are used up at once (all, any, sum): the element by the layer's rules, calls within it too -/
/-- a code object's table, however far it has grown -/
def tabP (P : Addr) : Heap → Prop := fun h => ∃ ps : Array Value, h.get? P = some { cls := .none, data := .fields ps } ∧ TriplesOk ps.toList
def TabO (P : Addr) : HO := .ext (tabP P)
theorem tab_obj {Pr : Program} {w : World} {H : Hp} {h : Heap} {P : Addr} (e : tabP P h) : ObjOk Pr w H h P (TabO P) := by
  obtain ⟨ps, h1, h2⟩ := e
  exact ⟨⟨ps, h1, h2⟩, ⟨_, h1⟩, fun a b ⟨qs, g1, g2⟩ k => ⟨qs, k _ g1, g2⟩⟩
theorem inv_gens {X : Cx} {pins : List (Addr × Obj)} {σ : L2.St} {H : Hp} {s : Shared} {G : Array GenState} (I : Inv X pins σ H s) (hg : AllBare G) : Inv X pins σ H { s with gens := G } :=
  ⟨I.ok, I.os, hg, I.base, I.loc, I.cell, I.free, I.freeC, I.pin, I.hok, I.len⟩
theorem bare_set {s : Shared} {g : Nat} {x : GenState} (h : AllBare s.gens) (hx : x.bare = true) : AllBare (s.setGen g x).gens := by
  intro y hy
  obtain ⟨i, hi, rfl⟩ := Array.mem_iff_getElem.mp hy
  have hi2 : i < s.gens.size := by simpa [Shared.setGen] using hi
  by_cases e : g = i
  · subst e
    have z : (s.setGen g x).gens[g]? = some x := by simp [Shared.setGen, hi2]
    rw [Array.getElem?_eq_getElem hi] at z
    rw [Option.some.inj z]
    exact hx
  · have z : (s.setGen g x).gens[i]? = s.gens[i]? := by simp [Shared.setGen, e]
    rw [Array.getElem?_eq_getElem hi, Array.getElem?_eq_getElem hi2] at z
    rw [Option.some.inj z]
    exact h _ (Array.getElem_mem hi2)
section
variable {X : Cx} {pins : List (Addr × Obj)} {σ : L2.St} {H : Hp} {s : Shared}
theorem inv_tabO {P : Addr} {h' : Heap} {t' : Nat} (I : Inv X pins σ H s) (hP : H P = some (TabO P)) (k : ∀ b o, b ≠ P → s.heap.get? b = some o → h'.get? b = some o) (new : tabP P h') :
    Inv X pins σ H { s with heap := h', toks := t' } := by
  have nN : ∀ b, H b = none → b ≠ P := fun b n z => by rw [z, hP] at n; cases n
  have nO : ∀ b y, H b = some (.own y) → b ≠ P := fun b y n z => by
    rw [z, hP] at n
    have z2 : HO.ext (tabP P) = HO.own y := Option.some.inj n
    cases z2
  refine I.step (g' := s.gens) (d' := s.drawn) (ch := []) (fun _ z => nomatch z) (fun b o _ _ _ e n => k b o (nN b n) e) (fun b o _ _ _ e n => ⟨o.slots, k b o (nN b n) e⟩) (fun _ _ _ _ n => n) (fun b o _ e => ?_)
    (fun _ _ e => e) (fun _ _ _ e => e) (fun b ps e => ⟨#[], by rw [e]; simp⟩) (fun m hm => ?_) (fun b u e => ?_) I.bare
  · by_cases hb : b = P
    · obtain ⟨ps, h1, _⟩ := new
      rw [hb]
      exact ⟨_, h1⟩
    · exact ⟨o, k b o hb e⟩
  · obtain ⟨ob, es, ep, ho, r⟩ := hm
    exact ⟨ob, es, ep, k _ ob (nN _ I.free) ho, r⟩
  · by_cases hb : b = P
    · rw [hb] at e ⊢
      rw [hP] at e
      cases e
      exact tab_obj new
    · refine (I.hok b u e).stay (fun d v hd q => k d v ?_ q) (fun _ q => q) fun _ _ q => q
      rcases hd with z | z
      · rw [z]
        exact hb
      · exact nO d _ z
/-- the context of a generator expression's frame, made at s -/
abbrev gblk (X : Cx) (s : Shared) (H : Hp) (cenv : Env) (fp : List Addr) : Cx :=
  { X with A := X.A.in1.in1.deeper cenv, s_0 := s, H_0 := H, env := cenv, outer := X.stack, stack := cenv :: X.stack, ex := fp, fn := fun _ => false, calm := true, pn := [], xe := fun _ _ => False }
abbrev gxEnv (X : Cx) (scope : Scope) (C : Addr) (code : Value) : Env := genEnv scope (cloFrom X.env.cells scope.names []) C code builtinsNs X.env
theorem gblk_start {scope : Scope} {own : List (Str × Nat)} {fp : List Addr} {code : Value} {h5 : Heap} {a : Addr} {go : Obj} {G5 : Array GenState} {tk : Nat} {m5 : Str → Option Value}
    (I : Inv X pins σ H s) (ok : BlkOk X.N X.env.scope scope own) (nc : ∀ y ∈ scope.names, y.2 ≠ .cell) (hN : X.N.Nodup) (hd : X.A.handled = none) (hfp : ∀ b ∈ fp, FpOk X pins H b ∧ b < s.heap.objs.size)
    (kp : ∀ b o, s.heap.get? b = some o → h5.get? b = some o) (ns : h5.Ns s.heap.objs.size m5) (bare : AllBare G5) (ha : h5.get? a = some go) (hax : s.heap.objs.size < a) (hgo : ∀ v, go.data ≠ .cell v) :
    Inv (gblk X s H (gxEnv X scope s.heap.objs.size code) fp) [(a, go)] (wipe σ (own.map (·.2))) H { s with heap := h5, gens := G5, toks := tk } := by
  have hfree : ∀ y ∈ scope.names, y.2 = .free → ∃ c, X.env.cells.lookup y.1 = some c := fun y hy e => by
    rcases ok.free y hy e with k | k
    · exact I.ok.has _ (.inl k)
    · exact I.ok.has _ (.inr k)
  generalize hcenv : gxEnv X scope s.heap.objs.size code = cenv
  have hL : cenv.locals = s.heap.objs.size := by rw [← hcenv]; rfl
  have hcl : cenv.cells = cloFrom X.env.cells scope.names [] := by rw [← hcenv]; rfl
  have hsc : cenv.scope = scope := by rw [← hcenv]; rfl
  have hfr : cenv.frame = some cenv.locals := by rw [← hcenv]; rfl
  have cm : ∀ {y c}, (y, c) ∈ cloFrom X.env.cells scope.names [] → X.env.cells.lookup y = some c ∧ c < s.heap.objs.size := fun {y c} hm => by
    rcases cloFrom_mem hm with hm | ⟨h1, rfl⟩
    · cases hm
    · obtain ⟨c, hc⟩ := hfree _ h1 rfl
      rw [hc]
      obtain ⟨w, z⟩ := I.cell _ _ hc
      exact ⟨rfl, z.lt⟩
  have mem : ∀ {y c}, cenv.cells.lookup y = some c → X.env.cells.lookup y = some c ∧ c < s.heap.objs.size := fun {y c} e => by
    rw [hcl] at e
    exact cm (PySem.mem_of_lookup e)
  have look : ∀ {y}, scope.names.lookup y = some .free → ∃ c, cenv.cells.lookup y = some c ∧ X.env.cells.lookup y = some c := fun {y} hl => by
    have hy : (y, NameKind.free) ∈ scope.names := PySem.mem_of_lookup hl
    obtain ⟨c', e'⟩ := mem_lookup (cloFrom_has (cells := X.env.cells) (acc := []) hy)
    exact ⟨c', by rw [hcl]; exact e', (cm (PySem.mem_of_lookup e')).1⟩
  have nostk : ∀ b, s.heap.objs.size ≤ b → b ∉ frs X.stack := fun b hb z => by
    rcases List.mem_cons.mp (I.stkSub b z) with z | z
    · have := I.lt
      rw [z] at hb
      exact absurd (Nat.lt_of_lt_of_le this hb) (Nat.lt_irrefl _)
    · exact I.nofs hb z
  have okB : (gblk X s H cenv fp).Ok := by
    refine ⟨I.ok.mod, by show cenv.scope.kind = _; rw [hsc]; exact ok.kind, by show cenv.globals = _; rw [← hcenv]; exact I.ok.glob, by show cenv.builtins = _; rw [← hcenv]; rfl, by show s.heap.objs.size ≤ cenv.locals; rw [hL]; exact Nat.le_refl _,
      fun y z c e1 e2 => I.ok.inj y z c (mem e1).1 (mem e2).1, fun y hy => ?_, fun y c z e => absurd z Bool.false_ne_true, fun _ => hd, Around.frames_deeper (A := X.A.in1.in1) I.ok.frames, .inr ⟨rfl, hfr⟩, fun b hb => ⟨?_, fun y c e z => (hfp b hb).1.2.2.2.2.1 y c (mem e).1 z⟩,
      I.bs, Nat.le_trans I.ok.bsz I.sz, fun b o e hb => ?_, fun b hb z => ?_, I.stack, I.stkFree⟩
    · have key : scope.names.lookup y = some .cell ∨ scope.names.lookup y = some .free → ∃ c, cenv.cells.lookup y = some c := fun hk => by
        rcases hk with hk | hk
        · exact absurd rfl (nc _ (PySem.mem_of_lookup hk))
        · obtain ⟨c, h1, _⟩ := look hk
          exact ⟨c, h1⟩
      have hy : cenv.scope.names.lookup y = some .cell ∨ cenv.scope.names.lookup y = some .free := hy
      rw [hsc] at hy
      exact key hy
    · show b ≠ cenv.locals
      rw [hL]; exact Nat.ne_of_lt (hfp b hb).2
    · rcases (hfp b hb).1.2.2.2.1 with z | z
      · exact I.ok.noex b o e z
      · exact absurd (Nat.lt_of_lt_of_le (Heap.lt_size e) (Nat.le_trans I.ok.bsz z)) (Nat.lt_irrefl _)
    · rcases List.mem_cons.mp (I.stkSub b z) with z | z
      · exact (hfp b hb).1.2.1 z
      · exact (hfp b hb).1.2.2.1 z
  refine ⟨okB, rfl, bare, Un.kept kp, ⟨m5, ?_, fun i y av e1 e2 e3 => ?_⟩, fun y c e => ?_, ?_, fun y c e => ?_, fun p hp => ?_, I.hok.kept kp, by rw [wipe_length]; exact I.len⟩
  · show Heap.Ns _ cenv.locals _
    rw [hL]
    exact ns
  · obtain ⟨e2, hne⟩ := wipe_some e2
    have e3 : Vis cenv.scope y := e3
    rw [hsc] at e3
    have no : ∀ k, scope.names.lookup y = some k → (k = .local ∨ k = .cell) → False := fun k hk hh => by
      rcases ok.own _ (PySem.mem_of_lookup hk) hh with e' | e'
      · obtain ⟨p, hp, hpy⟩ := List.mem_map.mp e'
        have e3 := ok.ix p hp
        have : p.1 = y := hpy
        rw [this] at e3
        exact hne (List.mem_map.mpr ⟨p, hp, nodup_ix hN e3 e1⟩)
      · exact e' (List.mem_of_getElem? e1)
    have hf : scope.names.lookup y = some .free := by
      rcases e3 with e3 | e3 | e3
      · exact (no _ e3 (.inl rfl)).elim
      · exact (no _ e3 (.inr rfl)).elim
      · exact e3
    obtain ⟨m, hn, hl⟩ := I.loc
    have hvis : Vis X.env.scope y := (ok.free _ (PySem.mem_of_lookup hf) rfl).elim (fun k => .inr (.inl k)) (fun k => .inr (.inr k))
    obtain ⟨w, r, q⟩ := hl i y av e1 e2 hvis
    obtain ⟨c, h1, h2⟩ := look hf
    refine ⟨w, r, .inr ⟨.inr (by show cenv.scope.names.lookup y = _; rw [hsc]; exact hf), c, h1, ?_⟩⟩
    rcases q with ⟨k, _⟩ | ⟨_, c', e', z⟩
    · have k : X.env.scope.names.lookup y = some .local := k
      rcases ok.free _ (PySem.mem_of_lookup hf) rfl with k' | k' <;> rw [show X.env.scope.names.lookup y = _ from k'] at k <;> cases k
    · rw [h2] at e'; cases e'
      exact z.keeps kp
  · obtain ⟨w, z⟩ := I.cell y c (mem e).1
    exact ⟨w, z.keeps kp⟩
  · show H cenv.locals = none
    rw [hL]; exact I.hok.fresh (Nat.le_refl _)
  · exact I.freeC y c (mem e).1
  · have e : p = (a, go) := by simpa using (show p ∈ ([] : List (Addr × Obj)) ++ [(a, go)] from hp)
    subst e
    refine ⟨ha, I.hok.fresh (Nat.le_of_lt hax), ?_, nostk a (Nat.le_of_lt hax), hgo⟩
    show a ≠ cenv.locals
    rw [hL]; exact Nat.ne_of_gt hax
end

/-! the turns -/
section
variable {Y : Cx} {L fp : List Addr} {σw : L2.St} {tn : Nat → Heap → Prop} {Pv : Nat → Hp → Prop} {n : Nat} {pz : Nat → Bool} {F : Nat → V}
/-- the generator stands ahead of its turn i; what stands at L is pinned -/
def GAt (Y : Cx) (L fp : List Addr) (σw : L2.St) (tn : Nat → Heap → Prop) (Pv : Nat → Hp → Prop) (i : Nat) (s : Shared) : Prop :=
  ∃ H, Inv Y (pinsAt L s.heap) σw H s ∧ tn i s.heap ∧ (∀ b ∈ fp, H b = none) ∧ Pv i H
/-- the turn behind j that were handed out -/
def tj (pz : Nat → Bool) (n : Nat) : Nat → Nat
  | 0 => 0
  | j + 1 => (passing pz n 0).getD j 0 + 1
def GEnd (Y : Cx) (L : List Addr) (σw : L2.St) (Pv : Nat → Hp → Prop) (n : Nat) : GenEnd := fun m s0 r s1 =>
  r = .ok .next ∧ m = 0 ∧ ∃ H, Inv Y (pinsAt L s0.heap) σw H s1 ∧ Pv n H
def GYld (Y : Cx) (L fp : List Addr) (σw : L2.St) (tn : Nat → Heap → Prop) (Pv : Nat → Hp → Prop) (n : Nat) (pz : Nat → Bool) (F : Nat → V) : Protocol := fun m s0 v s kap =>
  ∃ i H, (passing pz n 0)[(passing pz n 0).length - 1 - m]? = some i ∧ RelV (F i) v ∧ Inv Y (pinsAt L s0.heap) σw H s ∧ tn (i + 1) s.heap ∧ (∀ b ∈ fp, H b = none) ∧ Pv (i + 1) H ∧
    ∀ s2, GAt Y L fp σw tn Pv (i + 1) s2 → kap (.send .none) s2
abbrev gxE (elt tg iter : Expr) (ifs : List Expr) (scope : Scope) (pos : Pos) : Expr := .GeneratorExp elt [⟨tg, iter, ifs, 0⟩] scope pos
theorem over_loopG {A : Around} {elt tg iter : Expr} {ifs : List Expr} {scope : Scope} {pos : Pos} {it acc : Value} {env : Env} : A.over (.compLoop (gxE elt tg iter ifs scope pos) 0 it acc env) [] = A.deeper env := by
  first
    | rfl
    | (obtain ⟨hd, d, fr, gs, u⟩ := A; simp [Around.over, Around.deeper, marksOver, frameCount, unitsOf, envsOf, guardsOf, pushEnvs, pushGuards, Code.envs, Code.env?, Code.isFrame, Code.guards, Code.isGuard, Code.weight, Code.frames, Code.isCreation, Code.isCaller, Code.cUnits])
theorem over_startG {A : Around} {elt tg iter : Expr} {ifs : List Expr} {scope : Scope} {pos : Pos} {it acc : Value} {env : Env} : A.over (.compStart (gxE elt tg iter ifs scope pos) 0 it acc env) [] = A.deeper env := by
  first
    | rfl
    | (obtain ⟨hd, d, fr, gs, u⟩ := A; simp [Around.over, Around.deeper, marksOver, frameCount, unitsOf, envsOf, guardsOf, pushEnvs, pushGuards, Code.envs, Code.env?, Code.isFrame, Code.guards, Code.isGuard, Code.weight, Code.frames, Code.isCreation, Code.isCaller, Code.cUnits])
/-- what a turn does -/
def GStep (J : It) (g : TG) (tt : TT) (te : TE) (σ : L2.St) (vs : List Nat) (Pv : Nat → Hp → Prop) (n : Nat) (pz : Nat → Bool) (F : Nat → V) : Prop :=
  ∀ i x H H', i < n → Pv i H → J.yld i H x H' → g x (wipe σ vs) H' fun σ2 H2 => wipe σ2 vs = wipe σ vs ∧ tt σ2 H2 fun b H3 => b = pz i ∧ if b = true then te σ2 H3 (fun y H4 => y = F i ∧ Pv (i + 1) H4) else Pv (i + 1) H3
theorem seg_gx {A : Around} {σ : L2.St} {vs : List Nat} {J : It} {g : TG} {tt : TT} {te : TE} {it : Addr} {elt tg iter : Expr} {ifs : List Expr} {scope : Scope} {pos : Pos}
    (hA : A.deeper Y.env = Y.A) (hc : Y.calm = true) (hpn : Y.pn = []) (hxe : Y.xe = fun _ _ => False) (hco : Y.env.scope.isCoroutine = false)
    (T : Turn Y.prog Y.w Y.K tg J fp it tn) (pg : PG Y tg g) (pt : PTs Y ifs tt) (pe : PE Y elt te) (hex : ∀ b ∈ fp, b ∈ Y.ex) (hLf : ∀ b ∈ fp, b ∉ L)
    (go : ∀ i H, i < n → Pv i H → J.go i H) (stop : ∀ H, Pv n H → J.stop n H) (step : GStep J g tt te σ vs Pv n pz F) :
    ∀ (k i : Nat) (s0 s : Shared), n - i = k → i ≤ n → (∃ H, Inv Y (pinsAt L s0.heap) (wipe σ vs) H s ∧ tn i s.heap ∧ (∀ b ∈ fp, H b = none) ∧ Pv i H) →
      Seg (model Y.prog Y.w) A (GEnd Y L (wipe σ vs) Pv n) (GYld Y L fp (wipe σ vs) tn Pv n pz F) (passing pz n i).length s0
        (.compLoop (gxE elt tg iter ifs scope pos) 0 (.ref it) .none Y.env) ((model Y.prog Y.w).den (.compLoop (gxE elt tg iter ifs scope pos) 0 (.ref it) .none Y.env)) [] s := by
  have ov : A.over (.compLoop (gxE elt tg iter ifs scope pos) 0 (.ref it) .none Y.env) [] = Y.A := over_loopG.trans hA
  have stat : ∀ {s0 : Shared} {σ' : L2.St} {H' : Hp} {s' : Shared}, Inv Y (pinsAt L s0.heap) σ' H' s' → (∀ b ∈ fp, H' b = none) → ∀ b ∈ fp, FpOk Y (pinsAt L s0.heap) H' b := fun {s0 σ' H' s'} I' hn b hb =>
    ⟨hn b hb, (I'.ok.exf b (hex b hb)).1, I'.ok.exfs b (hex b hb), .inl (hex b hb), fun x c e => (I'.ok.exf b (hex b hb)).2 x c e, fun p hp z => by
      rw [hpn, List.nil_append] at hp
      exact hLf b hb (by rw [← z]; exact (of_pinsAt hp).1)⟩
  intro k
  induction k with
  | zero =>
    intro i s0 s hk hi hst
    have hin : i = n := by omega
    subst hin
    obtain ⟨H, I, st, nf, pv⟩ := hst
    show Seg _ A _ _ _ s0 _ ((compTurn (gxE elt tg iter ifs scope pos) 0 (.ref it) .none Y.env).onRaise (leaving Y.env)) [] s
    rw [compTurn_gen, Sem.onRaise_eq_wrap]
    refine seg_bind_wrap (wpAny_standAt ?_)
    refine seg_bind_wrap ?_
    rw [ov]
    refine thnF (T.done Y rfl rfl rfl hc i _ s _ H (fun _ _ => False) I (stat I nf) st (stop H pv)) fun r s1 ⟨hr, I1⟩ => ?_
    subst hr
    exact seg_end (.ok .next) ⟨rfl, by rw [passing_end]; rfl, H, I1, pv⟩
  | succ k ih =>
    intro i s0 s hk hi hst
    have hlt : i < n := by omega
    obtain ⟨H, I, st, nf, pv⟩ := hst
    show Seg _ A _ _ _ s0 _ ((compTurn (gxE elt tg iter ifs scope pos) 0 (.ref it) .none Y.env).onRaise (leaving Y.env)) [] s
    rw [compTurn_gen, Sem.onRaise_eq_wrap]
    refine seg_bind_wrap (wpAny_standAt ?_)
    refine seg_bind_wrap ?_
    rw [ov]
    refine thnF (T.item Y rfl rfl rfl hc i _ s _ H (fun _ _ => False) I (stat I nf) st (go i H hlt pv)) fun r s1 ⟨u, hr, h1⟩ => ?_
    subst hr
    refine seg_bind_wrap ?_
    rw [ov]
    refine thnF h1 fun _ s2 ⟨x, H2, I2, r2, y2, st2, n2⟩ => ?_
    have I2' := I2.pinned (stat I2 n2) (T.obj _ _ st2)
    refine seg_bind_wrap ?_
    rw [ov]
    have pgr := pg.run _ s2 _ H2 x u _ I2' r2 (step i x H H2 hlt pv y2)
    have ptr := fun s3 σ3 H3 Q I3 q3 => pt.run (pinsAt L s0.heap ++ pinsAt fp s2.heap) s3 σ3 H3 Q I3 q3
    have per := fun s3 σ3 H3 Q I3 q3 => pe.run (pinsAt L s0.heap ++ pinsAt fp s2.heap) s3 σ3 H3 Q I3 q3
    rw [hxe] at pgr ptr per
    refine thnF pgr fun _ s3 ⟨σ3, H3, I3, hw3, q3⟩ => ?_
    refine seg_bind_wrap ?_
    rw [ov]
    refine thnF (ptr s3 σ3 H3 _ I3 q3) fun b s4 ⟨H4, I4, hb, q4⟩ => ?_
    have fin : ∀ {s' : Shared} {H' : Hp}, Inv Y (pinsAt L s0.heap ++ pinsAt fp s2.heap) σ3 H' s' → Inv Y (pinsAt L s0.heap) (wipe σ vs) H' s' ∧ tn (i + 1) s'.heap ∧ (∀ b ∈ fp, H' b = none) := fun {s' H'} I' => by
      have pin' : ∀ b ∈ fp, ∀ o, s2.heap.get? b = some o → s'.heap.get? b = some o ∧ H' b = none := fun b hb o e =>
        let z := I'.pin (b, o) (List.mem_append_right _ (List.mem_append_right _ (mem_pinsAt hb e)))
        ⟨z.1, z.2.1⟩
      have hl : (wipe σ vs).length = σ3.length := by rw [← hw3, wipe_length]
      refine ⟨I'.unpinned.weak hl (fun j v e => ?_), T.keep _ _ _ st2 fun b hb o e => (pin' b hb o e).1, fun b hb => ?_⟩
      · rw [← hw3] at e
        exact (wipe_some e).1
      · obtain ⟨o, e, _⟩ := T.obj _ _ st2 b hb
        exact (pin' b hb o e).2
    cases b with
    | false =>
      rw [passing_false hlt hb.symm]
      simp only [Bool.false_eq_true, if_false] at q4 ⊢
      obtain ⟨f1, f2, f3⟩ := fin I4
      exact seg_again rfl (ih (i + 1) s0 _ (by omega) hlt ⟨H4, f1, f2, f3, q4⟩)
    | true =>
      rw [passing_true hlt hb.symm, List.length_cons]
      simp only [if_true] at q4 ⊢
      have hy : ∀ v, yieldOut Y.env v = yieldValue v := fun v => by simp only [yieldOut, hco, Bool.false_eq_true, if_false]
      simp only [hy]
      rw [Sem.bind_eq_wrap', Sem.bind_eq_wrap', Sem.wrap_wrap, Sem.wrap_wrap]
      refine seg_wrap ?_
      rw [ov]
      refine thnF (per s4 σ3 H4 _ I4 q4) fun z s5 ⟨yv, H5, I5, r5, ey, p5⟩ => ?_
      subst ey
      obtain ⟨f1, f2, f3⟩ := fin I5
      refine seg_at (seg_yield rfl rfl rfl ⟨i, H5, passing_here hlt hb.symm, r5, f1, f2, f3, p5, fun s6 h6 => ?_⟩)
      exact seg_again rfl (ih (i + 1) s6 s6 (by omega) hlt h6)
theorem seg_gx0 {A : Around} {σ : L2.St} {vs : List Nat} {J : It} {g : TG} {tt : TT} {te : TE} {it : Addr} {elt tg iter : Expr} {ifs : List Expr} {scope : Scope} {pos : Pos}
    (hA : A.deeper Y.env = Y.A) (hc : Y.calm = true) (hpn : Y.pn = []) (hxe : Y.xe = fun _ _ => False) (hco : Y.env.scope.isCoroutine = false)
    (T : Turn Y.prog Y.w Y.K tg J fp it tn) (pg : PG Y tg g) (pt : PTs Y ifs tt) (pe : PE Y elt te) (hex : ∀ b ∈ fp, b ∈ Y.ex) (hLf : ∀ b ∈ fp, b ∉ L)
    (go : ∀ i H, i < n → Pv i H → J.go i H) (stop : ∀ H, Pv n H → J.stop n H) (step : GStep J g tt te σ vs Pv n pz F) (s : Shared) (h : GAt Y L fp (wipe σ vs) tn Pv 0 s) :
    Seg (model Y.prog Y.w) A (GEnd Y L (wipe σ vs) Pv n) (GYld Y L fp (wipe σ vs) tn Pv n pz F) (passing pz n 0).length s
      (.compStart (gxE elt tg iter ifs scope pos) 0 (.ref it) .none Y.env) ((model Y.prog Y.w).den (.compStart (gxE elt tg iter ifs scope pos) 0 (.ref it) .none Y.env)) [] s := by
  have loop := seg_gx (A := A) (iter := iter) (scope := scope) (pos := pos) (pz := pz) (F := F) hA hc hpn hxe hco T pg pt pe hex hLf go stop step n 0 s s rfl (Nat.zero_le _) h
  obtain ⟨H, I, st, nf, pv⟩ := h
  show Seg _ A _ _ _ s _ ((compStart (gxE elt tg iter ifs scope pos) 0 (.ref it) .none Y.env).onRaise (leaving Y.env)) [] s
  unfold compStart
  rw [Sem.onRaise_eq_wrap]
  show Seg _ A _ _ _ s _ ((ask >>= _).wrap _ _ _ _) [] s
  refine seg_bind_wrap (wpAny_askSetting ?_)
  split
  · exact seg_again rfl loop
  · first
      | exact seg_bind_wrap (wpAny_rule (seg_bind_wrap (wpAny_standAt (seg_bind_wrap (T.self _ 0 s _ _ st (seg_again rfl loop))))))
      | (refine seg_bind_wrap (wpAny_rule ?_); show Seg _ A _ _ _ s _ ((standAt iter.pos >>= _).wrap _ _ _ _) [] s; exact seg_bind_wrap (wpAny_standAt (seg_bind_wrap (T.self _ 0 s _ _ st (seg_again rfl loop)))))
end
/-! ### .. as their consumers see them -/
theorem pins_eq {h h' : Heap} : ∀ {L : List Addr}, (∀ b ∈ L, ∃ o, h.get? b = some o) → (∀ p ∈ pinsAt L h, h'.get? p.1 = some p.2) → pinsAt L h' = pinsAt L h
  | [], _, _ => rfl
  | b :: L, ho, k => by
    obtain ⟨o, e⟩ := ho b List.mem_cons_self
    have e' : h'.get? b = some o := k (b, o) (mem_pinsAt List.mem_cons_self e)
    have ih : pinsAt L h' = pinsAt L h := pins_eq (fun c hc => ho c (List.mem_cons_of_mem _ hc)) fun p hp => k p (by
      obtain ⟨h1, h2⟩ := of_pinsAt hp
      exact mem_pinsAt (b := p.1) (o := p.2) (List.mem_cons_of_mem _ h1) h2)
    unfold pinsAt at ih ⊢
    rw [List.filterMap_cons, List.filterMap_cons, e, e', ih]
theorem pins_nil {L : List Addr} {h : Heap} {X : Cx} {σ : L2.St} {H : Hp} {s : Shared} (I : Inv X (pinsAt L h) σ H s) : Inv X [] σ H s := I.pins_of fun p hp => nomatch hp
section
variable {Y : Cx} {L fp : List Addr} {σw : L2.St} {tn : Nat → Heap → Prop} {Pv : Nat → Hp → Prop} {n : Nat} {pz : Nat → Bool} {F : Nat → V} {A : Around} {a : Addr} {g : Nat}
/-- the generator at a, of the number g, j handed out -/
structure GS (Y : Cx) (L fp : List Addr) (σw : L2.St) (tn : Nat → Heap → Prop) (Pv : Nat → Hp → Prop) (n : Nat) (pz : Nat → Bool) (F : Nat → V) (A : Around) (a : Addr) (g j : Nat) (s : Shared) : Prop where
  gen : s.heap.IsGen a g
  objs : ∀ b ∈ L, ∃ o, s.heap.get? b = some o
  at_ : GAt Y L fp σw tn Pv (tj pz n j) s
  go : ∃ gs, s.gens[g]? = some gs ∧ ∀ s2, GAt Y L fp σw tn Pv (tj pz n j) s2 → gs.Goes (model Y.prog Y.w) A.in1 (GEnd Y L σw Pv n) (GYld Y L fp σw tn Pv n pz F) ((passing pz n 0).length - j) (.send .none) s2
theorem GS.running {j : Nat} {s : Shared} (h : GS Y L fp σw tn Pv n pz F A a g j s) : GAt Y L fp σw tn Pv (tj pz n j) (s.setGen g .running) := by
  obtain ⟨H, I, st, nf, pv⟩ := h.at_
  exact ⟨H, inv_gens I (bare_set I.bare rfl), st, nf, pv⟩
theorem GAt.again {i : Nat} {s s1 : Shared} {H : Hp} {G : Array GenState} (ho : ∀ b ∈ L, ∃ o, s.heap.get? b = some o) (I : Inv Y (pinsAt L s.heap) σw H s1) (st : tn i s1.heap) (nf : ∀ b ∈ fp, H b = none) (pv : Pv i H) (hG : AllBare G) :
    GAt Y L fp σw tn Pv i { s1 with gens := G } := by
  have e := pins_eq (h' := s1.heap) ho fun p hp => (I.pin p (List.mem_append_right _ hp)).1
  exact ⟨H, by show Inv Y (pinsAt L s1.heap) σw H { s1 with gens := G }; rw [e]; exact inv_gens I hG, st, nf, pv⟩
theorem next_gx {j : Nat} {s : Shared} {Q : Option Value → Shared → Prop} {E : Value → Shared → Prop} (hh : A.handled = none) (hroom : A.depth < recursionLimit) (haL : a ∈ L) (hj : j < (passing pz n 0).length) (h : GS Y L fp σw tn Pv n pz F A a g j s)
    (hQ : ∀ v i s', (passing pz n 0)[j]? = some i → RelV (F i) v → GS Y L fp σw tn Pv n pz F A a g (j + 1) s' → (∀ b ∈ L, ∀ o, s.heap.get? b = some o → s'.heap.get? b = some o) → Q (some v) s') :
    wpAny (model Y.prog Y.w) A (pyNext (.ref a)) Q E s := by
  obtain ⟨gs, hgs, hgo⟩ := h.go
  obtain ⟨m, hm⟩ : ∃ m, (passing pz n 0).length - j = m + 1 := ⟨(passing pz n 0).length - j - 1, by omega⟩
  rw [hm] at hgo
  have hgl : g < s.gens.size := (Array.getElem?_eq_some_iff.mp hgs).1
  have lim : s.heap.NoLimit := let ⟨_, I, _⟩ := h.at_; I.nolimit
  refine GenW.wpAny_gsz (n := s.gens.size) (Nat.le_refl _) ?_
  refine wpAny_pyNext_genexpQ (P := fun m s0 s1 => m = 0 ∧ ∃ H, Inv Y (pinsAt L s0.heap) σw H s1 ∧ Pv n H) hh lim hroom h.gen hgs (hgo _ h.running) (fun v s1 gs' hb hv => ?_) (fun s1 hp h' hk => ?_)
  · obtain ⟨i, H, hi, rv, I, st, nf, pv, kap⟩ := hv
    have hi : (passing pz n 0)[(passing pz n 0).length - 1 - (m + 1 - 1)]? = some i := hi
    have hidx : (passing pz n 0).length - 1 - (m + 1 - 1) = j := by omega
    rw [hidx] at hi
    have I : Inv Y (pinsAt L s.heap) σw H s1 := I
    intro hsz
    have hsz1 : s.gens.size ≤ s1.gens.size := by rw [GenW.setGen_size] at hsz; exact hsz
    have et : tj pz n (j + 1) = i + 1 := by
      show (passing pz n 0).getD j 0 + 1 = i + 1
      rw [List.getD_eq_getElem?_getD, hi]
      rfl
    have pin : ∀ b ∈ L, ∀ o, s.heap.get? b = some o → s1.heap.get? b = some o := fun b hb' o e => (I.pin (b, o) (List.mem_append_right _ (mem_pinsAt hb' e))).1
    refine hQ v i _ hi rv ⟨?_, fun b hb' => ?_, ?_, gs', ?_, fun s2 h2 => ?_⟩ pin
    · obtain ⟨o, nm, qn, ho, r⟩ := h.gen
      exact ⟨o, nm, qn, pin a haL o ho, r⟩
    · obtain ⟨o, e⟩ := h.objs b hb'
      exact ⟨o, pin b hb' o e⟩
    · rw [et]
      exact GAt.again h.objs I st nf pv (bare_set I.bare hb)
    · have : g < s1.gens.size := Nat.lt_of_lt_of_le hgl hsz1
      simp [Shared.setGen, this]
    · rw [et] at h2
      have k2 := kap s2 h2
      have e : (passing pz n 0).length - (j + 1) = m := by omega
      rw [e]
      exact k2
  · exact absurd hp.1 (Nat.succ_ne_zero m)
theorem done_gx {s : Shared} {Q : Option Value → Shared → Prop} {E : Value → Shared → Prop} (hh : A.handled = none) (hroom : A.depth < recursionLimit) (h : GS Y L fp σw tn Pv n pz F A a g (passing pz n 0).length s)
    (hQ : ∀ s' H, Inv Y (pinsAt L s.heap) σw H s' → Pv n H → Q none s') : wpAny (model Y.prog Y.w) A (pyNext (.ref a)) Q E s := by
  obtain ⟨gs, hgs, hgo⟩ := h.go
  rw [Nat.sub_self] at hgo
  have lim : s.heap.NoLimit := let ⟨_, I, _⟩ := h.at_; I.nolimit
  refine wpAny_pyNext_genexpQ (P := fun m s0 s1 => m = 0 ∧ ∃ H, Inv Y (pinsAt L s0.heap) σw H s1 ∧ Pv n H) hh lim hroom h.gen hgs (hgo _ h.running) (fun v s1 gs' hb hv => ?_) (fun s1 hp h' hk => ?_)
  · obtain ⟨i, H, hi, rv, I, st, nf, pv, kap⟩ := hv
    have I : Inv Y (pinsAt L s.heap) σw H s1 := I
    exact False.elim (kap s1 (GAt.again h.objs I st nf pv I.bare))
  · obtain ⟨_, H, I, pv⟩ := hp
    have I : Inv Y (pinsAt L s.heap) σw H s1 := I
    exact hQ _ H (inv_gens (I.kept (t' := s1.toks) hk) (bare_set I.bare rfl)) pv
/-- wherever it stands: what holds there -/
theorem GS.stands {j : Nat} {s : Shared} (h : GS Y L fp σw tn Pv n pz F A a g j s) (hj : j ≤ (passing pz n 0).length) : ∃ i H, i ≤ n ∧ Inv Y (pinsAt L s.heap) σw H s ∧ Pv i H := by
  obtain ⟨H, I, st, nf, pv⟩ := h.at_
  refine ⟨_, H, ?_, I, pv⟩
  match j, hj with
  | 0, _ => exact Nat.zero_le _
  | j + 1, hj =>
    have e : (passing pz n 0)[j]? = some ((passing pz n 0)[j]'hj) := List.getElem?_eq_getElem _
    show (passing pz n 0).getD j 0 + 1 ≤ n
    rw [List.getD_eq_getElem?_getD, e]
    have hm : (passing pz n 0)[j]'hj ∈ passing pz n 0 := List.getElem_mem _
    have hm2 : (passing pz n 0)[j]'hj ∈ List.range n := by
      unfold passing at hm
      exact (List.mem_filter.mp hm).1
    exact List.mem_range.mp hm2
theorem all_gx {f : Nat → Bool} {R : Result → Shared → Prop} (hh : A.in1.handled = none) (hroom : A.in1.depth < recursionLimit) (haL : a ∈ L) (hF : F = fun i => .bl (f i)) : ∀ (k j : Nat) (s : Shared), (passing pz n 0).length - j = k → j ≤ (passing pz n 0).length →
    GS Y L fp σw tn Pv n pz F A.in1 a g j s → (∀ s' i H, i ≤ n → Inv Y [] σw H s' → Pv i H → R (.ok (.ret (.bool (((passing pz n 0).drop j).all f)))) s') →
    codeAny (model Y.prog Y.w) A (.builtin "all.loop" ⟨[.ref a], []⟩) R s := by
  intro k
  induction k with
  | zero =>
    intro j s hk hj hst hR
    have hin : j = (passing pz n 0).length := by omega
    subst hin
    refine codeAny_builtin PySem.F.entry_all_loop ?_
    rw [Around.under_plainId PySem.F.plain_all_loop _]
    show wpAny _ A.in1 (pyNext (.ref a) >>= _) _ _ s
    refine wpAny_bind (done_gx hh hroom hst fun s' H I pv => ?_)
    refine wpAny_bind (wpAny_rule (wpAny_pure ?_))
    have := hR s' n H (Nat.le_refl _) (pins_nil I) pv
    rw [List.drop_of_length_le (Nat.le_refl _)] at this
    exact this
  | succ k ih =>
    intro j s hk hj hst hR
    have hlt : j < (passing pz n 0).length := by omega
    have hd : (passing pz n 0).drop j = (passing pz n 0)[j]'hlt :: (passing pz n 0).drop (j + 1) := List.drop_eq_getElem_cons hlt
    refine codeAny_builtin PySem.F.entry_all_loop ?_
    rw [Around.under_plainId PySem.F.plain_all_loop _]
    show wpAny _ A.in1 (pyNext (.ref a) >>= _) _ _ s
    refine wpAny_bind (next_gx hh hroom haL hlt hst fun v i s' hi rv hst' pin => ?_)
    rw [List.getElem?_eq_getElem hlt] at hi
    have ei := Option.some.inj hi
    rw [hF] at rv
    obtain rfl : v = Value.bool (f i) := rv
    refine wpAny_bind (wpAny_holding (wpAny_truthy_bool ?_))
    refine wpAny_bind (wpAny_letGo ?_)
    cases hb : f i with
    | true =>
      simp only [if_true]
      refine wpAny_pure ⟨plainId_quiet PySem.F.plain_all_loop _, ih (j + 1) _ (by omega) hlt hst' fun s'' i' H hi' I pv => ?_⟩
      have := hR s'' i' H hi' I pv
      rw [hd, List.all_cons, ei, hb, Bool.true_and] at this
      exact this
    | false =>
      simp only [Bool.false_eq_true, if_false]
      refine wpAny_bind (wpAny_rule (wpAny_pure ?_))
      obtain ⟨i', H, hi', I, pv⟩ := hst'.stands hlt
      have := hR s' i' H hi' (pins_nil I) pv
      rw [hd, List.all_cons, ei, hb, Bool.false_and] at this
      exact this
theorem any_gx {f : Nat → Bool} {R : Result → Shared → Prop} (hh : A.in1.handled = none) (hroom : A.in1.depth < recursionLimit) (haL : a ∈ L) (hF : F = fun i => .bl (f i)) : ∀ (k j : Nat) (s : Shared), (passing pz n 0).length - j = k → j ≤ (passing pz n 0).length →
    GS Y L fp σw tn Pv n pz F A.in1 a g j s → (∀ s' i H, i ≤ n → Inv Y [] σw H s' → Pv i H → R (.ok (.ret (.bool (((passing pz n 0).drop j).any f)))) s') →
    codeAny (model Y.prog Y.w) A (.builtin "any.loop" ⟨[.ref a], []⟩) R s := by
  intro k
  induction k with
  | zero =>
    intro j s hk hj hst hR
    have hin : j = (passing pz n 0).length := by omega
    subst hin
    refine codeAny_builtin PySem.F.entry_any_loop ?_
    rw [Around.under_plainId PySem.F.plain_any_loop _]
    show wpAny _ A.in1 (pyNext (.ref a) >>= _) _ _ s
    refine wpAny_bind (done_gx hh hroom hst fun s' H I pv => ?_)
    refine wpAny_bind (wpAny_rule (wpAny_pure ?_))
    have := hR s' n H (Nat.le_refl _) (pins_nil I) pv
    rw [List.drop_of_length_le (Nat.le_refl _)] at this
    exact this
  | succ k ih =>
    intro j s hk hj hst hR
    have hlt : j < (passing pz n 0).length := by omega
    have hd : (passing pz n 0).drop j = (passing pz n 0)[j]'hlt :: (passing pz n 0).drop (j + 1) := List.drop_eq_getElem_cons hlt
    refine codeAny_builtin PySem.F.entry_any_loop ?_
    rw [Around.under_plainId PySem.F.plain_any_loop _]
    show wpAny _ A.in1 (pyNext (.ref a) >>= _) _ _ s
    refine wpAny_bind (next_gx hh hroom haL hlt hst fun v i s' hi rv hst' pin => ?_)
    rw [List.getElem?_eq_getElem hlt] at hi
    have ei := Option.some.inj hi
    rw [hF] at rv
    obtain rfl : v = Value.bool (f i) := rv
    refine wpAny_bind (wpAny_holding (wpAny_truthy_bool ?_))
    refine wpAny_bind (wpAny_letGo ?_)
    cases hb : f i with
    | false =>
      simp only [Bool.false_eq_true, if_false]
      refine wpAny_pure ⟨plainId_quiet PySem.F.plain_any_loop _, ih (j + 1) _ (by omega) hlt hst' fun s'' i' H hi' I pv => ?_⟩
      have := hR s'' i' H hi' I pv
      rw [hd, List.any_cons, ei, hb, Bool.false_or] at this
      exact this
    | true =>
      simp only [if_true]
      refine wpAny_bind (wpAny_rule (wpAny_pure ?_))
      obtain ⟨i', H, hi', I, pv⟩ := hst'.stands hlt
      have := hR s' i' H hi' (pins_nil I) pv
      rw [hd, List.any_cons, ei, hb, Bool.true_or] at this
      exact this
end
/-! ### .. sum -/
section
variable {Y : Cx} {L fp : List Addr} {σw : L2.St} {tn : Nat → Heap → Prop} {Pv : Nat → Hp → Prop} {n : Nat} {pz : Nat → Bool} {F : Nat → V} {A : Around} {a S : Addr} {g : Nat}
/-- the consumer writes its own list at S -/
theorem GS.put {j : Nat} {s : Shared} {h' : Heap} {tk : Nat} (hpn : Y.pn = []) (hSL : S ∈ L) (haS : a ≠ S) (hS0 : Y.s_0.heap.objs.size ≤ S) (hLf : ∀ b ∈ fp, b ∉ L) (tk_ : ∀ i h h2, tn i h → (∀ b ∈ fp, ∀ o, h.get? b = some o → h2.get? b = some o) → tn i h2)
    (h : GS Y L fp σw tn Pv n pz F A a g j s) (k : ∀ b o, b ≠ S → s.heap.get? b = some o → h'.get? b = some o) (new : ∃ o, h'.get? S = some o ∧ ∀ v, o.data ≠ .cell v) :
    GS Y L fp σw tn Pv n pz F A a g j { s with heap := h', toks := tk } := by
  obtain ⟨H, I, st, nf, pv⟩ := h.at_
  obtain ⟨oS, eS⟩ := h.objs S hSL
  obtain ⟨_, p2, p3, p4, p5⟩ := I.pin (S, oS) (List.mem_append_right _ (mem_pinsAt hSL eS))
  have pS : H S = none := p2
  obtain ⟨oN, eN, dN⟩ := new
  have nS : ∀ b u, H b = some u → b ≠ S := fun b u e z => by rw [z, pS] at e; cases e
  have cS : ∀ x c, Y.env.cells.lookup x = some c → c ≠ S := fun x c e z => by
    obtain ⟨v, o, ho, hd⟩ := I.cell x c e
    rw [z, eS] at ho
    cases ho
    exact p5 _ hd
  have I0 : Inv Y [] σw H s := pins_nil I
  have J : Inv Y [] σw H { s with heap := h', toks := tk } := by
    refine I0.step (g' := s.gens) (d' := s.drawn) (ch := [S]) (fun b hb => ?_) (fun b o _ _ hc e _ => k b o (fun z => hc (by simp [z])) e) (fun b o _ _ hc e _ => ⟨o.slots, k b o (fun z => hc (by simp [z])) e⟩) (fun _ _ _ _ m => m)
      (fun b o hc e => ⟨o, k b o (fun z => hc (by simp [z])) e⟩) (fun _ _ e => e) (fun _ _ _ e => e) (fun b ps e => ⟨#[], by rw [e]; simp⟩) (fun m hm => ?_) (fun b u e => ?_) I.bare
    · have e : b = S := by simpa using hb
      subst e
      refine ⟨.inr hS0, p3, cS, fun p hp => ?_⟩
      rw [hpn] at hp
      exact nomatch hp
    · obtain ⟨o, es, ep, ho, r⟩ := hm
      exact ⟨o, es, ep, k _ o (Ne.symm p3) ho, r⟩
    · refine (I.hok b u e).stay (fun c v hc q => k c v ?_ q) (fun _ q => q) fun _ _ q => q
      rcases hc with z | z
      · rw [z]; exact nS b u e
      · exact nS c _ z
  refine ⟨?_, fun b hb => ?_, ⟨H, J.pins_of fun p hp => ?_, tk_ _ _ _ st fun b hb o e => k b o (fun z => hLf b hb (by rw [z]; exact hSL)) e, nf, pv⟩, h.go⟩
  · obtain ⟨o, nm, qn, ho, r⟩ := h.gen
    exact ⟨o, nm, qn, k a o haS ho, r⟩
  · by_cases z : b = S
    · rw [z]
      exact ⟨oN, eN⟩
    · obtain ⟨o, e⟩ := h.objs b hb
      exact ⟨o, k b o z e⟩
  · obtain ⟨h1, h2⟩ := of_pinsAt hp
    have h2 : h'.get? p.1 = some p.2 := h2
    by_cases z : p.1 = S
    · rw [z] at h2 ⊢
      rw [eN] at h2
      cases h2
      exact ⟨eN, pS, p3, p4, dN⟩
    · obtain ⟨o, e⟩ := h.objs p.1 h1
      have e2 := k p.1 o z e
      rw [h2] at e2
      have e3 := Option.some.inj e2
      obtain ⟨q1, q2, q3, q4, q5⟩ := I.pin (p.1, o) (List.mem_append_right _ (mem_pinsAt h1 e))
      exact ⟨h2, q2, q3, q4, by rw [e3]; exact q5⟩
abbrev sumObj (i : Int) (t : Tok) (c : Nat) : Obj := { cls := .type "list", dict := none, data := .seq #[.int i t] c, slots := #[] }
theorem sum_gx {f : Nat → Int} {val : Nat → Int} {R : Result → Shared → Prop} (hpn : Y.pn = []) (hSL : S ∈ L) (haS : a ≠ S) (hS0 : Y.s_0.heap.objs.size ≤ S) (hLf : ∀ b ∈ fp, b ∉ L) (tk_ : ∀ i h h2, tn i h → (∀ b ∈ fp, ∀ o, h.get? b = some o → h2.get? b = some o) → tn i h2)
    (hh : A.in1.handled = none) (hroom : A.in1.depth < recursionLimit) (haL : a ∈ L) (hF : F = fun i => .int (f i)) (hval : ∀ j i, (passing pz n 0)[j]? = some i → val j = f i) (hfit : ∀ j, j < (passing pz n 0).length → InLong (val j) ∧ InLong (preSum val (j + 1))) :
    ∀ (k j : Nat) (s : Shared) (tA : Tok) (c : Nat), (passing pz n 0).length - j = k → j ≤ (passing pz n 0).length → GS Y L fp σw tn Pv n pz F A.in1 a g j s → s.heap.get? S = some (sumObj (preSum val j) tA c) →
    (∀ s' t' H, Inv Y [] σw H s' → Pv n H → R (.ok (.ret (.int (preSum val (passing pz n 0).length) t'))) s') → codeAny (model Y.prog Y.w) A (.builtin "sum.loop" ⟨[.ref a, .ref S, rawInt 0, rawInt 0], []⟩) R s := by
  intro k
  induction k with
  | zero =>
    intro j s tA c hk hj hst hS hR
    have hin : j = (passing pz n 0).length := by omega
    subst hin
    refine codeAny_builtin PySem.F.entry_sum_loop ?_
    rw [Around.under_plainId PySem.F.plain_sum_loop _]
    show wpAny _ A.in1 (seqItems? (.ref S) >>= _) _ _ s
    refine wpAny_bind (wpAny_seqItems hS rfl ?_)
    show wpAny _ A.in1 (tryCatch (pyNext (.ref a)) _ >>= _) _ _ s
    refine wpAny_bind (wpAny_tryCatch (done_gx hh hroom hst fun s' H I pv => ?_))
    exact wpAny_pure (hR s' tA H (pins_nil I) pv)
  | succ k ih =>
    intro j s tA c hk hj hst hS hR
    have hlt : j < (passing pz n 0).length := by omega
    refine codeAny_builtin PySem.F.entry_sum_loop ?_
    rw [Around.under_plainId PySem.F.plain_sum_loop _]
    show wpAny _ A.in1 (seqItems? (.ref S) >>= _) _ _ s
    refine wpAny_bind (wpAny_seqItems hS rfl ?_)
    show wpAny _ A.in1 (tryCatch (pyNext (.ref a)) _ >>= _) _ _ s
    refine wpAny_bind (wpAny_tryCatch (next_gx hh hroom haL hlt hst fun v i s' hi rv hst' pin => ?_))
    rw [hF] at rv
    obtain ⟨t, rfl⟩ : ∃ t, v = Value.int (f i) t := rv
    rw [← hval j i hi]
    have hS' := pin S hSL _ hS
    obtain ⟨⟨f1, f2⟩, f3, f4⟩ := hfit j hlt
    have hc : ((decide (-(2 ^ 63) ≤ val j) && decide (val j < 2 ^ 63)) && (decide (-(2 ^ 63) ≤ preSum val j + val j) && decide (preSum val j + val j < 2 ^ 63))) = true := by
      simp only [preSum] at f3 f4
      simp only [Bool.and_eq_true, decide_eq_true_eq]
      exact ⟨⟨f1, f2⟩, f3, f4⟩
    show wpAny _ A.in1 (if (_ : Bool) = true then (mkInt (preSum val j + val j) >>= _) else _) _ _ _
    split
    · refine wpAny_bind (wpAny_mkInt ?_)
      show wpAny _ A.in1 (updateSeq S (fun _ => #[.int (preSum val j + val j) s'.toks]) >>= _) _ _ _
      refine wpAny_bind ?_
      refine wpAny_updateSeq hS' rfl (wpAny_pure ⟨plainId_quiet PySem.F.plain_sum_loop _, ih (j + 1) _ s'.toks _ (by omega) hlt ?_ (Heap.get?_update_self _ hS' rfl) hR⟩)
      exact GS.put (s := s') (tk := s'.toks + 1) hpn hSL haS hS0 hLf tk_ hst' (fun b o hb e => (Heap.get?_update_other _ _ (Ne.symm hb)).trans e) ⟨_, Heap.get?_update_self _ hS' rfl, fun v z => by cases z⟩
    · rename_i hneg
      exact absurd hc hneg
end
theorem preSum_take (f : Nat → Int) (l : List Nat) : ∀ j, j ≤ l.length → preSum (fun j => f (l.getD j 0)) j = ((l.take j).map f).sum
  | 0, _ => rfl
  | j + 1, h => by
    have e : l[j]? = some (l[j]'h) := List.getElem?_eq_getElem _
    rw [preSum, preSum_take f l j (Nat.le_of_succ_le h), List.take_add_one, e, List.map_append, List.sum_append, List.getD_eq_getElem?_getD, e]
    simp
theorem sum_bound {f : Nat → Int} {B : Nat} : ∀ l : List Nat, (∀ i ∈ l, (f i).natAbs ≤ B) → ((l.map f).sum).natAbs ≤ l.length * B
  | [], _ => by simp
  | i :: l, h => by
    have h1 := h i List.mem_cons_self
    have h2 := sum_bound l fun k hk => h k (List.mem_cons_of_mem _ hk)
    rw [List.map_cons, List.sum_cons, List.length_cons, Nat.succ_mul]
    exact Nat.le_trans (Int.natAbs_add_le _ _) (by omega)
/-! ### the rules -/
/-- a generator expression's own scope -/
def gxOk (scope : Scope) : Bool := decide (scope.kind = .function) && (!scope.isCoroutine && (scope.names.all (fun y => decide (y.2 ≠ .cell)) && decide (scope.names.lookup (".0" : Str) = some NameKind.local)))
structure GxOk (scope : Scope) : Prop where
  kind : scope.kind = .function
  co : scope.isCoroutine = false
  nc : ∀ y ∈ scope.names, y.2 ≠ .cell
  dot : scope.names.lookup (".0" : Str) = some NameKind.local
theorem gx_ok {scope : Scope} (h : gxOk scope = true) : GxOk scope := by
  obtain ⟨h1, h⟩ := Bool.and_eq_true_iff.mp h
  obtain ⟨h2, h⟩ := Bool.and_eq_true_iff.mp h
  obtain ⟨h3, h4⟩ := Bool.and_eq_true_iff.mp h
  exact ⟨of_decide_eq_true h1, by simpa using h2, fun y hy => of_decide_eq_true (List.all_eq_true.mp h3 y hy), of_decide_eq_true h4⟩
theorem room_gx {k : Nat} {A : Around} {env : Env} (r : Room (k + 1) A) : Room k (A.in1.in1.deeper env) :=
  ⟨r.hd, by have := r.dp; show A.depth + 1 + 3 * k + 5 < _; omega, by have := r.un; show A.units + 1 + 1 + 3 + 16 * k + 200 < _; omega⟩
section
variable {X : Cx}
/-- the generator at a is made and has not begun: it can be walked by a consumer that pins what stands at L a -/
structure GMd (X : Cx) (pins : List (Addr × Obj)) (σ : L2.St) (Pv : Nat → Hp → Prop) (n : Nat) (pz : Nat → Bool) (F : Nat → V) (vs : List Nat) (L : Addr → List Addr) (a : Addr) (s : Shared) : Prop where
  ex : ∃ (Y : Cx) (fp : List Addr) (tn : Nat → Heap → Prop) (g : Nat) (go : Obj), Y.prog = X.prog ∧ Y.w = X.w ∧ Y.pn = [] ∧ Y.s_0.heap.objs.size < a ∧ s.heap.objs.size = a + 1 ∧ s.heap.get? a = some go ∧ (∀ v, go.data ≠ .cell v) ∧ s.heap.IsGen a g ∧
    (∀ b ∈ fp, b < a) ∧ (∀ i h h2, tn i h → (∀ b ∈ fp, ∀ o, h.get? b = some o → h2.get? b = some o) → tn i h2) ∧
    (∃ H, Inv Y [(a, go)] (wipe σ vs) H s ∧ tn 0 s.heap ∧ (∀ b ∈ fp, H b = none) ∧ Pv 0 H) ∧
    (∃ gs, s.gens[g]? = some gs ∧ ∀ s2, GAt Y (L a) fp (wipe σ vs) tn Pv 0 s2 → gs.Goes (model Y.prog Y.w) X.A.in1.in1 (GEnd Y (L a) (wipe σ vs) Pv n) (GYld Y (L a) fp (wipe σ vs) tn Pv n pz F) (passing pz n 0).length (.send .none) s2) ∧
    ∀ s' H, Inv Y [] (wipe σ vs) H s' → Inv X pins σ H s'
def tGx (P : Addr) (wi : TI) (g : TG) (tt : TT) (te : TE) (vs : List Nat) (σ : L2.St) (H : Hp) (K : Nat → (Nat → Bool) → (Nat → V) → (Nat → Hp → Prop) → Prop) : Prop :=
  wi σ H fun J H1 => H1 P = some (TabO P) ∧ ∃ (n : Nat) (pz : Nat → Bool) (F : Nat → V) (Pv : Nat → Hp → Prop), Pv 0 H1 ∧ (∀ i H, i < n → Pv i H → J.go i H) ∧ (∀ H, Pv n H → J.stop n H) ∧ GStep J g tt te σ vs Pv n pz F ∧ K n pz F Pv
theorem make_gx {c P : Addr} {elt tg iter : Expr} {ifs : List Expr} {scope : Scope} {own : List (Str × Nat)} {gpos : Pos} {wi : TI} {g : TG} {tt : TT} {te : TE} {k : Nat} {pins : List (Addr × Obj)} {s : Shared} {σ : L2.St} {H : Hp} {Q' : Value → Shared → Prop} (L : Addr → List Addr)
    {Kk : Nat → (Nat → Bool) → (Nat → V) → (Nat → Hp → Prop) → Prop} (hL : ∀ a, ∀ b ∈ L a, a ≤ b)
    (hr : Room k X.A) (hN : X.N.Nodup) (TB : GxR.TabB X.base X.mg c P) (hcode : X.env.code = .ref c) (hi : PI X tg iter wi) (ok : BlkOk X.N X.env.scope scope own) (S : GxOk scope)
    (pg : ∀ (s : Shared) (H : Hp) (C : Addr) (code : Value) (fp : List Addr), PG (gblk X s H (gxEnv X scope C code) fp) tg g) (pt : ∀ (s : Shared) (H : Hp) (C : Addr) (code : Value) (fp : List Addr), PTs (gblk X s H (gxEnv X scope C code) fp) ifs tt)
    (pe : ∀ (s : Shared) (H : Hp) (C : Addr) (code : Value) (fp : List Addr), PE (gblk X s H (gxEnv X scope C code) fp) elt te)
    (hs : ∀ v, genFold iter X.env v = pure v) (I : Inv X pins σ H s) (h : tGx P wi g tt te (own.map (·.2)) σ H Kk)
    (hQ : ∀ n pz F Pv a s5, Kk n pz F Pv → GMd X pins σ Pv n pz F (own.map (·.2)) L a s5 → Q' (.ref a) s5) :
    wpAny (model X.prog X.w) X.A (eval (gxE elt tg iter ifs scope gpos) X.env) Q' X.xe s := by
  have hfree : ∀ y ∈ scope.names, y.2 = .free → ∃ c, X.env.cells.lookup y.1 = some c := fun y hy e => by
    rcases ok.free y hy e with k | k
    · exact I.ok.has _ (.inl k)
    · exact I.ok.has _ (.inr k)
  refine wpAny_GeneratorExp_make S.co (closure_ok hfree) S.nc S.dot S.kind (by have := hr.dp; omega) ?_ hs
  refine thn (hi.run pins s σ H _ I h) fun xv s1 hx => thn hx fun itv s2 h2 => ?_
  obtain ⟨it, fp, tn, J, H2, rfl, I2, T, st2, f2, hP, n, pz, F, Pv, p0, go, stop, step, kk⟩ := h2
  obtain ⟨⟨ps, hPs, ht⟩, _, _⟩ := (show ObjOk X.prog X.w H2 s2.heap P (TabO P) from I2.hok P _ hP)
  have cd : PySem.W.CodeHd s2.heap c P := TB.code.keeps fun b u e => I2.bk b u e
  have sz : ∀ b ∈ fp, b < s2.heap.objs.size := fun b hb => by
    obtain ⟨o, e, _⟩ := T.obj _ _ st2 b hb
    exact Heap.lt_size e
  have nPf : ∀ b ∈ fp, b ≠ P := fun b hb z => by
    have := (f2 b hb).1
    rw [z, hP] at this
    cases this
  have cont : ∀ (code : Value) (h3 : Heap) (tk : Nat), Heap.ExtBut P s2.heap h3 → s2.heap.objs.size ≤ h3.objs.size → tabP P h3 →
      wpAny (model X.prog X.w) X.A (builtinsFor X.env.globals X.env.builtins) (fun bi s4 => ∀ h', h'.Ns s4.heap.objs.size (fun y => if y = ".0" then some (.ref it) else none) → Heap.SameBut s4.heap.objs.size (s4.heap.push { cls := .type "frame", data := .dict #[] }) h' →
          Q' (.ref h'.objs.size) { s4 with
            gens := s4.gens.push (.fresh (.compStart (gxE elt tg iter ifs scope gpos) 0 (.ref it) .none (genEnv scope (cloFrom X.env.cells scope.names []) s4.heap.objs.size code bi X.env))),
            toks := s4.toks + 1 + 1 + 1,
            heap := h'.push { cls := .type "generator", data := .fields #[.int s4.gens.size 0, .str "<genexpr>" (s4.toks + 1), .str (X.env.qual ++ "<genexpr>") (s4.toks + 1 + 1)] } }) X.xe { s2 with heap := h3, toks := tk } := by
    intro code h3 tk hx hsz hP3
    obtain ⟨bm, ob, e1, e2, e3, e4, e5, e6, e7, e8⟩ := TB.bm
    have keep3 : ∀ b u, b ≠ P → s2.heap.get? b = some u → h3.get? b = some u := fun b u hb e => hx b u hb e
    refine wpAny_builtinsFor (m := X.mg) (by rw [I2.ok.glob]; exact (I2.mod.glob.keeps I2.bk).extBut hx TB.gP) e1 e2 (keep3 _ _ e4 (I2.bk _ _ e5)) e6 e7 e8 ?_
    have I3 : Inv X pins σ H2 { s2 with heap := h3, toks := tk } := inv_tabO I2 hP keep3 hP3
    have st3 : tn 0 h3 := T.keep _ _ _ st2 fun b hb o e => keep3 b o (nPf b hb) e
    generalize hs3 : ({ s2 with heap := h3, toks := tk } : Shared) = s3 at I3 ⊢
    have eh3 : s3.heap = h3 := by rw [← hs3]
    intro h' hn' hs'
    have hsz' : h'.objs.size = s3.heap.objs.size + 1 := by rw [hs'.1, Heap.size_push]
    have keep' : ∀ b o, s3.heap.get? b = some o → h'.get? b = some o := fun b o e => hs'.extBut b o (Nat.ne_of_lt (Heap.lt_size e)) (Heap.get?_push_of_some _ e)
    generalize hgo : ({ cls := .type "generator", data := .fields #[.int s3.gens.size 0, .str "<genexpr>" (s3.toks + 1), .str (X.env.qual ++ "<genexpr>") (s3.toks + 1 + 1)] } : Obj) = gob
    have keep5 : ∀ b o, s3.heap.get? b = some o → (h'.push gob).get? b = some o := fun b o e => Heap.get?_push_of_some _ (keep' b o e)
    have hfp3 : ∀ b ∈ fp, FpOk X pins H2 b ∧ b < s3.heap.objs.size := fun b hb => ⟨f2 b hb, by rw [eh3]; exact Nat.lt_of_lt_of_le (sz b hb) hsz⟩
    have hga : (h'.push gob).get? h'.objs.size = some gob := by rw [← hgo]; exact Heap.get?_push_size _ rfl
    have I5 := gblk_start (code := code) (G5 := s3.gens.push (.fresh (.compStart (gxE elt tg iter ifs scope gpos) 0 (.ref it) .none (gxEnv X scope s3.heap.objs.size code)))) (tk := s3.toks + 1 + 1 + 1) (h5 := h'.push gob) (a := h'.objs.size) (go := gob) I3 ok S.nc hN hr.hd hfp3 keep5 (hn'.push _) (I3.bare.push rfl) hga (by rw [hsz']; exact Nat.lt_succ_self _)
      (fun v z => by rw [← hgo] at z; cases z)
    refine hQ n pz F Pv _ _ kk ⟨gblk X s3 H2 (gxEnv X scope s3.heap.objs.size code) fp, fp, tn, s3.gens.size, gob, rfl, rfl, rfl, ?_, ?_, hga, (fun v z => by rw [← hgo] at z; cases z), ?_, fun b hb => ?_, fun i h h2 => T.keep i h h2, ⟨H2, I5, ?_, fun b hb => (f2 b hb).1, p0⟩, ⟨.fresh (.compStart (gxE elt tg iter ifs scope gpos) 0 (.ref it) .none (gxEnv X scope s3.heap.objs.size code)), ?_, fun s6 h6 => ⟨rfl, ?_⟩⟩, fun s' H' J' => ?_⟩
    · show s3.heap.objs.size < h'.objs.size
      rw [hsz']; exact Nat.lt_succ_self _
    · show (h'.push gob).objs.size = _
      rw [Heap.size_push]
    · exact ⟨gob, _, _, hga, by rw [← hgo], by rw [← hgo], by rw [← hgo]⟩
    · rw [hsz']
      exact Nat.lt_succ_of_lt (hfp3 b hb).2
    · exact T.keep _ _ _ st3 fun b _ o e => keep5 b o (by rw [eh3]; exact e)
    · exact Array.getElem?_push_size ..
    · refine seg_gx0 (Y := gblk X s3 H2 (gxEnv X scope s3.heap.objs.size code) fp) (A := X.A.in1.in1) rfl rfl rfl rfl S.co T (pg _ _ _ _ _) (pt _ _ _ _ _) (pe _ _ _ _ _) (fun b hb => hb) (fun b hb z => ?_) go stop step s6 h6
      have h1 := hL _ b z
      have h2 := (hfp3 b hb).2
      rw [hsz'] at h1
      exact absurd (Nat.lt_of_lt_of_le h2 (Nat.le_of_succ_le h1)) (Nat.lt_irrefl _)
    · exact I3.call' (ch := fp) J'.os J'.base J'.hok J'.bare fun b hb => ⟨(f2 b hb).2.2.2.1, (f2 b hb).2.1, (f2 b hb).2.2.2.2.1, (f2 b hb).2.2.2.2.2⟩
  refine ⟨I2.nolimit, ?_⟩
  cases hf : codeAmong gpos ps.toList with
  | none =>
    refine wpAny_genexprCodeX hcode (cd.code hPs ht) (cd.tab hPs) hf fun c' h' tk hx hge hlt hco' _ htab' _ => ?_
    obtain ⟨o1, vs, f1, tf, fl, tg', inF, tx, tt', op, _, _, _, _, _, _, _, _, _, htr, _⟩ := hco'
    exact cont _ h' tk hx (Nat.le_trans hge (Nat.le_of_lt hlt)) ⟨_, htab'.2, htr⟩
  | some cv =>
    refine wpAny_genexprCode_hit hcode (cd.code hPs ht) hf ?_
    exact cont cv s2.heap s2.toks (Heap.ExtBut.refl _ _) (Nat.le_refl _) ⟨ps, hPs, ht⟩
/-- all(e for .. in .. if ..) -/
def tAllG (P : Addr) (wi : TI) (g : TG) (tt : TT) (te : TE) (vs : List Nat) : TE := fun σ H Q => tGx P wi g tt te vs σ H fun n pz F Pv => ∃ f : Nat → Bool, (F = fun i => .bl (f i)) ∧ ∀ i H, i ≤ n → Pv i H → Q (.bl (((List.range n).filter pz).all f)) H
def tAnyG (P : Addr) (wi : TI) (g : TG) (tt : TT) (te : TE) (vs : List Nat) : TE := fun σ H Q => tGx P wi g tt te vs σ H fun n pz F Pv => ∃ f : Nat → Bool, (F = fun i => .bl (f i)) ∧ ∀ i H, i ≤ n → Pv i H → Q (.bl (((List.range n).filter pz).any f)) H
def tSumG (P : Addr) (wi : TI) (g : TG) (tt : TT) (te : TE) (vs : List Nat) : TE := fun σ H Q => tGx P wi g tt te vs σ H fun n pz F Pv => ∃ (f : Nat → Int) (B : Nat), (F = fun i => .int (f i)) ∧ n * B < 2 ^ 63 ∧ (∀ i, i < n → (f i).natAbs ≤ B) ∧ ∀ H, Pv n H → Q (.int ((((List.range n).filter pz).map f).sum)) H
/-- a generator just made, seen by all or any -/
theorem GMd.gs1 {pins : List (Addr × Obj)} {σ : L2.St} {Pv : Nat → Hp → Prop} {n : Nat} {pz : Nat → Bool} {F : Nat → V} {vs : List Nat} {a : Addr} {s : Shared} (G : GMd X pins σ Pv n pz F vs (fun a => [a]) a s) :
    s.heap.NoLimit ∧ (∃ g, s.heap.IsGen a g) ∧ ∃ (Y : Cx) (fp : List Addr) (tn : Nat → Heap → Prop) (g : Nat), Y.prog = X.prog ∧ Y.w = X.w ∧ GS Y [a] fp (wipe σ vs) tn Pv n pz F X.A.in1 a g 0 s ∧ ∀ s' H, Inv Y [] (wipe σ vs) H s' → Inv X pins σ H s' := by
  obtain ⟨Y, fp, tn, g, go, e1, e2, e3, e4, e5, e6, e7, e8, e9, e10, ⟨H, I, st, nf, pv⟩, ⟨gs, h1, h2⟩, back⟩ := G.ex
  refine ⟨I.nolimit, ⟨g, e8⟩, Y, fp, tn, g, e1, e2, ⟨e8, fun b hb => ?_, ⟨H, ?_, st, nf, pv⟩, gs, h1, h2⟩, back⟩
  · rw [List.mem_singleton.mp hb]
    exact ⟨go, e6⟩
  · have e : pinsAt [a] s.heap = [(a, go)] := by
      unfold pinsAt
      rw [List.filterMap_cons, e6]
      rfl
    rw [e]
    exact I
theorem all_made {pins : List (Addr × Obj)} {σ : L2.St} {Pv : Nat → Hp → Prop} {n : Nat} {pz : Nat → Bool} {F : Nat → V} {vs : List Nat} {a : Addr} {s : Shared} {k : Nat} {f : Nat → Bool} {Q : VK} (hr : Room k X.A) (G : GMd X pins σ Pv n pz F vs (fun a => [a]) a s)
    (hF : F = fun i => .bl (f i)) (hQ : ∀ i H, i ≤ n → Pv i H → Q (.bl (((List.range n).filter pz).all f)) H) : wpAny (model X.prog X.w) X.A (call (.builtin "all") [.ref a]) (EP X pins σ Q) X.xe s := by
  obtain ⟨lim, ⟨g0, isg⟩, Y, fp, tn, g, ep, ew, gs, back⟩ := G.gs1
  refine call_function_tree PySem.F.kind_all PySem.F.plain_all PySem.F.entry_all (PySem.F.args_all1 _) ?_
  unfold Builtin.«all»
  refine wpAny_bind (m := oneArg "all" _) (wpAny_pure ?_)
  refine wpAny_bind (wpAny_pyIter_gen isg ?_)
  have hd : X.A.in1.depth < recursionLimit := hr.depth
  have L := all_gx (A := X.A) (f := f) (R := fun r s' => match r with | .ok (.ret v) => EP X pins σ Q v s' | .ok _ => False | .error e => X.xe e s') hr.hd hd List.mem_cons_self hF (passing pz n 0).length 0 s rfl (Nat.zero_le _) gs
    (fun s' i H hi I pv => ⟨.bl _, H, back s' H I, rfl, hQ i H hi pv⟩)
  rw [ep, ew] at L
  exact wpAny_pure ⟨plainId_quiet PySem.F.plain_all_loop _, L⟩
theorem any_made {pins : List (Addr × Obj)} {σ : L2.St} {Pv : Nat → Hp → Prop} {n : Nat} {pz : Nat → Bool} {F : Nat → V} {vs : List Nat} {a : Addr} {s : Shared} {k : Nat} {f : Nat → Bool} {Q : VK} (hr : Room k X.A) (G : GMd X pins σ Pv n pz F vs (fun a => [a]) a s)
    (hF : F = fun i => .bl (f i)) (hQ : ∀ i H, i ≤ n → Pv i H → Q (.bl (((List.range n).filter pz).any f)) H) : wpAny (model X.prog X.w) X.A (call (.builtin "any") [.ref a]) (EP X pins σ Q) X.xe s := by
  obtain ⟨lim, ⟨g0, isg⟩, Y, fp, tn, g, ep, ew, gs, back⟩ := G.gs1
  refine call_function_tree PySem.F.kind_any PySem.F.plain_any PySem.F.entry_any (PySem.F.args_any1 _) ?_
  unfold Builtin.«any»
  refine wpAny_bind (m := oneArg "any" _) (wpAny_pure ?_)
  refine wpAny_bind (wpAny_pyIter_gen isg ?_)
  have hd : X.A.in1.depth < recursionLimit := hr.depth
  have L := any_gx (A := X.A) (f := f) (R := fun r s' => match r with | .ok (.ret v) => EP X pins σ Q v s' | .ok _ => False | .error e => X.xe e s') hr.hd hd List.mem_cons_self hF (passing pz n 0).length 0 s rfl (Nat.zero_le _) gs
    (fun s' i H hi I pv => ⟨.bl _, H, back s' H I, rfl, hQ i H hi pv⟩)
  rw [ep, ew] at L
  exact wpAny_pure ⟨plainId_quiet PySem.F.plain_any_loop _, L⟩
theorem sum_made {pins : List (Addr × Obj)} {σ : L2.St} {Pv : Nat → Hp → Prop} {n : Nat} {pz : Nat → Bool} {F : Nat → V} {vs : List Nat} {a : Addr} {s : Shared} {k : Nat} {f : Nat → Int} {B : Nat} {Q : VK} (hr : Room k X.A) (G : GMd X pins σ Pv n pz F vs (fun a => [a, a + 1]) a s)
    (hF : F = fun i => .int (f i)) (hB : n * B < 2 ^ 63) (hf : ∀ i, i < n → (f i).natAbs ≤ B) (hQ : ∀ H, Pv n H → Q (.int ((((List.range n).filter pz).map f).sum)) H) : wpAny (model X.prog X.w) X.A (call (.builtin "sum") [.ref a]) (EP X pins σ Q) X.xe s := by
  obtain ⟨Y, fp, tn, g, go, ep, ew, epn, es0, esz, ega, ego, isg, hfp, tkeep, ⟨H, I, st, nf, pv⟩, ⟨gs, h1, h2⟩, back⟩ := G.ex
  refine call_function_tree PySem.F.kind_sum PySem.F.plain_sum PySem.F.entry_sum (PySem.F.args_sum1 _) ?_
  unfold Builtin.«sum»
  simp only [List.length_cons, List.length_nil]
  rw [if_neg (by decide)]
  refine wpAny_bind (wpAny_of_eq (show Builtin.Builtins.bindParams "sum" ["start"] 0 { } = pure [none] from rfl) ?_)
  refine wpAny_bind (wpAny_pyIter_gen isg ?_)
  refine wpAny_bind (wpAny_mkInt ?_)
  refine wpAny_bind (wpAny_pure ?_)
  simp only [List.forIn_cons, List.forIn_nil]
  refine wpAny_bind (wpAny_bind (wpAny_bind (wpAny_isInstance (T := "int") (b := false) (typeIs_int _ _ _) PySem.sub_int_str ?_)))
  simp only [Bool.false_eq_true, if_false]
  refine wpAny_pure (wpAny_bind (wpAny_bind (wpAny_isInstance (T := "int") (b := false) (typeIs_int _ _ _) PySem.sub_int_bytes ?_)))
  simp only [Bool.false_eq_true, if_false]
  refine wpAny_pure (wpAny_bind (wpAny_bind (wpAny_isInstance (T := "int") (b := false) (typeIs_int _ _ _) PySem.sub_int_bytearray ?_)))
  simp only [Bool.false_eq_true, if_false]
  refine wpAny_pure (wpAny_pure ?_)
  refine wpAny_bind (wpAny_newObj_type ?_)
  have hd : X.A.in1.depth < recursionLimit := hr.depth
  have le : (passing pz n 0).length ≤ n := by
    unfold passing
    exact Nat.le_trans (List.length_filter_le _ _) (by simp)
  have inr : ∀ i ∈ passing pz n 0, i < n := fun i hi => by
    unfold passing at hi
    exact List.mem_range.mp (List.mem_filter.mp hi).1
  have bnd : ∀ l : List Nat, (∀ i ∈ l, i < n) → l.length ≤ n → InLong ((l.map f).sum) := fun l hl hn => by
    have b1 := sum_bound (f := f) (B := B) l fun i hi => hf i (hl i hi)
    have b2 : l.length * B ≤ n * B := Nat.mul_le_mul_right _ hn
    unfold InLong
    omega
  have hSz : s.heap.objs.size = a + 1 := esz
  have gs0 : GS Y [a, a + 1] fp (wipe σ vs) tn Pv n pz F X.A.in1 a g 0 { s with heap := s.heap.push { cls := .type "list", data := .seq #[.int 0 s.toks] }, toks := s.toks + 1 } := by
    have kp : ∀ b o, s.heap.get? b = some o → (s.heap.push { cls := .type "list", data := .seq #[.int 0 s.toks] }).get? b = some o := fun b o e => Heap.get?_push_of_some _ e
    have eS : (s.heap.push { cls := .type "list", data := .seq #[.int 0 s.toks] }).get? (a + 1) = some { cls := .type "list", data := .seq #[.int 0 s.toks] } := by rw [← hSz]; exact Heap.get?_push_size _ rfl
    have J : Inv Y [(a, go)] (wipe σ vs) H { s with heap := s.heap.push { cls := .type "list", data := .seq #[.int 0 s.toks] }, toks := s.toks + 1 } := I.kept kp
    have eP : pinsAt [a, a + 1] (s.heap.push { cls := .type "list", data := .seq #[.int 0 s.toks] }) = [(a, go), (a + 1, { cls := .type "list", data := .seq #[.int 0 s.toks] })] := by
      unfold pinsAt
      rw [List.filterMap_cons, kp a go ega]
      show (a, go) :: List.filterMap _ [a + 1] = _
      rw [List.filterMap_cons, eS]
      rfl
    refine ⟨?_, fun b hb => ?_, ⟨H, ?_, tkeep _ _ _ st fun b _ o e => kp b o e, nf, pv⟩, gs, h1, h2⟩
    · obtain ⟨o, nm, qn, ho, r⟩ := isg
      exact ⟨o, nm, qn, kp a o ho, r⟩
    · rcases List.mem_cons.mp hb with z | z
      · rw [z]
        exact ⟨go, kp a go ega⟩
      · rw [List.mem_singleton.mp z]
        exact ⟨_, eS⟩
    · show Inv Y (pinsAt [a, a + 1] (s.heap.push { cls := .type "list", data := .seq #[.int 0 s.toks] })) _ _ _
      rw [eP]
      refine J.pins_of fun p hp => ?_
      rcases List.mem_cons.mp hp with z | z
      · rw [z]
        exact J.pin (a, go) (List.mem_append_right _ List.mem_cons_self)
      · rw [List.mem_singleton.mp z]
        have fr : H (a + 1) = none := I.hok.fresh (Nat.le_of_eq hSz)
        refine ⟨eS, fr, fun z => ?_, I.nofs (Nat.le_of_eq hSz), fun v z => by cases z⟩
        have := I.lt
        rw [hSz] at this
        have z : a + 1 = Y.env.locals := z
        rw [← z] at this
        exact Nat.lt_irrefl _ this
  have L := sum_gx (A := X.A) (a := a) (S := a + 1) (f := f) (val := fun j => f ((passing pz n 0).getD j 0)) (R := fun r s' => match r with | .ok (.ret v) => EP X pins σ Q v s' | .ok _ => False | .error e => X.xe e s') epn (by simp) (Nat.ne_of_lt (Nat.lt_succ_self a)) (Nat.le_of_lt (Nat.lt_succ_of_lt es0))
    (fun b hb z => by
      have h3 := hfp b hb
      rcases List.mem_cons.mp z with z | z
      · rw [z] at h3; exact Nat.lt_irrefl _ h3
      · rw [List.mem_singleton.mp z] at h3; exact absurd (Nat.lt_trans h3 (Nat.lt_succ_self a)) (Nat.lt_irrefl _)) tkeep hr.hd hd (by simp) hF
    (fun j i hi => by
      show f ((passing pz n 0).getD j 0) = f i
      rw [List.getD_eq_getElem?_getD, hi]
      rfl)
    (fun j hj => ⟨by
      have e : (passing pz n 0)[j]? = some ((passing pz n 0)[j]'hj) := List.getElem?_eq_getElem _
      show InLong (f ((passing pz n 0).getD j 0))
      rw [List.getD_eq_getElem?_getD, e]
      have hm := inr _ (List.getElem_mem hj)
      have := bnd [(passing pz n 0)[j]'hj] (fun i hi => by rw [List.mem_singleton.mp hi]; exact hm) (by show 1 ≤ n; omega)
      simpa using this, by
      rw [preSum_take f _ _ hj]
      exact bnd _ (fun i hi => inr i (List.mem_of_mem_take hi)) (by rw [List.length_take]; omega)⟩)
    (passing pz n 0).length 0 _ s.toks 0 rfl (Nat.zero_le _) gs0 (by
      show (s.heap.push _).get? (a + 1) = _
      rw [← hSz]
      exact Heap.get?_push_size _ rfl)
    (fun s' t' H I pv => ⟨.int _, H, back s' H I, ⟨t', rfl⟩, by
      rw [preSum_take f _ _ (Nat.le_refl _), List.take_length]
      exact hQ H pv⟩)
  rw [ep, ew] at L
  rw [show s.heap.objs.size = a + 1 from hSz]
  exact wpAny_pure ⟨plainId_quiet PySem.F.plain_sum_loop _, L⟩
section
variable {c P : Addr} {elt tg iter : Expr} {ifs : List Expr} {scope : Scope} {own : List (Str × Nat)} {p pos gpos : Pos} {wi : TI} {g : TG} {tt : TT} {te : TE} {k : Nat}
theorem pe_allG (hr : Room k X.A) (hg : Gl X "all") (hm : X.mg "all" = none) (hN : X.N.Nodup) (TB : GxR.TabB X.base X.mg c P) (hcode : X.env.code = .ref c) (hi : PI X tg iter wi) (ok : BlkOk X.N X.env.scope scope own) (S : gxOk scope = true)
    (pg : ∀ (s : Shared) (H : Hp) (C : Addr) (code : Value) (fp : List Addr), PG (gblk X s H (gxEnv X scope C code) fp) tg g) (pt : ∀ (s : Shared) (H : Hp) (C : Addr) (code : Value) (fp : List Addr), PTs (gblk X s H (gxEnv X scope C code) fp) ifs tt)
    (pe : ∀ (s : Shared) (H : Hp) (C : Addr) (code : Value) (fp : List Addr), PE (gblk X s H (gxEnv X scope C code) fp) elt te)
    (hs : ∀ v, genFold iter X.env v = pure v := by intro _; rfl)
    (he : starEach [gxE elt tg iter ifs scope gpos] X.env = (false, eval (gxE elt tg iter ifs scope gpos) X.env) :: starEach [] X.env := by rfl) :
    PE X (.Call (.Name "all" p) [gxE elt tg iter ifs scope gpos] [] pos) (tAllG P wi g tt te (own.map (·.2))) := by
  refine ⟨fun pins s σ H Q I h => ?_⟩
  refine wpAny_Call_Name_kw (ld_blt I hg hm (show bootBuiltins "all" = some (.builtin "all") by decide +kernel) ?_)
  refine PyProof.Rows.callWith_builtin1 ?_ he (by rfl)
  rw [he]
  show wpAny _ _ (spliced ((false, eval (gxE elt tg iter ifs scope gpos) X.env) :: backTo pos (starEach [] X.env))) _ _ s
  refine Calls.spliced_cons (make_gx (fun a => [a]) (fun a b hb => by rw [List.mem_singleton.mp hb]; exact Nat.le_refl _) hr hN TB hcode hi ok (gx_ok S) pg pt pe hs I h fun n pz F Pv a s5 kk G => ?_)
  obtain ⟨f, hF, hQ⟩ := kk
  exact Calls.spliced_nil (all_made hr G hF hQ)
theorem pe_anyG (hr : Room k X.A) (hg : Gl X "any") (hm : X.mg "any" = none) (hN : X.N.Nodup) (TB : GxR.TabB X.base X.mg c P) (hcode : X.env.code = .ref c) (hi : PI X tg iter wi) (ok : BlkOk X.N X.env.scope scope own) (S : gxOk scope = true)
    (pg : ∀ (s : Shared) (H : Hp) (C : Addr) (code : Value) (fp : List Addr), PG (gblk X s H (gxEnv X scope C code) fp) tg g) (pt : ∀ (s : Shared) (H : Hp) (C : Addr) (code : Value) (fp : List Addr), PTs (gblk X s H (gxEnv X scope C code) fp) ifs tt)
    (pe : ∀ (s : Shared) (H : Hp) (C : Addr) (code : Value) (fp : List Addr), PE (gblk X s H (gxEnv X scope C code) fp) elt te)
    (hs : ∀ v, genFold iter X.env v = pure v := by intro _; rfl)
    (he : starEach [gxE elt tg iter ifs scope gpos] X.env = (false, eval (gxE elt tg iter ifs scope gpos) X.env) :: starEach [] X.env := by rfl) :
    PE X (.Call (.Name "any" p) [gxE elt tg iter ifs scope gpos] [] pos) (tAnyG P wi g tt te (own.map (·.2))) := by
  refine ⟨fun pins s σ H Q I h => ?_⟩
  refine wpAny_Call_Name_kw (ld_blt I hg hm (show bootBuiltins "any" = some (.builtin "any") by decide +kernel) ?_)
  refine PyProof.Rows.callWith_builtin1 ?_ he (by rfl)
  rw [he]
  show wpAny _ _ (spliced ((false, eval (gxE elt tg iter ifs scope gpos) X.env) :: backTo pos (starEach [] X.env))) _ _ s
  refine Calls.spliced_cons (make_gx (fun a => [a]) (fun a b hb => by rw [List.mem_singleton.mp hb]; exact Nat.le_refl _) hr hN TB hcode hi ok (gx_ok S) pg pt pe hs I h fun n pz F Pv a s5 kk G => ?_)
  obtain ⟨f, hF, hQ⟩ := kk
  exact Calls.spliced_nil (any_made hr G hF hQ)
theorem pe_sumG (hr : Room k X.A) (hg : Gl X "sum") (hm : X.mg "sum" = none) (hN : X.N.Nodup) (TB : GxR.TabB X.base X.mg c P) (hcode : X.env.code = .ref c) (hi : PI X tg iter wi) (ok : BlkOk X.N X.env.scope scope own) (S : gxOk scope = true)
    (pg : ∀ (s : Shared) (H : Hp) (C : Addr) (code : Value) (fp : List Addr), PG (gblk X s H (gxEnv X scope C code) fp) tg g) (pt : ∀ (s : Shared) (H : Hp) (C : Addr) (code : Value) (fp : List Addr), PTs (gblk X s H (gxEnv X scope C code) fp) ifs tt)
    (pe : ∀ (s : Shared) (H : Hp) (C : Addr) (code : Value) (fp : List Addr), PE (gblk X s H (gxEnv X scope C code) fp) elt te)
    (hs : ∀ v, genFold iter X.env v = pure v := by intro _; rfl)
    (he : starEach [gxE elt tg iter ifs scope gpos] X.env = (false, eval (gxE elt tg iter ifs scope gpos) X.env) :: starEach [] X.env := by rfl) :
    PE X (.Call (.Name "sum" p) [gxE elt tg iter ifs scope gpos] [] pos) (tSumG P wi g tt te (own.map (·.2))) := by
  refine ⟨fun pins s σ H Q I h => ?_⟩
  refine wpAny_Call_Name_kw (ld_blt I hg hm (show bootBuiltins "sum" = some (.builtin "sum") by decide +kernel) ?_)
  refine PyProof.Rows.callWith_builtin1 ?_ he (by rfl)
  rw [he]
  show wpAny _ _ (spliced ((false, eval (gxE elt tg iter ifs scope gpos) X.env) :: backTo pos (starEach [] X.env))) _ _ s
  refine Calls.spliced_cons (make_gx (fun a => [a, a + 1]) (fun a b hb => by
    rcases List.mem_cons.mp hb with z | z
    · rw [z]; exact Nat.le_refl _
    · rw [List.mem_singleton.mp z]; exact Nat.le_succ _) hr hN TB hcode hi ok (gx_ok S) pg pt pe hs I h fun n pz F Pv a s5 kk G => ?_)
  obtain ⟨f, B, hF, hB, hf, hQ⟩ := kk
  exact Calls.spliced_nil (sum_made hr G hF hB hf hQ)
end
end
/-- a def of the text whose code object is known -/
theorem okT {Pr : Program} {w : World} {K : PySem.W.Frag} {mg : Str → Option Value} {base : Heap} {x qual : Str} {st : Stmt} {f c : Addr} {fd : FuncData} {N ps : List Str} {k : Nat} {sp : Sp} (F : Fun K x qual st f fd) (hc : fd.code = .ref c) (S : FnScope N ps (defScope st)) (len : ∀ vs H Q E, sp vs H Q E → vs.length = ps.length)
    (hbody : ∀ (A : Around) (outer : List Env) (s : Shared) (H : Hp) (vs : List V) (Q : VK) (E : XK), Room k (A.deeper (envOfC qual (defScope st) s.heap.objs.size f (.ref c))) → sp vs H Q E →
      ∃ t, PSs (cxOf CX0 Pr w K mg base N qual (defScope st) f (.ref c) A outer s H E).nox (defBody st) t ∧ t { nx := fun _ H' => Q .non H', rt := Q } (start N vs) H) : FnOk Pr w K mg base CX0 (k + 1) f fd ps sp := by
  obtain ⟨oc, od, kV, doc, pm, an, cdv, ct, osl, rfl, lk, hcd⟩ := F.ex
  obtain rfl : cdv = .ref c := hc
  refine fn_of lk hcd S len fun A outer s H vs Q E hr hsp => ?_
  obtain ⟨t, h, q⟩ := hbody A outer s H vs Q E hr hsp
  exact ⟨t, h.nox, q⟩
/-- a generator's turns by a walk -/
theorem gx_it {J : It} {n : Nat} {G : Hp → Prop} {W : Nat → Hp → V → Hp → Prop} (w : Walk J n G W) {g : TG} {tt : TT} {te : TE} {σ : L2.St} {vs : List Nat} {pz : Nat → Bool} {F : Nat → V} {H1 : Hp} {R : Prop} (Pv : Nat → Hp → Prop) (p0 : Pv 0 H1) (hG : ∀ i H, i ≤ n → Pv i H → G H)
    (hs : ∀ i x H H', i < n → Pv i H → W i H x H' → g x (wipe σ vs) H' fun σ2 H2 => wipe σ2 vs = wipe σ vs ∧ tt σ2 H2 fun b H3 => b = pz i ∧ if b = true then te σ2 H3 (fun y H4 => y = F i ∧ Pv (i + 1) H4) else Pv (i + 1) H3) (r : R) :
    Pv 0 H1 ∧ (∀ i H, i < n → Pv i H → J.go i H) ∧ (∀ H, Pv n H → J.stop n H) ∧ GStep J g tt te σ vs Pv n pz F ∧ R :=
  ⟨p0, fun i H hi p => w.goes i H hi (hG i H (Nat.le_of_lt hi) p), fun H p => w.stops H (hG n H (Nat.le_refl _) p), fun i x H H' hi p y => hs i x H H' hi p (w.yields i H x H' hi (hG i H (Nat.le_of_lt hi) p) y), r⟩
/-! ### a law's end where defs have tables of code objects (generator expressions) -/
section
variable {P : Program} {w : World} {K : PySem.W.Frag} {mg mb : Str → Option Value} {k : Nat} {fa a : Addr} {fd : FuncData} {x : Str} {sp : Sp} {s1 : Shared} {vs : List Value} {ns : List Int} {cs : List (Addr × Addr)}
abbrev emptyT : Obj := { cls := .none, data := .fields #[] }
/-- what is tracked at a law's start: the script, if it is no thing of the text, and the tables -/
structure Only0 (K : PySem.W.Frag) (a : Addr) (ts : List Addr) (H : Hp) : Prop where
  tab : ∀ t ∈ ts, H t = some (TabO t)
  no : ∀ b, b ≠ a → b ∉ ts → H b = none
  own : H a = none ∨ (K.lookup a = none ∧ ∃ o xs, H a = some (.frz o (.lst xs)))
theorem told_fromT (H : Hp) (kin : K.In s1.heap) (glob : s1.heap.Ns mainGlobals mg) (blt : s1.heap.Ns builtinsNs mb) (same : ∀ y : Str, y ≠ "__name__" → mb y = bootBuiltins y) (lim : s1.heap.NoLimit) (bare : s1.gens = #[])
    (hT : ∀ p ∈ cs, s1.heap.get? p.2 = some emptyT) (nT : ∀ p ∈ cs, K.lookup p.2 = none) (C : ∀ p ∈ cs, PySem.W.CodeHd s1.heap p.1 p.2)
    (hbm : ∃ (bm : Addr) (ob : Obj), mg "__builtins__" = some (.ref bm) ∧ bm ≠ builtinsNs ∧ s1.heap.get? bm = some ob ∧ ob.cls = .type "module" ∧ ob.dict = some builtinsNs ∧ ob.data = .plain)
    (obj : s1.heap.get? a = some { cls := .type "list", data := .seq vs.toArray }) (room : Room k callerA)
    (F : ∀ base : Heap, K.In base → base.Ns mainGlobals mg → (∀ p ∈ cs, GxR.TabB base mg p.1 p.2) → FnG P w K mg base k fa fd [x] sp) (bind : ∀ (s : Shared) (u : Value), BindsTo s fd ⟨[u], []⟩ [(x, u)])
    (only : Only0 K a (cs.map (·.2)) H) (wish : sp [.ref a] H (fun v H' => v = .bl true ∧ ∀ p ∈ cs, H' p.2 = some (TabO p.2)) fun _ _ _ => False) (hok : HOk P w H s1.heap) :
    codeAny (model P w) callerA (.call (.ref fa) ⟨[.ref a], []⟩) (Told s1) s1 := by
  have isT : ∀ b : Addr, b ∈ cs.map (·.2) → s1.heap.get? b = some emptyT := fun b hb => by
    obtain ⟨p, hp, e⟩ := List.mem_map.mp hb
    rw [← e]
    exact hT p hp
  have aT : a ∉ cs.map (·.2) := fun z => by
    have q := isT a z
    rw [obj] at q
    have z' : Data.seq vs.toArray _ = Data.fields #[] := congrArg Obj.data (Option.some.inj q)
    cases z'
  have free : ∀ {b : Addr} {o : Obj}, s1.heap.get? b = some o → (∀ vs n, o.data ≠ .seq vs n) → o.data ≠ .fields #[] → H b = none := fun {b o} e h1 h2 => by
    refine only.no b (fun z => ?_) fun z => ?_
    · rw [z, obj] at e
      cases e
      exact h1 _ _ rfl
    · rw [isT b z] at e
      cases e
      exact h2 rfl
  have nsB : ∀ {b : Addr} {m : Str → Option Value}, s1.heap.Ns b m → (hidT s1.heap H).Ns b m := by
    rintro b m ⟨o, es, ep, e, d, r⟩
    refine ⟨o, es, ep, hidT_get e (free e (fun vs n z => ?_) fun z => ?_), d, r⟩
    · rw [d] at z
      cases z
    · rw [d] at z
      cases z
  have kinB : K.In (hidT s1.heap H) := fun b o e => by
    refine hidT_get (kin b o e) ?_
    by_cases z : b = a
    · subst z
      rcases only.own with h | ⟨h, _⟩
      · exact h
      · rw [h] at e
        cases e
    · refine only.no b z fun y => ?_
      obtain ⟨p, hp, ep⟩ := List.mem_map.mp y
      rw [← ep, nT p hp] at e
      cases e
  have limB : (hidT s1.heap H).NoLimit := by
    obtain ⟨mc, h1, h2⟩ := lim
    exact ⟨mc, nsB h1, h2⟩
  have TB : ∀ p ∈ cs, GxR.TabB (hidT s1.heap H) mg p.1 p.2 := fun p hp => by
    have hTp := hT p hp
    refine ⟨?_, ?_, fun z => ?_⟩
    · obtain ⟨o, us, file, tf, flags, tg, inF, text, tt, e1, r1, r2, r3, r4, r5, r6, r7, r8, hne⟩ := C p hp
      refine ⟨o, us, file, tf, flags, tg, inF, text, tt, hidT_get e1 (free e1 (fun vs n z => ?_) fun z => ?_), r1, r2, r3, r4, r5, r6, r7, r8, hne⟩
      · rw [r2] at z
        cases z
      · rw [r2] at z
        cases z
        simp at r3
    · obtain ⟨bm, ob, b1, b2, b3, b4, b5, b6⟩ := hbm
      have nG : bm ≠ mainGlobals := fun q => by
        obtain ⟨o, es, ep, e, hd, _⟩ := glob
        rw [q, e] at b3
        cases b3
        rw [hd] at b6
        cases b6
      have nP : bm ≠ p.2 := fun q => by
        rw [q, hTp] at b3
        cases b3
        cases b6
      refine ⟨bm, ob, b1, b2, nG, nP, hidT_get b3 (free b3 (fun vs n z => ?_) fun z => ?_), b4, b5, b6⟩
      · rw [b6] at z
        cases z
      · rw [b6] at z
        cases z
    · obtain ⟨o, es, ep, e, hd, _⟩ := glob
      rw [z, hTp] at e
      cases e
      cases hd
  have env : Env0 P w K mg (hidT s1.heap H) callerA [] s1 H :=
    { frames := rfl, mod := ⟨kinB, nsB glob, ⟨mb, nsB blt, same⟩, limB⟩, bs := fun _ _ e => of_hidT e, bsz := Nat.le_of_eq (hidT_size _ _), funs := trivial,
      frf := fun b z => (List.not_mem_nil (show b ∈ ([] : List Addr) from z)).elim, hok := hok, bare := .of_eq bare }
  refine codeAny_mono ((F _ kinB (nsB glob) TB).run callerA [] s1 H ⟨[.ref a], []⟩ [.ref a] [.ref a] _ _ room rfl env (bind s1 _) (.cons rfl .nil) wish) ?_
  rintro (e | fl) s2 h
  · exact (show False from h).elim
  · cases fl with
    | ret u =>
      obtain ⟨v, H2, os2, bare2, un, hok2, rel, q, qt⟩ := h
      have q : v = V.bl true := q
      subst q
      obtain rfl : u = Value.bool true := rel
      have key : ∀ b o, b ∉ cs.map (·.2) → s1.heap.get? b = some o → s2.heap.get? b = some o := fun b o nb e => by
        cases z : H b with
        | none => exact un.keep b o e z (fun y => List.not_mem_nil (show b ∈ ([] : List Addr) from y)) List.not_mem_nil
        | some u =>
          have eb : b = a := Classical.byContradiction fun n => by
            rw [only.no b n nb] at z
            cases z
          subst eb
          rcases only.own with y | ⟨_, ob, xs, y⟩
          · rw [z] at y
            cases y
          · obtain ⟨g1, _⟩ := hok b _ y
            obtain ⟨g2, _⟩ := hok2 b _ (un.frzs b ob _ y)
            rw [e] at g1
            cases g1
            exact g2
      have grown : ∀ p ∈ cs, ∃ more : Array Value, s2.heap.get? p.2 = some { cls := .none, data := .fields more } := fun p hp => by
        obtain ⟨⟨ps, h1, _⟩, _⟩ := (show ObjOk P w H2 s2.heap p.2 (TabO p.2) from hok2 p.2 _ (qt p hp))
        exact ⟨ps, h1⟩
      refine ⟨rfl, ⟨fun b o e => ?_, fun b o e => ?_⟩, os2, bare2⟩
      · by_cases hb : b ∈ cs.map (·.2)
        · obtain ⟨p, hp, ep⟩ := List.mem_map.mp hb
          obtain ⟨more, hm⟩ := grown p hp
          rw [← ep] at e ⊢
          rw [hT p hp] at e
          cases e
          exact .inr (.inl ⟨((C p hp).tab (hT p hp)).isCodeTable, rfl, #[], more, rfl, by rw [Array.empty_append]; exact hm⟩)
        · exact .inl (key b o hb e)
      · by_cases hb : b ∈ cs.map (·.2)
        · obtain ⟨p, hp, ep⟩ := List.mem_map.mp hb
          obtain ⟨more, hm⟩ := grown p hp
          rw [← ep]
          exact ⟨_, hm⟩
        · exact ⟨o, key b o hb e⟩
    | next => exact h.elim
    | brk => exact h.elim
    | cont => exact h.elim
theorem told_lawT (kin : K.In s1.heap) (glob : s1.heap.Ns mainGlobals mg) (blt : s1.heap.Ns builtinsNs mb) (same : ∀ y : Str, y ≠ "__name__" → mb y = bootBuiltins y) (lim : s1.heap.NoLimit) (bare : s1.gens = #[])
    (hT : ∀ p ∈ cs, s1.heap.get? p.2 = some emptyT) (nT : ∀ p ∈ cs, K.lookup p.2 = none) (C : ∀ p ∈ cs, PySem.W.CodeHd s1.heap p.1 p.2)
    (hbm : ∃ (bm : Addr) (ob : Obj), mg "__builtins__" = some (.ref bm) ∧ bm ≠ builtinsNs ∧ s1.heap.get? bm = some ob ∧ ob.cls = .type "module" ∧ ob.dict = some builtinsNs ∧ ob.data = .plain)
    (obj : s1.heap.get? a = some { cls := .type "list", data := .seq vs.toArray }) (are : IntsAre vs ns) (long : ns.length ≤ sizeLine) (room : Room k callerA)
    (F : ∀ base : Heap, K.In base → base.Ns mainGlobals mg → (∀ p ∈ cs, GxR.TabB base mg p.1 p.2) → FnG P w K mg base k fa fd [x] sp) (bind : ∀ (s : Shared) (u : Value), BindsTo s fd ⟨[u], []⟩ [(x, u)])
    (wish : ∀ H : Hp, SqL K H a (ns.map V.int) → (∀ p ∈ cs, H p.2 = some (TabO p.2)) → sp [.ref a] H (fun v H' => v = .bl true ∧ ∀ p ∈ cs, H' p.2 = some (TabO p.2)) fun _ _ _ => False) :
    codeAny (model P w) callerA (.call (.ref fa) ⟨[.ref a], []⟩) (Told s1) s1 := by
  have rv := vals_ints are
  have nl := are.length
  have isT : ∀ b : Addr, b ∈ cs.map (·.2) → s1.heap.get? b = some emptyT := fun b hb => by
    obtain ⟨p, hp, e⟩ := List.mem_map.mp hb
    rw [← e]
    exact hT p hp
  have aT : a ∉ cs.map (·.2) := fun z => by
    have q := isT a z
    rw [obj] at q
    have z' : Data.seq vs.toArray _ = Data.fields #[] := congrArg Obj.data (Option.some.inj q)
    cases z'
  have memT : ∀ p ∈ cs, p.2 ∈ cs.map (·.2) := fun p hp => List.mem_map.mpr ⟨p, hp, rfl⟩
  have tobj : ∀ {H : Hp} (b : Addr), b ∈ cs.map (·.2) → ObjOk P w H s1.heap b (TabO b) := fun b hb => tab_obj ⟨#[], isT b hb, trivial⟩
  cases hk : K.lookup a with
  | some o =>
    have e := kin a o hk
    rw [obj] at e
    cases e
    have tt : ∀ b ∈ cs.map (·.2), (fun b => if b ∈ cs.map (·.2) then some (TabO b) else none) b = some (TabO b) := fun b hb => if_pos hb
    have sq : SqL K (fun b => if b ∈ cs.map (·.2) then some (TabO b) else none) a (ns.map V.int) := Or.inr ⟨_, vs.toArray, _, hk, rfl, rfl, rfl, by rw [List.size_toArray, nl]; exact long, by simpa using rv⟩
    refine told_fromT _ kin glob blt same lim bare hT nT C hbm obj room F bind ⟨tt, fun b _ nb => if_neg nb, Or.inl (if_neg aT)⟩ (wish _ sq fun p hp => tt p.2 (memT p hp)) fun b u z => ?_
    by_cases hb : b ∈ cs.map (·.2)
    · have z' := (tt b hb).symm.trans z
      cases z'
      exact tobj b hb
    · have z' := (if_neg hb).symm.trans z
      cases z'
  | none =>
    let H : Hp := fun b => if b = a then some (.frz { cls := .type "list", data := .seq vs.toArray } (.lst (ns.map V.int))) else if b ∈ cs.map (·.2) then some (TabO b) else none
    have h1 : H a = some (.frz { cls := .type "list", data := .seq vs.toArray } (.lst (ns.map V.int))) := if_pos rfl
    have h2 : ∀ b ∈ cs.map (·.2), H b = some (TabO b) := fun b hb => (if_neg (show ¬ b = a from fun z => aT (by rw [← z]; exact hb))).trans (if_pos hb)
    have h3 : ∀ b, b ≠ a → b ∉ cs.map (·.2) → H b = none := fun b hb nb => (if_neg hb).trans (if_neg nb)
    refine told_fromT H kin glob blt same lim bare hT nT C hbm obj room F bind ⟨h2, h3, Or.inr ⟨hk, _, _, h1⟩⟩ (wish H (Or.inl (Or.inr ⟨_, h1⟩)) fun p hp => h2 p.2 (memT p hp)) fun b u z => ?_
    by_cases hb : b = a
    · rw [hb, h1] at z
      cases z
      rw [hb]
      exact ⟨obj, by rw [List.length_map]; exact long, vs, _, rv, obj⟩
    · by_cases hb2 : b ∈ cs.map (·.2)
      · rw [h2 b hb2] at z
        cases z
        exact tobj b hb2
      · rw [h3 b hb hb2] at z
        cases z
end
theorem walkGT {l : PySem.W.OpenLaw} {n k : Nat} {q : Program} {loose : List Str} {XP : (Str → Option Value) → Heap → Prop} {YP : World → Heap → Prop} {d : DefRec} {x : Str} {sp : PySem.W.Frag → List Addr → Sp}
    (hn : l.most = some n) (hn2 : n ≤ sizeLine) (hdf : d.params.defaults = []) (hr : Room k callerA)
    (F : ∀ (w : World) (mg : Str → Option Value) (fa : Addr) (h : Heap), YP w h → h.Ns mainGlobals mg → mg d.name = some (.ref fa) →
      ∃ (K : PySem.W.Frag) (fd : FuncData) (cs : List (Addr × Addr)), K.In h ∧ (∀ p ∈ cs, h.get? p.2 = some emptyT) ∧ (∀ p ∈ cs, K.lookup p.2 = none) ∧ (∀ p ∈ cs, PySem.W.CodeHd h p.1 p.2) ∧ (∀ (s : Shared) (u : Value), BindsTo s fd ⟨[u], []⟩ [(x, u)]) ∧
        ∀ base : Heap, K.In base → base.Ns mainGlobals mg → (∀ p ∈ cs, GxR.TabB base mg p.1 p.2) → FnG l.prog w K mg base k fa fd [x] (sp K (cs.map (·.2))))
    (hsp : ∀ (K : PySem.W.Frag) (ts : List Addr) (H : Hp) (a : Addr) (ns : List Int), ns.length ≤ n → SqL K H a (ns.map V.int) → (∀ t ∈ ts, H t = some (TabO t)) → sp K ts [.ref a] H (fun v H' => v = .bl true ∧ ∀ t ∈ ts, H' t = some (TabO t)) fun _ _ _ => False) :
    PySem.W.WalkO q loose XP YP l.row.toRowW d [] (fun f vs => PySem.call f vs) := by
  refine Att.attach_call hn hdf fun w s0 s1 mg mb fa o pm cd doc a vs ns G Y ho hd hcd hmg hobj hints hlen hg => ?_
  obtain ⟨K, fd, cs, kin, hT, nT, C, hb, hF⟩ := F w mg fa _ Y G.T.g hmg
  refine told_lawT kin G.T.g G.T.b G.T.builtins G.T.nolimit hg hT nT C G.T.bmain hobj hints (Nat.le_trans hlen hn2) hr hF hb fun H sq tt => ?_
  have w1 := hsp K (cs.map (·.2)) H a ns hlen sq fun t ht => by
    obtain ⟨p, hp, rfl⟩ := List.mem_map.mp ht
    exact tt p hp
  have e : (fun (v : V) (H' : Hp) => v = .bl true ∧ ∀ t ∈ cs.map (·.2), H' t = some (TabO t)) = fun v H' => v = .bl true ∧ ∀ p ∈ cs, H' p.2 = some (TabO p.2) := by
    funext v H'
    apply propext
    constructor
    · intro ⟨h1, h2⟩
      exact ⟨h1, fun p hp => h2 p.2 (List.mem_map.mpr ⟨p, hp, rfl⟩)⟩
    · intro ⟨h1, h2⟩
      refine ⟨h1, fun t ht => ?_⟩
      obtain ⟨p, hp, rfl⟩ := List.mem_map.mp ht
      exact h2 p hp
  rw [e] at w1
  exact w1
/-- what is known of a def's code object -/
theorem code_of {K : PySem.W.Frag} {x qual : Str} {pa : Arguments} {bd : List Stmt} {sc : Scope} {dv : List V} {kw : List (Str × V)} {p : He.Defn} {fd : FuncData} (F : FunD K x qual pa bd sc dv kw (He.fAd K p) fd) : fd.code = .ref (He.codeOf K p) := by
  obtain ⟨oc, od, dV, kV, doc, pm, an, cdv, ct, osl, e, lk, hcd, hd, hk⟩ := F.ex
  obtain ⟨c, rfl⟩ := He.codeIn_ref hcd
  have e2 : fd.code = .ref c := by rw [e]
  rw [e2, He.codeOf_eq lk e2]
/-- the law's promise, tables ts -/
def spLawT (K : PySem.W.Frag) (ts : List Addr) : Sp := fun vs H Q _ => ∃ (a : Addr) (ns : List Int), vs = [.ref a] ∧ SqL K H a (ns.map V.int) ∧ (∀ t ∈ ts, H t = some (TabO t)) ∧ ∀ H', (∀ t ∈ ts, H' t = some (TabO t)) → Q (.bl true) H'
/-! ### a set display of one written text, found.add(text), by SXO: sorted(..) of it stays known -/
section
variable {P : Program} {w : World} {A : Around} {E : Value → Shared → Prop} {s : Shared} {a : Addr} {S : Key → Prop} {n : Nat}
theorem SX.typeIs {s : Shared} (R : SX w s.heap a S n) : Shared.TypeIs s (.ref a) "set" := by
  obtain ⟨o, es, ep, t, ⟨q1, q2, q3⟩, _⟩ := R
  exact ⟨o, q1, q2.1⟩
theorem SX.noDict {s : Shared} (R : SX w s.heap a S n) : ∀ b, Value.ref a = .ref b → ∃ ob, s.heap.get? b = some ob ∧ ob.dict = none := fun b e => by
  injection e with e
  subst e
  obtain ⟨o, es, ep, t, ⟨q1, q2, q3⟩, _⟩ := R
  exact ⟨o, q1, q2.2.1⟩
theorem sx_add_call {k : Key} {v : Value} {Q : Value → Shared → Prop} (R : SX w s.heap a S n) (room : n + 1 < scanBound) (hk : keyIs k v = true)
    (fin : ∀ h' m, Heap.SameBut a s.heap h' → m ≤ n + 1 → SX w h' a (fun j => S j ∨ j = k) m → Q .none { s with heap := h', toks := s.toks + 1 }) :
    wpAny (model P w) A (call (.builtin "set.add") [.ref a, v]) Q E s := by
  refine wpAny_call_entry F.slot_set_add R.typeIs F.entry_set_add ?_ (F.args_set_add_2 _ _)
  unfold Builtin.«set.add» Builtin.Frozenset.oneOther
  simp only [List.isEmpty_nil, bind_assoc]
  unfold Builtin.Frozenset.addrOf setAdd
  refine wpAny_bind (wpAny_pure ?_)
  try dsimp only
  refine wpAny_bind (wpAny_pure ?_)
  try dsimp only
  refine wpAny_bind ?_
  refine wpAny_holding ?_
  refine wpAny_bind ((mixKind P w).pyHash (k := k) hk ?_)
  refine sx_add (s := { s with toks := s.toks + 1 }) R room hk fun h' m sb hm R' b => ?_
  show wpAny _ _ (ret Value.none) _ _ _
  exact wpAny_pure ⟨_, rfl, fin h' m sb hm R'⟩
theorem set_one {t : Sem Value} {x : Str} {b : Bool} {Q : Value → Shared → Prop} (ht : ∀ (s1 : Shared) (Q1 : Value → Shared → Prop), (∀ k tk, Q1 (.str x k) { s1 with toks := tk }) → wpAny (model P w) A t Q1 E s1)
    (fin : ∀ h' tk m, m ≤ 1 → SX w h' s.heap.objs.size (fun j => j = .inr x) m → (∀ b o, s.heap.get? b = some o → h'.get? b = some o) → Q (.ref s.heap.objs.size) { s with heap := h', toks := tk }) :
    wpAny (model P w) A (setDisplay .oneByOne b [(false, t)]) Q E s := by
  unfold setDisplay
  try dsimp only
  rw [if_neg (by decide)]
  refine wpAny_bind (wpAny_newSet_raw fun led hled => ?_)
  subst hled
  have at1 : (s.heap.push { cls := .type "set", dict := none, data := .set #[] 0 (.fresh 0 0 (!w.params.followText "set-order")) }).get? s.heap.objs.size = some { cls := .type "set", dict := none, data := .set #[] 0 (.fresh 0 0 (!w.params.followText "set-order")) } := Heap.get?_push_size _ rfl
  have R0 : SX w _ s.heap.objs.size _ 0 := sx_new (ks := []) at1
  have k0 : ∀ b o, s.heap.get? b = some o → (s.heap.push { cls := .type "set", dict := none, data := .set #[] 0 (.fresh 0 0 (!w.params.followText "set-order")) }).get? b = some o := fun b o e => Heap.get?_push_of_some _ e
  generalize s.heap.push { cls := .type "set", dict := none, data := .set #[] 0 (.fresh 0 0 (!w.params.followText "set-order")) } = h1 at *
  refine wpAny_bind (wpAny_holding ?_)
  show wpAny _ _ (evalAll [t] >>= _) _ _ _
  unfold evalAll
  refine wpAny_bind (wpAny_bind (ht _ _ fun k tk => ?_))
  unfold evalAll
  refine wpAny_bind (wpAny_holding (wpAny_pure ?_))
  refine wpAny_pure ?_
  refine wpAny_bind (wpAny_holding ?_)
  rw [List.forIn_cons]
  refine wpAny_bind (wpAny_bind ?_)
  refine wpAny_bind ?_
  unfold setAdd
  refine wpAny_holding ?_
  refine wpAny_bind ((mixKind P w).pyHash (k := .inr x) (kV_is (P := P) (w := w) (k := .inr x) (u := .str x k) ⟨k, rfl⟩) ?_)
  refine sx_add (k := .inr x) R0 (by decide) (kV_is (P := P) (w := w) (k := .inr x) (u := .str x k) ⟨k, rfl⟩) fun h' m sb hm R' b => ?_
  have R2 : SX w h' s.heap.objs.size (fun j => j = .inr x) m := R'.like fun j => by simp
  have kk : ∀ b o, s.heap.get? b = some o → h'.get? b = some o := fun b o e => by
    rw [sb.2 b (fun z => Nat.lt_irrefl _ (z ▸ Heap.lt_size e))]
    exact k0 b o e
  have fin2 := fin h' (tk + 1) m (by omega) R2 kk
  repeat (first | exact fin2 | refine wpAny_pure ?_ | refine wpAny_bind ?_ | rw [List.forIn_nil] | rw [if_neg (by decide)])
end
section
variable {X : Cx}
/-- {'text'} -/
def tSet1 (w : World) (x : Str) : TE := fun _ H Q => ∀ p c o, H p = none → c ≤ 1 → o = SXO w p (fun j => j = .inr x) c → Q (.ref p) (upd H p o)
theorem pe_set1 {x : Str} {j : Nat} {pos cpos : Pos} (hcd : PySem.W.kdsCode X.K X.env.code = true) : PE X (.Set [.Constant (.str x) j cpos] 0 pos) (tSet1 X.w x) := by
  refine ⟨fun pins s σ H Q I h => ?_⟩
  rw [arm_eval_Set]
  refine wpAny_bind (wpAny_standAt ?_)
  refine wpAny_bind (PySem.W.kds_main I.kIn hcd fun b => ?_)
  have er : displayRoad 0 [Expr.Constant (.str x) j cpos] = .oneByOne := rfl
  rw [er]
  show wpAny _ _ (setDisplay .oneByOne b [(false, do let v ← eval (.Constant (.str x) j cpos) X.env; standAt pos; pure v)]) _ _ _
  refine set_one (x := x) (fun s1 Q1 h1 => ?_) fun h' tk m hm R keep => ?_
  · refine wpAny_bind (Calls.Constant_str ?_)
    exact wpAny_bind (wpAny_standAt (wpAny_pure (h1 _ _)))
  · exact ⟨.ref _, upd H s.heap.objs.size (SXO X.w s.heap.objs.size (fun j => j = .inr x) m), I.laid (t' := tk) keep (Nat.le_refl _) (sxo_new R), rfl, h _ _ _ (I.hok.fresh (Nat.le_refl _)) hm rfl⟩
/-- found.add(k) -/
def rSAddX (w : World) : V → List V → Hp → VK → Prop := fun x xs H Q => ∃ (a : Addr) (k : Key) (S : Key → Prop) (n : Nat), x = V.ref a ∧ xs = [kV k] ∧ H a = some (SXO w a S n) ∧ n ≤ 4000 ∧
  ∀ m o, m ≤ n + 1 → o = SXO w a (fun j => S j ∨ j = k) m → Q .non (upd H a o)
theorem mt_saddX : MtR X "set.add" (rSAddX X.w) := by
  intro pins s σ H x xs v us Q I rx rxs h
  obtain ⟨a, k, S, n, rfl, rfl, ha, room, q⟩ := h
  cases rx
  cases rxs with
  | cons ry rt =>
    cases rt
    have R : SX X.w s.heap a S n := (I.hok a _ ha).1
    refine sx_add_call R (show n + 1 < 4096 by omega) (kV_is (P := X.prog) (w := X.w) ry) fun h' m sb hm new => ?_
    have he : ∃ u, h'.get? a = some u := by
      have ⟨o, _, _, _, ho, _⟩ := new
      exact ⟨o, ho.1⟩
    exact ⟨.non, upd H a (SXO X.w a (fun j => S j ∨ j = k) m), I.write (e := a) (t' := s.toks + 1) (by rw [ha]; trivial) (.inl rfl) (fun b u hb hu => (sb.2 b hb).trans hu) he (sxo_new new), rfl, q m _ hm rfl⟩
def tSAddX (w : World) (to : TE) (t : TA) : TE := fun σ H Q => to σ H fun x H1 => (∃ a S n, x = V.ref a ∧ H1 a = some (SXO w a S n)) ∧ t σ H1 fun xs H2 => rSAddX w x xs H2 Q
variable {o e : Expr} {es : List Expr} {to : TE} {t : TA} {apos cpos : Pos}
theorem pe_saddX (ho : PE X o to) (ha : PA X (e :: es) t)
    (hbase : attributeBase o "add" X.env (eval o X.env) = eval o X.env := by rfl)
    (hfew : ((backTo cpos (starEach (e :: es) X.env)).all (fun x => !x.1) && (backToKw cpos (keywordEach [] X.env)).all (fun x => x.1.isSome)
      && decide ((e :: es).length + ([] : List Keyword).length + (if ([] : List Keyword).isEmpty then 0 else 1) < 30)) = true := by rfl)
    (hline : (apos.endLine == cpos.line) = true := by rfl) (hs : starEach (e :: es) X.env = (false, eval e X.env) :: starEach es X.env := by rfl) (hplain : (backTo cpos (starEach es X.env)).any (·.1) = false := by rfl) :
    PE X (.Call (.Attribute o "add" apos) (e :: es) [] cpos) (tSAddX X.w to t) := by
  refine ⟨fun pins s σ H Q I h => ?_⟩
  refine wpAny_Call_method_late hbase hfew hline rfl (thn (ho.run pins s σ H _ I h) fun v s1 ⟨x, H1, I1, r1, ty, q1⟩ => ?_)
  obtain ⟨a, S, n, rfl, hka⟩ := ty
  have hS : SX X.w s1.heap a S n := (I1.hok a _ hka).1
  cases r1
  refine ⟨"set", "set.add", F.plainAttrs_set, F.slot_set_add, F.type_set_add, hS.typeIs, hS.noDict, ?_⟩
  have hA := ha.run cpos pins s1 σ H1 _ I1 q1
  rw [hs] at hA ⊢
  refine Calls.callWith_builtin (by show (false || (backTo cpos (starEach es X.env)).any (·.1)) = false; rw [hplain] <;> rfl) (Calls.evalArgs_plain ?_)
  exact thn hA fun us s2 ⟨vs, H2, I2, r2, q2⟩ => mt_saddX pins s2 σ H2 (.ref a) vs (.ref a) us Q I2 rfl r2 q2
/-- a def whose code object is the module's -/
theorem okC {Pr : Program} {w : World} {K : PySem.W.Frag} {mg : Str → Option Value} {base : Heap} {x qual : Str} {st : Stmt} {f : Addr} {fd : FuncData} {N ps : List Str} {k : Nat} {sp : Sp} (F : Fun K x qual st f fd) (S : FnScope N ps (defScope st)) (len : ∀ vs H Q E, sp vs H Q E → vs.length = ps.length)
    (hbody : ∀ (cdv : Value) (A : Around) (outer : List Env) (s : Shared) (H : Hp) (vs : List V) (Q : VK) (E : XK), Room k (A.deeper (envOfC qual (defScope st) s.heap.objs.size f cdv)) → PySem.W.kdsCode K cdv = true → sp vs H Q E →
      ∃ t, PSs (cxOf CX0 Pr w K mg base N qual (defScope st) f cdv A outer s H E).nox (defBody st) t ∧ t { nx := fun _ H' => Q .non H', rt := Q } (start N vs) H) : FnOk Pr w K mg base CX0 (k + 1) f fd ps sp := by
  obtain ⟨oc, od, kV, doc, pm, an, cdv, ct, osl, rfl, lk, hcd⟩ := F.ex
  refine fn_of lk hcd S len fun A outer s H vs Q E hr hsp => ?_
  obtain ⟨t, h, q⟩ := hbody cdv A outer s H vs Q E hr (kdsCode_of hcd) hsp
  exact ⟨t, h.nox, q⟩
end
/-! ### enumerate(tuple), is not True -/
set_option maxHeartbeats 1000000 in
theorem meets_enumB {v : Value} {o : Obj} {H : Heap → Prop} (B : Begins v o H) :
    Meets (Builtin.«enumerate.__new__» ⟨[.type "enumerate", v], []⟩) (fun _ R s => H s.heap ∧
      R (.ok (.ret (.ref (s.heap.push o).objs.size))) { s with heap := (s.heap.push o).push { cls := .type "enumerate", data := .fields #[.none, .bool false, .ref s.heap.objs.size, rawInt 0, .none, .none] } }) :=
  .of_wp fun prog w A R s h => by
    obtain ⟨hp, g, d, tk, os⟩ := s; obtain ⟨h1, h⟩ := h
    have hsub := sub_enumerate
    have q1 : ∀ {A' : Around} {E : Value → Shared → Prop} {Q : Value → Shared → Prop}, Q (.ref hp.objs.size) ⟨hp.push o, g, d, tk, os⟩ → wpAny (model prog w) A' (pyIter v) Q E ⟨hp, g, d, tk, os⟩ :=
      fun q => B.iter prog w _ _ ⟨hp, g, d, tk, os⟩ _ h1 q
    wp_walk using q1
    refine wpAny_stack_any fun st => wpAny_pure ?_
    split
    · rename_i c _ _ _ _ _
      cases (c == Value.type "enumerate")
      · wp_walk using q1
        exact ⟨_, rfl, h⟩
      · wp_walk using q1
        exact ⟨_, rfl, h⟩
    · wp_walk using q1
      exact ⟨_, rfl, h⟩
theorem enum_at {prog : Program} {w : World} {A : Around} {E : Value → Shared → Prop} {s : Shared} {v : Value} {o : Obj} {H : Heap → Prop} {Q : Value → Shared → Prop} (B : Begins v o H) (h1 : H s.heap)
    (h : ∀ h', IsEnum h' (s.heap.objs.size + 1) s.heap.objs.size 0 .none → h'.get? s.heap.objs.size = some o → h'.objs.size = s.heap.objs.size + 2 →
      (∀ b o, s.heap.get? b = some o → h'.get? b = some o) → Q (.ref (s.heap.objs.size + 1)) { s with heap := h' }) :
    wpAny (model prog w) A (call (.type "enumerate") [v]) Q E s := by
  refine callType_new F.called_enumerate (by decide) (F.typeCall_enumerate_1 _) (F.newCall_enumerate_1 _) (fun obj => F.args_object_init_2 obj _) F.entry_enumerate_new (meets_enumB B) ⟨h1, ?_⟩
  have hz : (s.heap.push o).objs.size = s.heap.objs.size + 1 := Heap.size_push ..
  show _ ∧ _
  rw [hz]
  have he : IsEnum ((s.heap.push o).push { cls := .type "enumerate", data := .fields #[.none, .bool false, .ref s.heap.objs.size, rawInt 0, .none, .none] }) (s.heap.objs.size + 1) s.heap.objs.size 0 .none := by
    have := Heap.get?_push_size (s.heap.push o) (o := { cls := .type "enumerate", data := .fields #[.none, .bool false, .ref s.heap.objs.size, rawInt 0, .none, .none] }) rfl
    rw [hz] at this; exact this
  refine ⟨⟨_, he, rfl⟩, h _ he (Heap.get?_push_of_some _ (Heap.get?_push_size _ B.free)) (by rw [Heap.size_push, hz]) fun b o x => Heap.get?_push_of_some _ (Heap.get?_push_of_some _ x)⟩
/-- the tuple at a, each item in a new pair -/
def IteT (K : PySem.W.Frag) (a : Addr) : It :=
  ⟨fun i H => ∃ (xs : List V) (x : V), SqT K H a xs ∧ xs[i]? = some x, fun i H v H' => ∃ T x, v = .ref T ∧ H T = none ∧ H' = upd H T (.tup [.int (i : Nat), x]) ∧ ∀ xs, SqT K H a xs → xs[i]? = some x, fun i H => ∃ xs : List V, SqT K H a xs ∧ xs.length ≤ i⟩
theorem turn_enumT {P : Program} {w : World} {K : PySem.W.Frag} {elts : List Expr} {kk : Nat} {tpos : Pos} (a e it : Addr) :
    Turn P w K (.Tuple elts kk tpos) (IteT K a) [e, it] e (fun i h => (∃ old, IsEnum h e it ((i : Nat) : Int) old) ∧ h.IsTupleIter it a i ∧ e ≠ it ∧ a ≠ it ∧ a ≠ e) where
  mem := by simp
  obj := fun i h st b hb => by
    obtain ⟨⟨old, he⟩, ⟨o, ho, hc, hd⟩, _⟩ := st
    have e' : b = e ∨ b = it := by simpa using hb
    rcases e' with z | z
    · rw [z]; exact ⟨_, he, fun v q => nomatch q⟩
    · rw [z]; exact ⟨o, ho, fun v q => by rw [hd] at q; cases q⟩
  keep := fun i h h' st k => let ⟨⟨old, he⟩, hi, hne⟩ := st; ⟨⟨old, k e (by simp) _ he⟩, hi.at fun o q => k it (by simp) o q, hne⟩
  item := by
    intro X hP hw hK hc i pins s σ H E I hf st hg
    subst hP hw hK
    obtain ⟨⟨old, he⟩, hit, hne, hai, hae⟩ := st
    obtain ⟨xs, x, hq, hx⟩ := hg
    obtain ⟨its, rv, p, hz⟩ := I.tuple hq
    obtain ⟨u, hu, ru⟩ := rv.get hx
    have hel : e < s.heap.objs.size := Heap.lt_size he
    have hil : it < s.heap.objs.size := by obtain ⟨_, q, _⟩ := hit; exact Heap.lt_size q
    have hu2 := hu
    refine wpAny_pyNext_enum_itemD (Draws.tuple (A := X.A.in1) (by simp [I.ok.hd hc]) it a hai its.toArray) he ⟨hit, p⟩ (by simpa using (List.getElem?_eq_some_iff.mp hu).1) hne (by simp [hne, Ne.symm hae]) fun y h' tk py ho st' hT hsz hk => ?_
    obtain rfl : y = u := by
      have py : its.toArray[i]? = some y := py
      rw [List.getElem?_toArray, hu2] at py
      exact (Option.some.inj py).symm
    refine ⟨_, rfl, wpAny_letOwnedTupleGo_enum (s := { s with heap := h', toks := tk + 1 }) ho fun h'' he' sb => ?_⟩
    have hT2 : h''.get? s.heap.objs.size = some { cls := .type "tuple", data := .seq #[.int i tk, y] } := (sb.2 _ (Nat.ne_of_gt hel)).trans hT
    have new : ObjOk X.prog X.w (upd H s.heap.objs.size (.tup [.int (i : Nat), x])) h'' s.heap.objs.size (.tup [.int (i : Nat), x]) :=
      ⟨by show 2 ≤ sizeLine; decide, [.int i tk, y], .cons ⟨_, rfl⟩ (.cons ru .nil), ⟨_, hT2, rfl, _, rfl⟩⟩
    have I1 : Inv X pins σ (upd H s.heap.objs.size (.tup [.int (i : Nat), x])) { s with heap := h'', toks := tk + 1 } :=
      I.turnedNew (ch := [e, it]) (fun b ob hb q => (sb.2 b (fun z => hb (by simp [z]))).trans (hk b ob (fun z => hb (by simp [z])) (fun z => hb (by simp [z])) q)) hf (Nat.le_refl _) new
    refine ⟨.ref s.heap.objs.size, _, I1, rfl, ⟨_, x, rfl, I.hok.fresh (Nat.le_refl _), rfl, fun ys hy => by rw [I.tuple_inj hy hq]; exact hx⟩, ⟨⟨y, ?_⟩, st'.1.at fun o q => (sb.2 it (Ne.symm hne)).trans q, hne, hai, hae⟩, fun b hb => ?_⟩
    · have e1 : ((i + 1 : Nat) : Int) = (i : Int) + 1 := by omega
      rw [e1]; exact he'
    · have hb' : b < s.heap.objs.size := by
        have e' : b = e ∨ b = it := by simpa using hb
        rcases e' with z | z
        · rw [z]; exact hel
        · rw [z]; exact hil
      rw [upd_ne (Nat.ne_of_lt hb')]
      exact (hf b hb).1
  done := by
    intro X hP hw hK hc i pins s σ H E I hf st hg
    subst hP hw hK
    obtain ⟨⟨old, he⟩, hit, hne, hai, hae⟩ := st
    obtain ⟨xs, hq, hx⟩ := hg
    obtain ⟨its, rv, p, hz⟩ := I.tuple hq
    obtain ⟨f0, f1, f2, f3, f4, f5⟩ := hf it (by simp)
    have hl := rv.length
    have D2 : Draws X.prog X.w X.A.in1 it [it, a] i (fun _ _ => True) (fun j h => (h.IsTupleIter it a j ∧ h.IsTuple a its.toArray) ∧ i ≤ j) :=
      ⟨fun _ _ st => let ⟨o, ho, _⟩ := st.1.1; ⟨o, ho⟩, fun _ _ _ st hk => ⟨⟨st.1.1.at fun o e => hk it (by simp) o e, st.1.2.at fun o e => hk a (by simp) o e⟩, st.2⟩,
        fun j s Q E hj st hQ => absurd st.2 (by omega), fun s Q E st hE => PySem.wpAny_nextOf_tuple_end (by simp [I.ok.hd hc]) st.1.1 st.1.2 (by simp; omega) hE⟩
    exact wpAny_pyNext_enum_endD D2 he ⟨⟨hit, p⟩, Nat.le_refl _⟩ fun h' eb => ⟨rfl, I.turned (t' := s.toks) (fun b o hb q => eb b o hb q) f0 f1 f3 f4 f5⟩
  self := fun A i s Q E st h => let ⟨⟨_, he⟩, _⟩ := st; wpAny_pyIter_enum he h
def iEnumT (K : PySem.W.Frag) (ta : TA) : TI := fun σ H R => ta σ H fun vs H1 => ∃ a xs, vs = [.ref a] ∧ SqT K H1 a xs ∧ R (IteT K a) H1
theorem pi_enumT {X : Cx} {e : Expr} {ta : TA} {p pos tpos : Pos} {elts : List Expr} {kk : Nat} (hg : Gl X "enumerate") (hm : X.mg "enumerate" = none) (ha : PA X [e] ta) (hs : starEach [e] X.env = [(false, eval e X.env)] := by rfl) :
    PI X (.Tuple elts kk tpos) (.Call (.Name "enumerate" p) [e] [] pos) (iEnumT X.K ta) := by
  refine ⟨fun pins s σ H R I h => ?_⟩
  refine Call_ (ld_blt I hg hm boot_enumerate (PyProof.Rows.callWith_type1 (thn (ha.run pos pins s σ H _ I h) fun us s1 ⟨vs, H1, I1, r1, q1⟩ => ?_) hs rfl))
  obtain ⟨a, xs, ex, hq, q⟩ := q1
  subst ex
  cases r1 with
  | cons r rr =>
    cases rr
    cases r
    obtain ⟨its, rv, p', hz⟩ := I1.tuple hq
    have la : a < s1.heap.objs.size := by obtain ⟨_, z, _⟩ := p'; exact Heap.lt_size z
    refine enum_at (begins_tuple a its.toArray) p' fun h' he ho hsz hk => wpAny_pyIter_enum he ?_
    have I2 : Inv X pins σ H1 { s1 with heap := h' } := I1.kept (t' := s1.toks) hk
    refine ⟨s1.heap.objs.size + 1, [s1.heap.objs.size + 1, s1.heap.objs.size], _, _, H1, rfl, I2, turn_enumT a (s1.heap.objs.size + 1) s1.heap.objs.size, ⟨⟨.none, he⟩, ⟨_, ho, rfl, rfl⟩, Nat.succ_ne_self _, Nat.ne_of_lt la, Nat.ne_of_lt (Nat.lt_succ_of_lt la)⟩, fun b hb => ?_, q⟩
    have e' : b = s1.heap.objs.size + 1 ∨ b = s1.heap.objs.size := by simpa using hb
    have hle : s1.heap.objs.size ≤ b := by
      rcases e' with z | z
      · rw [z]; exact Nat.le_add_right _ _
      · rw [z]; exact Nat.le_refl _
    exact I1.fpOk hle (I1.hok.fresh hle)
theorem walk_enumT {K : PySem.W.Frag} {a : Addr} {xs : List V} : Walk (IteT K a) xs.length (fun H => SqT K H a xs) (YPair (fun i => some (.int (i : Nat))) (fun i => xs[i]?)) := by
  refine ⟨fun i _ hi q => ⟨xs, xs[i], q, by simp [hi]⟩, fun _ q => ⟨xs, q, Nat.le_refl _⟩, fun i H v H' _ q y => ?_⟩
  obtain ⟨T, x, h1, h2, h3, h4⟩ := y
  exact ⟨T, .int (i : Nat), x, h1, h2, h3, rfl, h4 xs q⟩
/-- is not True -/
theorem op_notTrue {X : Cx} : OpR X (compareOp .IsNot) (fun x y H Q => ∃ b, x = .bl b ∧ y = .bl true ∧ Q (.bl (!b)) H) := by
  intro pins s σ H x y v u Q I rx ry h
  obtain ⟨b, rfl, rfl, q⟩ := h
  cases rx
  cases ry
  refine isnot_bool (fin_bl I q ?_)
  cases b <;> rfl
/-! ### places, sets of places, cuts (k38, k39) -/
theorem tab_but {H H' : Hp} {f c P : Addr} {n : Int} (hf : Fd H f c n) (b : But f H H') (h : H P = some (TabO P)) : H' P = some (TabO P) := by
  obtain ⟨zs, hz⟩ := hf.at
  exact b P _ (ne_of h hz (fun z => by unfold TabO at z; exact nomatch z)) h
def Tabs (H : Hp) (ts : List Addr) : Prop := ∀ t ∈ ts, H t = some (TabO t)
theorem Tabs.same {H H' : Hp} {ts : List Addr} (s : Same H H') (h : Tabs H ts) : Tabs H' ts := fun t ht => s _ _ (h t ht)
def spRises (P : Addr) : Sp := fun vs H Q _ => ∃ (t : Addr) (ys : List Str), vs = [.ref t] ∧ H t = some (.tup (ys.map V.str)) ∧ ys.Pairwise sl ∧ ys.length ≤ 40 ∧ H P = some (TabO P) ∧ ∀ H', Same H H' → Q (.bl true) H'
def spPlOf : Sp := fun vs H Q _ => ∃ (o : Addr) (ws : List Wt) (E : List Ed), vs = [.ref o] ∧ OfAt H o ws E ∧ E.length ≤ 16 ∧
  ∀ (t : Addr) (pl : List Str) (H' : Hp), Same H H' → H t = none → H' t = some (.tup (pl.map V.str)) → pl.Pairwise sl → (∀ y, y ∈ pl ↔ plc E y) → pl.length ≤ 33 → Q (.ref t) H'
def spIsSet (P1 P2 : Addr) : Sp := fun vs H Q _ => ∃ (o t : Addr) (ws : List Wt) (E : List Ed) (ys : List Str), vs = [.ref o, .ref t] ∧ OfAt H o ws E ∧ E.length ≤ 16 ∧ H t = some (.tup (ys.map V.str)) ∧ ys.Pairwise sl ∧ ys.length ≤ 40 ∧ (∀ y ∈ ys, plc E y) ∧
  H P1 = some (TabO P1) ∧ H P2 = some (TabO P2) ∧ ∀ H', Same H H' → Q (.bl true) H'
def Shut (E : List Ed) (ys : List Str) : Prop := ∀ e ∈ E, e.1 ∈ ys → e.2 ∈ ys
def spLetsCut (P1 P2 : Addr) : Sp := fun vs H Q _ => ∃ (o t : Addr) (x y : Str) (ws : List Wt) (E : List Ed) (ys : List Str), vs = [.ref o, .str x, .str y, .ref t] ∧ OfAt H o ws E ∧ E.length ≤ 16 ∧ H t = some (.tup (ys.map V.str)) ∧ ys.Pairwise sl ∧ ys.length ≤ 40 ∧ (∀ y ∈ ys, plc E y) ∧
  Shut E ys ∧ x ∈ ys ∧ y ∉ ys ∧ H P1 = some (TabO P1) ∧ H P2 = some (TabO P2) ∧ ∀ H', Same H H' → Q (.bl true) H'
def CutV (H : Hp) (E : List Ed) (x y : Str) (v : V) : Prop := (v = .non ∧ ∃ n, Wlk E n x y) ∨ ∃ (t : Addr) (ys : List Str), v = .ref t ∧ H t = some (.tup (ys.map V.str)) ∧ ys.Pairwise sl ∧ (∀ z, z ∈ ys ↔ ∃ n, Wlk E n x z) ∧ ys.length ≤ 17 ∧ y ∉ ys
def spCutOf : Sp := fun vs H Q _ => ∃ (o : Addr) (x y : Str) (ws : List Wt) (E : List Ed), vs = [.ref o, .str x, .str y] ∧ OfAt H o ws E ∧ E.length ≤ 16 ∧ ∀ (v : V) (H' : Hp), Same H H' → CutV H' E x y v → Q v H'
def spIsCut : Sp := fun vs H Q _ => ∃ (o l t : Addr) (x y : Str) (ws : List Wt) (E : List Ed) (pl ys : List Str), vs = [.ref o, .ref l, .str x, .str y, .ref t] ∧ OfAt H o ws E ∧ OfOk ws E ∧ H l = some (.lst (pl.map V.str)) ∧ pl.Pairwise sl ∧ (∀ y, y ∈ pl ↔ plc E y) ∧ pl.length ≤ 33 ∧
  H t = some (.tup (ys.map V.str)) ∧ ys.Pairwise sl ∧ ys.length ≤ 40 ∧ (∀ y ∈ ys, plc E y) ∧ Shut E ys ∧ x ∈ ys ∧ y ∉ ys ∧ ∀ H', Same H H' → Q (.bl true) H'
def spRightC (P1 P2 : Addr) : Sp := fun vs H Q _ => ∃ (o : Addr) (ws : List Wt) (E : List Ed), vs = [.ref o] ∧ OfAt H o ws E ∧ OfOk ws E ∧ H P1 = some (TabO P1) ∧ H P2 = some (TabO P2) ∧ ∀ H', Same H H' → Q (.bl true) H'
def strsL (xs : List Str) : PyData := .list (xs.map .str)
theorem strs_dpL {K : PySem.W.Frag} {H : Hp} {t : Addr} {xs : List Str} (h : SqL K H t (xs.map V.str)) : Dp K H (.ref t) (strsL xs) := by
  refine .lst h ?_
  clear h
  induction xs with
  | nil => exact .nil
  | cons x l ih => exact .cons (.str x) ih
theorem strs_plainL (xs : List Str) : (strsL xs).plain = true := by
  show PyData.plainAll (xs.map .str) = true
  induction xs with
  | nil => rfl
  | cons x l ih =>
    rw [List.map_cons]
    simp only [PyData.plainAll, ih, PyData.plain, Bool.and_self]
theorem strs_eqvs : ∀ a b : List Str, PyData.eqvAll (a.map .str) (b.map .str) = decide (a = b)
  | [], [] => rfl
  | [], b :: bs => rfl
  | a :: as, [] => rfl
  | a :: as, b :: bs => by
    simp only [List.map_cons, PyData.eqvAll, PyData.eqv, strs_eqvs as bs]
    rw [Bool.eq_iff_iff]
    simp
theorem strs_depL (xs : List Str) : (strsL xs).depth ≤ 60 := by
  have z : PyData.depthAll (xs.map .str) ≤ 3 := by
    induction xs with
    | nil => simp [PyData.depthAll]
    | cons s l ih => rw [List.map_cons]; simp only [PyData.depthAll, PyData.depth] at *; omega
  simp only [strsL, PyData.depth]
  omega
theorem strs_eqvL (a : List Str) : PyData.eqv (strsL a) (strsL a) = true := by
  show PyData.eqvAll (a.map .str) (a.map .str) = true
  rw [strs_eqvs]
  exact decide_eq_true rfl
theorem plc_few {E : List Ed} {ys : List Str} (h : E.length ≤ 16) (up : ys.Pairwise sl) (p : ∀ y ∈ ys, plc E y) : ys.length ≤ 33 := by
  have nd : ys.Nodup := up.imp fun {a b} h => fun z => by
    subst z
    exact sl_irr _ h
  have z := sub_len (m := gNone :: (E.map (·.1) ++ E.map (·.2))) nd fun v hv => by
    rcases p v hv with rfl | ⟨e, he, rfl | rfl⟩
    · exact List.mem_cons_self
    · exact List.mem_cons_of_mem _ (List.mem_append_left _ (List.mem_map.mpr ⟨e, he, rfl⟩))
    · exact List.mem_cons_of_mem _ (List.mem_append_right _ (List.mem_map.mpr ⟨e, he, rfl⟩))
  rw [List.length_cons, List.length_append, List.length_map, List.length_map] at z
  omega
theorem wlk_shut {E : List Ed} {x : Str} {ys : List Str} (m : ∀ z, z ∈ ys ↔ ∃ n, Wlk E n x z) : Shut E ys := fun e he h => by
  obtain ⟨n, w⟩ := (m _).mp h
  exact (m _).mpr ⟨n + 1, e.1, w, he⟩
theorem wlk_plc {E : List Ed} {x y : Str} {n : Nat} (hx : plc E x) (h : Wlk E n x y) : plc E y := by
  cases n with
  | zero =>
    cases (show x = y from h)
    exact hx
  | succ n =>
    obtain ⟨z, _, k⟩ := h
    exact .inr ⟨(z, y), k, .inr rfl⟩
/-! ### tuple(list) known to have no dict, dict(tuple of pairs) -/
section
variable {X : Cx}
def rTupF (K : PySem.W.Frag) : List V → Hp → VK → Prop := fun xs H Q => ∃ (p : Addr) (ys : List V), xs = [.ref p] ∧ SqL K H p ys ∧ ∀ l o, H l = none → Tpl o → Q (.ref l) (upd H l (.frz o (.tup ys)))
theorem call_tupleF : CallR X (.type "tuple") (rTupF X.K) := by
  intro pins s σ H xs us Q I r h
  obtain ⟨p, ys, rfl, hq, q⟩ := h
  obtain ⟨u, rfl, rx⟩ := vals1 r
  cases rx
  obtain ⟨its, r', pl, hz⟩ := I.list hq
  have hlen := r'.length
  refine call_tuple_list pl.isList (fun h' kp => ?_) (by simp only [List.size_toArray] <;> omega)
  have I1 : Inv X pins σ H { s with heap := h' } := I.kept (t' := s.toks) kp
  have new : (h'.push { cls := .type "tuple", data := .seq its.toArray }).get? h'.objs.size = some { cls := .type "tuple", data := .seq its.toArray } := Heap.get?_push_size _ rfl
  have I2 : Inv X pins σ (upd H h'.objs.size (.frz { cls := .type "tuple", data := .seq its.toArray } (.tup ys))) { s with heap := h'.push { cls := .type "tuple", data := .seq its.toArray } } :=
    I1.laid (t' := s.toks) (fun b o e => Heap.get?_push_of_some _ e) (Nat.le_refl _) ⟨new, hz, its, r', IsTup.new _ _⟩
  exact ⟨.ref h'.objs.size, _, I2, rfl, q _ _ (I1.hok.fresh (Nat.le_refl _)) ⟨rfl, rfl⟩⟩
theorem pairs_ofT {pins : List (Addr × Obj)} {σ : L2.St} {H : Hp} {s : Shared} (I : Inv X pins σ H s) : ∀ {ps : List Addr} {kvs : List (Key × V)}, Paired (fun p kv => SqT X.K H p [kV kv.1, kv.2]) ps kvs →
    ∃ (prs : List (Key × Value)) (vs : List (Value × Value)), KV kvs prs ∧ prs.length = ps.length ∧ vs.length = ps.length ∧ ∀ (j : Nat) (u v : Value), vs[j]? = some (u, v) → ∃ (b : Addr) (k : Key), ps[j]? = some b ∧ IsTup s.heap b #[u, v] ∧ prs[j]? = some (k, v) ∧ keyIs k u = true
  | _, _, .nil => ⟨[], [], .nil, rfl, rfl, fun j u v e => by simp at e⟩
  | _, _, .cons (a := p) (b := kv) h t => by
    obtain ⟨prs, vs, r, hl, hl2, hp⟩ := pairs_ofT I t
    obtain ⟨its, rv, ht, _⟩ := I.tuple h
    obtain ⟨u, y, ei, ru, ry⟩ := vals2 rv
    subst ei
    refine ⟨(kv.1, y) :: prs, (u, y) :: vs, .cons ⟨rfl, ry⟩ r, by rw [List.length_cons, List.length_cons, hl], by rw [List.length_cons, List.length_cons, hl2], fun j u' v' e => ?_⟩
    cases j with
    | zero =>
      cases Option.some.inj e
      exact ⟨p, kv.1, rfl, ht, rfl, kV_is (P := X.prog) (w := X.w) ru⟩
    | succ j =>
      obtain ⟨b, k, e1, e2, e3⟩ := hp j u' v' (by simpa using e)
      exact ⟨b, k, by simpa using e1, e2, by simpa using e3⟩
def rDictT (K : PySem.W.Frag) : List V → Hp → VK → Prop := fun xs H Q => ∃ (a : Addr) (o : Obj) (ps : List Addr) (kvs : List (Key × V)), xs = [.ref a] ∧ H a = some (.frz o (.tup (ps.map V.ref))) ∧ Tpl o ∧ Paired (fun p kv => SqT K H p [kV kv.1, kv.2]) ps kvs ∧
    ∀ p, H p = none → Q (.ref p) (upd H p (.dK (mergeK [] kvs)))
theorem call_dictT (hcalm : X.calm = true) : CallR X (.type "dict") (rDictT X.K) := by
  intro pins s σ H xs us Q I r q
  obtain ⟨a, o, ps, kvs, ex, hq, ⟨tc, td⟩, hp, q⟩ := q
  subst ex
  obtain ⟨u, eu, rx⟩ := vals1 r
  subst eu
  cases rx
  obtain ⟨at1, hz, its, rv, o', e', c', n, d'⟩ := I.hok a _ hq
  have eo : o' = o := Option.some.inj (e'.symm.trans at1)
  subst eo
  have ei := refs_at rv
  subst ei
  rw [List.length_map] at hz
  obtain ⟨prs, vs, rel, hl, hl2, hpr⟩ := pairs_ofT I hp
  have items : PairItems s.heap (ps.map Value.ref).toArray (fun j => (ps[j]?).getD 0) vs := by
    refine ⟨by simp [hl2], fun j k v e => ?_⟩
    obtain ⟨b, kk, e1, e2, _⟩ := hpr j k v e
    dsimp only
    rw [e1]
    refine ⟨by simp [e1], ?_⟩
    exact .inl e2
  refine PySem.call_dict_pairs (knd := mixKind X.prog X.w) (kvs := prs) (PairArg.tuple a (ps.map Value.ref).toArray (fun j => (ps[j]?).getD 0) vs) (I.ok.hd hcalm) ⟨⟨o', n, e', c', td, d'⟩, items⟩ ⟨by rw [hl, hl2], fun i key v e => ?_⟩ (by rw [hl2]; exact hz) fun h' tk hd' k => ?_
  · obtain ⟨b, kk, e1, e2, e3, e4⟩ := hpr i key v e
    exact ⟨kk, e3, e4⟩
  · have hm : (s.heap.objs.size == sysModules) = false := beq_eq_false_iff_ne.mpr (Nat.ne_of_gt I.big)
    have hlen : (mergeK [] kvs).length ≤ sizeLine := by
      refine Nat.le_trans (length_mergeK kvs []) ?_
      rw [List.length_nil, Nat.zero_add, rel.length, hl]
      exact hz
    exact ⟨.ref s.heap.objs.size, upd H s.heap.objs.size (.dK (mergeK [] kvs)), I.laid (t' := tk) (fun b o e => k b o (nomatch ·) e) (Nat.le_refl _) (show ObjOk X.prog X.w _ _ _ (.dK (mergeK [] kvs)) from ⟨hlen, hm, merged [] prs, KV.merge rel .nil, hd'⟩), rfl, q _ (I.hok.fresh (Nat.le_refl _))⟩
end
theorem merge_val {k : Key} : ∀ {more kvs : List (Key × V)}, (more.map Prod.fst).Nodup → (k ∈ more.map Prod.fst → valV (mergeK kvs more) k = valV more k) ∧ (k ∉ more.map Prod.fst → valV (mergeK kvs more) k = valV kvs k) := fun {more} => by
  induction more with
  | nil => exact fun _ => ⟨fun h => (nomatch h), fun _ => rfl⟩
  | cons p r ih =>
    intro kvs nd
    rw [List.map_cons, List.nodup_cons] at nd
    have e : mergeK kvs (p :: r) = mergeK (putK kvs p.1 p.2) r := rfl
    obtain ⟨i1, i2⟩ := ih (kvs := putK kvs p.1 p.2) nd.2
    rw [e, List.map_cons]
    by_cases c : p.1 = k
    · subst c
      rw [i2 nd.1, valV_put, if_pos rfl, valV_pos rfl]
      exact ⟨fun _ => rfl, fun h => (h List.mem_cons_self).elim⟩
    · refine ⟨fun h => ?_, fun h => ?_⟩
      · rcases List.mem_cons.mp h with h | h
        · exact (c h.symm).elim
        · rw [i1 h, valV_neg c]
      · rw [i2 fun z => h (List.mem_cons_of_mem _ z), valV_put, if_neg (Ne.symm c)]
def rLenS (K : PySem.W.Frag) : List V → Hp → VK → Prop := fun xs H Q => ∃ (p : Addr) (ys : List V), xs = [.ref p] ∧ (SqL K H p ys ∨ SqT K H p ys) ∧ Q (.int (ys.length : Int)) H
/-! ### a refusal of two fields: what __init__ does, and a refusal made (isinstance and e.f as for one field, with Rf for each field) -/
def spIn2 (C : Addr) (f g : Str) : Sp := fun vs H Q _ => ∃ (a : Addr) (x y : V), vs = [.ref a, x, y] ∧ H a = some (exo a C none) ∧
  ∀ dx, H dx = none → dx ≠ a → Q .non (upd (upd (upd H dx (exd dx [(f, x)])) a (exo a C (some dx))) dx (exd dx [(g, y), (f, x)]))
theorem init_ok2 {P : Program} {w : World} {K : PySem.W.Frag} {mg : Str → Option Value} {base : Heap} {qual f g : Str} {st : Stmt} {fI C : Addr} {fd : FuncData} {N : List Str} {ps : List Str} {k : Nat} (F : Fun K "__init__" qual st fI fd) (S : FnScope N ps (defScope st)) (hp : ps.length = 3)
    (T : OexC K C) (no : PySem.W.findIn K (.ref C) f = some none) (no2 : PySem.W.findIn K (.ref C) g = some none)
    (hb : ∀ (X : Cx), X.N = N → X.K = K → X.env.scope = defScope st → PSs X (defBody st) (tSeq (tOst X.K f (tVar 0) (tVar 1)) (tOst X.K g (tVar 0) (tVar 2)))) (hN : N = ps) : FnOk P w K mg base CX0 (k + 1) fI fd ps (spIn2 C f g) := by
  refine F.ok S (fun vs H Q E h => ?_) (fun cdv A outer s H vs Q E hr h => ?_)
  · obtain ⟨a, x, y, rfl, _⟩ := h
    exact hp.symm
  · obtain ⟨a, x, y, rfl, ha, q⟩ := h
    refine ⟨_, hb _ rfl rfl rfl, ?_⟩
    subst hN
    match N, hp with
    | [n1, n2, n3], _ =>
      refine ⟨_, rfl, _, rfl, a, C, rfl, T, no, Or.inl ⟨ha, fun dx hdx ne => ?_⟩⟩
      exact ⟨_, rfl, _, rfl, a, C, rfl, T, no2, Or.inr ⟨dx, [(f, x)], upd_same, (upd_ne ne).trans upd_same, (show 1 ≤ 900 by decide), q dx hdx ne⟩⟩
theorem mk_read2 {C : Addr} {f g : Str} {v u : V} {H : Hp} {Q : XK} (h : ∀ d H', H d = none → Same H H' → H' d = some (.xd [(g, u), (f, v)]) → Q (.ref C) (some d) H') :
    [v, u].length ≤ 1000 ∧ ∀ a, H a = none → spIn2 C f g (.ref a :: ([v, u] ++ [])) (upd H a (exo a C none))
      (fun r H2 => r = .non ∧ ∃ (d : Addr) (fs : List (Str × V)), H2 a = some (exo a C (some d)) ∧ H2 d = some (exd d fs) ∧ H d = none ∧ Q (.ref C) (some d) (upd (del H2 a) d (.xd fs))) (fun _ _ _ => False) := by
  refine ⟨(show 2 ≤ 1000 by decide), fun a ha => ⟨a, v, u, rfl, upd_same, fun dx hdx ne => ?_⟩⟩
  rw [upd_ne ne] at hdx
  refine ⟨rfl, dx, [(g, u), (f, v)], (upd_ne (Ne.symm ne)).trans upd_same, upd_same, hdx, h dx _ hdx (fun b o e => ?_) upd_same⟩
  have n1 : b ≠ dx := ne_of_none e hdx
  have n2 : b ≠ a := ne_of_none e ha
  rw [upd_ne n1, del_ne n2, upd_ne n1, upd_ne n2, upd_ne n1, upd_ne n2]
  exact e
theorem look2 {f g : Str} {v u : V} (h : f ≠ g) : List.lookup f [(g, u), (f, v)] = some v := by
  have e : (f == g) = false := by simpa using h
  simp [List.lookup, e]
theorem look2' {f g : Str} {v u : V} : List.lookup g [(g, u), (f, v)] = some u := by simp [List.lookup]
/-! ### k38: things of mixed kinds, judged -/
def nextB (ys : List Str) (i : Nat) : Bool := match ys[i]?, ys[i + 1]? with
  | some a, some b => decide (a.cps.toList < b.cps.toList)
  | _, _ => true
def upB (ys : List Str) : Bool := ((List.range (((ys.map V.str).length : Int) - 1).toNat).filter fun _ => true).all (nextB ys)
theorem upB_iff (ys : List Str) : upB ys = true ↔ ys.Pairwise sl := by
  unfold upB
  rw [List.all_eq_true]
  constructor
  · intro h
    have step : ∀ i a b, ys[i]? = some a → ys[i + 1]? = some b → sl a b := fun i a b ha hb => by
      have l := (List.getElem?_eq_some_iff.mp hb).1
      have z := h i (List.mem_filter.mpr ⟨List.mem_range.mpr (by rw [List.length_map]; omega), rfl⟩)
      unfold nextB at z
      rw [ha, hb] at z
      exact of_decide_eq_true (p := a.cps.toList < b.cps.toList) z
    rw [List.pairwise_iff_getElem]
    have chain : ∀ d i (h1 : i < ys.length) (h2 : i + d + 1 < ys.length), sl ys[i] ys[i + d + 1] := fun d => by
      induction d with
      | zero => exact fun i h1 h2 => step i _ _ (List.getElem?_eq_getElem h1) (List.getElem?_eq_getElem h2)
      | succ d ih =>
        intro i h1 h2
        exact sl_tr (ih i h1 (by omega)) (step (i + d + 1) _ _ (List.getElem?_eq_getElem (by omega)) (List.getElem?_eq_getElem h2))
    intro i j hi hj hij
    have z := chain (j - i - 1) i hi (by omega)
    have e : i + (j - i - 1) + 1 = j := by omega
    simpa [e] using z
  · intro h i hi
    have hi := List.mem_range.mp (List.mem_filter.mp hi).1
    rw [List.length_map] at hi
    unfold nextB
    rw [List.getElem?_eq_getElem (show i < ys.length by omega), List.getElem?_eq_getElem (show i + 1 < ys.length by omega)]
    exact decide_eq_true (p := _ < _) (List.pairwise_iff_getElem.mp h i (i + 1) (by omega) (by omega) (Nat.lt_succ_self _))
def spRisesM (P : Addr) : Sp := fun vs H Q _ => ∃ (t : Addr) (ys : List Str), vs = [.ref t] ∧ H t = some (.tup (ys.map V.str)) ∧ ys.length ≤ 100 ∧ H P = some (TabO P) ∧ ∀ H', Same H H' → Q (.bl (upB ys)) H'
/-- a tuple of parts of any kind, read as data -/
def GoodT (E : List Ed) (ds : List PyData) : Prop := ∃ ys : List Str, ds = ys.map .str ∧ (∀ y ∈ ys, plc E y) ∧ ys.Pairwise sl
def spIsSetM (K : PySem.W.Frag) (P1 P2 : Addr) : Sp := fun vs H Q _ => ∃ (o t : Addr) (ws : List Wt) (E : List Ed) (xs : List V) (ds : List PyData), vs = [.ref o, .ref t] ∧ OfAt H o ws E ∧ E.length ≤ 16 ∧ H t = some (.tup xs) ∧ DpAll K H xs ds ∧ xs.length ≤ 100 ∧ (∀ d ∈ ds, d.plain = true ∧ d.depth ≤ 10) ∧
  H P1 = some (TabO P1) ∧ H P2 = some (TabO P2) ∧ ∀ (b : Bool) (H' : Hp), Same H H' → (b = true ↔ GoodT E ds) → Q (.bl b) H'
/-- a part is one of the places -/
def inPl (pl : List Str) (d : PyData) : Bool := (pl.map PyData.str).any fun z => PyData.eqv z d
theorem inPl_iff (pl : List Str) (d : PyData) : inPl pl d = true ↔ ∃ y ∈ pl, d = .str y := by
  unfold inPl
  rw [List.any_map, List.any_eq_true]
  constructor
  · rintro ⟨y, hy, e⟩
    have e : PyData.eqv (.str y) d = true := e
    cases d <;> simp [PyData.eqv] at e
    · exact ⟨y, hy, by rw [e]⟩
  · rintro ⟨y, hy, rfl⟩
    exact ⟨y, hy, by simp [PyData.eqv]⟩
theorem strs_of {K : PySem.W.Frag} {H : Hp} : ∀ {xs : List V} {ys : List Str}, DpAll K H xs (ys.map .str) → xs = ys.map V.str
  | [], [], _ => rfl
  | x :: xs, y :: ys, h => by
    rw [List.map_cons] at h
    cases h with
    | cons a b =>
      cases a
      rw [List.map_cons, ← strs_of b]
def allPl (pl : List Str) (ds : List PyData) : Bool := ((List.range ds.length).filter fun _ => true).all fun i => (ds[i]?).elim true (inPl pl)
theorem allPl_iff (pl : List Str) (ds : List PyData) : allPl pl ds = true ↔ ∃ ys : List Str, ds = ys.map .str ∧ ∀ y ∈ ys, y ∈ pl := by
  unfold allPl
  rw [List.all_eq_true]
  have key : (∀ i ∈ (List.range ds.length).filter fun _ => true, ((ds[i]?).elim true (inPl pl)) = true) ↔ ∀ d ∈ ds, inPl pl d = true := by
    constructor
    · intro h d hd
      obtain ⟨i, hi, e⟩ := List.getElem_of_mem hd
      have z := h i (List.mem_filter.mpr ⟨List.mem_range.mpr hi, rfl⟩)
      rw [List.getElem?_eq_getElem hi, e] at z
      exact z
    · intro h i hi
      have hi := List.mem_range.mp (List.mem_filter.mp hi).1
      rw [List.getElem?_eq_getElem hi]
      exact h _ (List.getElem_mem hi)
  rw [key]
  clear key
  constructor
  · intro h
    induction ds with
    | nil => exact ⟨[], rfl, fun _ z => nomatch z⟩
    | cons d ds ih =>
      obtain ⟨ys, e, hy⟩ := ih fun x hx => h x (List.mem_cons_of_mem _ hx)
      obtain ⟨y, y1, y2⟩ := (inPl_iff _ _).mp (h d List.mem_cons_self)
      exact ⟨y :: ys, by rw [y2, e]; rfl, fun z hz => (List.mem_cons.mp hz).elim (fun q => q ▸ y1) (hy z)⟩
  · rintro ⟨ys, rfl, hy⟩ d hd
    obtain ⟨y, h1, rfl⟩ := List.mem_map.mp hd
    exact (inPl_iff _ _).mpr ⟨y, hy y h1, rfl⟩
theorem strs_inj : ∀ {a b : List Str}, a.map PyData.str = b.map PyData.str → a = b
  | [], [], _ => rfl
  | x :: a, y :: b, h => by
    rw [List.map_cons, List.map_cons] at h
    injection h with h1 h2
    injection h1 with h1
    rw [h1, strs_inj h2]
/-- the thing is no tuple -/
def NoTup (K : PySem.W.Frag) (H : Hp) (x : V) : Prop := ∃ ty : Value, TyX K H x ty ∧ PySem.W.kitOne K ty (.type "tuple") = some false
def spNoSet (K : PySem.W.Frag) : Sp := fun vs H Q _ => ∃ (o : Addr) (x : V) (ws : List Wt) (E : List Ed), vs = [.ref o, x] ∧ OfAt H o ws E ∧ E.length ≤ 16 ∧ (∀ H', Same H H' → NoTup K H' x) ∧ ∀ H', Same H H' → Q (.bl false) H'
def spIsSetA (K : PySem.W.Frag) (P1 P2 : Addr) : Sp := fun vs H Q E => spIsSetM K P1 P2 vs H Q E ∨ spNoSet K vs H Q E
def leaveAt (E : List Ed) (ys : List Str) : Option Nat := E.findIdx? fun e => decide (e.1 ∈ ys) && !decide (e.2 ∈ ys)
def verd (E : List Ed) (x y : Str) (ys : List Str) : Option (Str × Int) := match leaveAt E ys with
  | some k => some (("leaves" : String), (k : Int))
  | none => if x ∈ ys then (if y ∈ ys then some (("to" : String), 0) else none) else some (("from" : String), 0)
/-- what is refused of a tuple -/
def VerdT (E : List Ed) (x y : Str) (ds : List PyData) (w : Str) (k : Int) : Prop := (¬ GoodT E ds ∧ w = ("shape" : String) ∧ k = -1) ∨ ∃ ys : List Str, ds = ys.map .str ∧ GoodT E ds ∧ verd E x y ys = some (w, k)
def NoP (H : Hp) (d : Addr) (w : Str) (k : Int) : Prop := H d = some (.xd [("place", .int k), ("word", .str w)])
def spLetsM (K : PySem.W.Frag) (P1 P2 C : Addr) : Sp := fun vs H Q X => ∃ (o t : Addr) (x y : Str) (ws : List Wt) (E : List Ed) (xs : List V) (ds : List PyData), vs = [.ref o, .str x, .str y, .ref t] ∧ OfAt H o ws E ∧ E.length ≤ 16 ∧ H t = some (.tup xs) ∧ DpAll K H xs ds ∧ xs.length ≤ 100 ∧ (∀ d ∈ ds, d.plain = true ∧ d.depth ≤ 10) ∧
  H P1 = some (TabO P1) ∧ H P2 = some (TabO P2) ∧ (∀ ys : List Str, ds = ys.map .str → GoodT E ds → verd E x y ys = none → ∀ H', Same H H' → Q (.bl true) H') ∧
  ∀ w k, VerdT E x y ds w k → ∀ d H', H d = none → Same H H' → NoP H' d w k → X (.ref C) (some d) H'
def spLetsN (K : PySem.W.Frag) (C : Addr) : Sp := fun vs H Q X => ∃ (o : Addr) (x y : Str) (z : V) (ws : List Wt) (E : List Ed), vs = [.ref o, .str x, .str y, z] ∧ OfAt H o ws E ∧ E.length ≤ 16 ∧ (∀ H', Same H H' → NoTup K H' z) ∧
  ∀ d H', H d = none → Same H H' → NoP H' d ("shape" : String) (-1) → X (.ref C) (some d) H'
def spLetsA (K : PySem.W.Frag) (P1 P2 C : Addr) : Sp := fun vs H Q X => spLetsM K P1 P2 C vs H Q X ∨ spLetsN K C vs H Q X
theorem NoTup.ref {K : PySem.W.Frag} {H : Hp} {x : V} (h : NoTup K H x) : NoTup K H x := h
theorem leave_none {E : List Ed} {ys : List Str} {i : Nat} (h : ∀ j : Nat, j < i → ∀ e : Ed, E[j]? = some e → ¬ (e.1 ∈ ys ∧ e.2 ∉ ys)) {e : Ed} (he : E[i]? = some e) (c1 : e.1 ∈ ys) (c2 : e.2 ∉ ys) : leaveAt E ys = some i := by
  unfold leaveAt
  rw [List.findIdx?_eq_some_iff_getElem]
  obtain ⟨hi, ei⟩ := List.getElem?_eq_some_iff.mp he
  refine ⟨hi, by rw [ei]; simp [c1, c2], fun j hj => ?_⟩
  have z := h j hj _ (List.getElem?_eq_getElem (by omega))
  simp only [Bool.not_eq_true', Bool.and_eq_true, decide_eq_true_eq]
  exact fun k => z ⟨k.1, of_decide_eq_false (by simpa using k.2)⟩
theorem leave_end {E : List Ed} {ys : List Str} (h : ∀ (j : Nat) (e : Ed), E[j]? = some e → ¬ (e.1 ∈ ys ∧ e.2 ∉ ys)) : leaveAt E ys = none := by
  unfold leaveAt
  rw [List.findIdx?_eq_none_iff]
  intro e he
  obtain ⟨j, hj⟩ := List.mem_iff_getElem?.mp he
  have z := h j e hj
  by_cases c : e.1 ∈ ys <;> by_cases d : e.2 ∈ ys <;> simp [c, d] at z ⊢
def spDrawn : Sp := fun vs H Q _ => ∃ (f c P0 A : Addr) (x y : Str) (n : Int) (pl : List Str) (kvs : List (List Key × V)) (d : Ap), vs = [.ref f, .ref P0, .ref A, .str x, .str y] ∧ Fd H f c n ∧ n ≤ 900000 ∧ H P0 = some (.lst (pl.map V.str)) ∧ P0 ≠ f ∧ pl.length ≤ 33 ∧ H A = some (.dT kvs) ∧ A ≠ f ∧ apOf d kvs ∧
  ∀ (t : Addr) (ys : List Str) (H' : Hp), Fd H' f c (n + 40) → But f H H' → H' t = some (.tup (ys.map V.str)) → ys.length ≤ 33 → (∀ z ∈ ys, z ∈ pl) → Q (.ref t) H'
/-! ### a refusal handed to a def within the suite that holds it -/
structure FnP (P : Program) (w : World) (K : PySem.W.Frag) (mg : Str → Option Value) (base : Heap) (k : Nat) (f : Addr) (fd : FuncData) (ps : List Str) (sp : Addr → Value → Option Addr → Sp) : Prop where
  len : ∀ a c d vs H Q E, sp a c d vs H Q E → vs.length = ps.length
  run : ∀ (A : Around) (outer : List Env) (s : Shared) (H : Hp) (args : Args) (us : List Value) (vs : List V) (Q : VK) (E : XK) (p : Addr × Obj) (cls : Value) (d : Option Addr),
    L2H.RoomH k A → L2H.PinOk outer H s p → Zc cls d p.2 → (∃ ys, p.2.data = .fields ys) → Env0 P w K mg base A outer s H → BindsTo s fd args (ps.zip us) → Vals vs us → sp p.1 cls d vs H Q E →
    codeAny (model P w) A (.call (.ref f) args) (CR CX0 outer P w H s Q E) s
theorem FnP.mono {P : Program} {w : World} {K : PySem.W.Frag} {mg : Str → Option Value} {base : Heap} {j k : Nat} {f : Addr} {fd : FuncData} {ps : List Str} {sp : Addr → Value → Option Addr → Sp} (F : FnP P w K mg base j f fd ps sp) (h : j ≤ k) : FnP P w K mg base k f fd ps sp :=
  ⟨F.len, fun A outer s H args us vs Q E p cls d room => F.run A outer s H args us vs Q E p cls d (room.mono h)⟩
section
variable {P : Program} {w : World} {K : PySem.W.Frag} {mg : Str → Option Value} {base : Heap}
theorem okP {x qual : Str} {st : Stmt} {f : Addr} {fd : FuncData} {N ps : List Str} {k : Nat} {sp : Addr → Value → Option Addr → Sp}
    (F : Fun K x qual st f fd) (S : FnScope N ps (defScope st)) (hlen : ∀ a c d vs H Q E, sp a c d vs H Q E → vs.length = ps.length)
    (hb : ∀ (cdv : Value) (A : Around) (outer : List Env) (s : Shared) (H : Hp) (vs : List V) (Q : VK) (E : XK) (a : Addr) (oe : Obj) (cls : Value) (d : Option Addr),
      L2H.RoomH k (A.deeper (envOfC qual (defScope st) s.heap.objs.size f cdv)) → Zc cls d oe → (∃ ys, oe.data = .fields ys) →
      sp a cls d vs H Q E → ∃ t, PSs (L2H.cxH CX0 P w K mg base N qual (defScope st) f cdv A outer s H E (a, oe)).nox (defBody st) t ∧
        t { nx := fun _ H' => Q .non H', rt := Q } (start N vs) H) : FnP P w K mg base (k + 1) f fd ps sp := by
  obtain ⟨oc, od, kV, doc, pm, an, cdv, ct, osl, rfl, lk, hcd⟩ := F.ex
  refine ⟨hlen, fun A outer s H args us vs Q E p cls d room pin hz hf e0 bind rel wish => ?_⟩
  have lv := hlen _ _ _ _ _ _ _ wish
  have old : ∀ b o, base.get? b = some o → s.heap.get? b = some o := fun b o e => (e0.bs b o e).1
  have inK : K.In s.heap := e0.mod.kin.keeps old
  refine codeAny_call_function room.depth (inK _ _ lk) rfl S.co S.gen rfl (PySem.W.codeRec_of inK hcd) (bind _ _ _ _ ?_)
  refine wpAny_newFunctionEnv_cells S.kind (fun y hy => ?_) fun env ee s1 x1 => ?_
  · obtain ⟨n, v⟩ := y
    cases S.par n (List.of_mem_zip hy).1 with
    | inl q => exact Or.inl q
    | inr q => exact Or.inr ⟨q, PySem.W.cellsFrom_some _ _ _ (Or.inl q)⟩
  subst ee
  refine ⟨(e0.mod.nolimit.keeps old).keeps x1.toInCall.keep, codeAny_func ?_⟩
  obtain ⟨a, oe⟩ := p
  obtain ⟨t, ht, hq⟩ := hb cdv A outer s H vs Q E a oe cls d (room.deeper _) hz hf wish
  have I0 := L2H.inv_startH (CX := CX0) (E := E) S pin e0 lv rel x1
  refine wpAny_mono (ht.nox.run [] s1 (start N vs) H _ I0 hq) (fun fl s2 hs => ?_) fun _ _ z => z
  cases fl with
  | ret u =>
    obtain ⟨v, σ2, H2, J, rv, q⟩ := hs
    exact ⟨v, H2, J.os, J.bare, J.base, J.hok, rv, q⟩
  | next =>
    obtain ⟨σ2, H2, J, q⟩ := hs
    exact ⟨.non, H2, J.os, J.bare, J.base, J.hok, rfl, q⟩
  | brk => exact hs.choose_spec.choose_spec.2.elim
  | cont => exact hs.choose_spec.choose_spec.2.elim
end
/-- the call, the refusal among what the context holds -/
theorem pe_callP {X : Cx} {k : Nat} {f : Addr} {fd : FuncData} {ps : List Str} {sp : Addr → Value → Option Addr → Sp} {x : Str} {e : Expr} {es : List Expr} {t : TA} {p pos : Pos} {a : Addr} {oe : Obj} {cls : Value} {d : Option Addr}
    (F : FnP X.prog X.w X.K X.mg X.base k f fd ps sp) (room : L2H.RoomH k X.A) (hz : Zc cls d oe) (hf : ∃ ys, oe.data = .fields ys) (hp : (a, oe) ∈ X.pn) (gl : Gl X x) (hm : X.mg x = some (.ref f)) (kp : PySem.W.keepIn X.K (.ref f) = true) (bi : Binds X.K fd ps [])
    (ha : PA X (e :: es) t) (ndb : (x == ("__debug__" : Str)) = false := by decide) (st : starEach (e :: es) X.env = (false, eval e X.env) :: starEach es X.env := by rfl) (np : (backTo pos (starEach es X.env)).any (·.1) = false := by rfl) :
    PE X (.Call (.Name x p) (e :: es) [] pos) (tCall (sp a cls d) [] E0 t) := by
  constructor
  intro pins s σ H Q I wish
  refine wpAny_Call_Name_kw (ld_glob I gl hm ?_ ndb)
  refine PySem.W.callWith_K (h₀ := X.base) I.ok.mod.kin kp (thn (ha.run pos pins s σ H _ I wish) fun us s1 ⟨vs, H1, I1, rel, q⟩ => ⟨I1.kIn, ?_⟩) st np
  have q : sp a cls d (vs ++ []) H1 Q E0 := q
  rw [List.append_nil] at q
  have len : us.length = ps.length := rel.length.symm.trans (F.len _ _ _ _ _ _ _ q)
  have b := bi s1 us I1.kIn (by rw [List.append_nil]; exact len)
  rw [List.append_nil] at b
  have P1 := I1.pin (a, oe) (List.mem_append_left _ hp)
  have hpin : L2H.PinOk X.stack H1 s1 (a, oe) := ⟨P1.1, P1.2.1, fun hm => (List.mem_cons.mp (I1.stkSub a hm)).elim P1.2.2.1 P1.2.2.2.1, P1.2.2.2.2⟩
  refine wpAny_call (codeAny_mono (F.run X.A X.stack s1 H1 ⟨us, []⟩ us vs Q E0 (a, oe) cls d room hpin hz hf I1.env0 b rel q) fun res s2 told => ?_)
  match res, told with
  | .error er, told => exact told.elim
  | .ok (.ret u), told => exact I1.after told
  | .ok .next, told => exact told.elim
  | .ok .brk, told => exact told.elim
  | .ok .cont, told => exact told.elim
theorem roomH_suite {X : Cx} {a : Addr} {pn : List (Addr × Obj)} {k : Nat} (r : Room k X.A) : L2H.RoomH k (X.suite a pn).A := ⟨r.dp, r.un⟩
/-- a refusal of the class x, its dict at dd, told apart: True -/
def spAlone (K : PySem.W.Frag) (x : Str) : Addr → Value → Option Addr → Sp := fun a cls d vs H Q _ => vs = [.ref a] ∧ cls = .ref (He.ga K x) ∧ ∃ (dd : Addr) (fs : List (Str × V)), d = some dd ∧ H dd = some (.xd fs) ∧ ∀ H', Same H H' → Q (.bl true) H'
/-! ### tracked tuples: slices, sums -/
theorem cut_whole {xs : List V} {lo hi : Option Int} (h : HT.sIx xs.length 0 lo = 0 ∧ HT.sIx xs.length xs.length hi = xs.length) : cutV xs lo hi = xs := by
  unfold cutV
  rw [h.1, h.2, List.drop_zero, Nat.sub_zero, List.take_length]
theorem cut_mem {xs : List V} {lo hi : Option Int} {v : V} (h : v ∈ cutV xs lo hi) : v ∈ xs := List.mem_of_mem_drop (List.mem_of_mem_take h)
def rSlTk : V → Option Int → Option Int → Hp → VK → Prop := fun x lo hi H Q => ∃ a xs, x = .ref a ∧ H a = some (.tup xs) ∧ ∀ p H', Same H H' → H' p = some (.tup (cutV xs lo hi)) → Q (.ref p) H'
theorem sl_tupTk {X : Cx} : SlR X rSlTk := by
  intro pins s σ H x v vl vu lo hi sl Q I rx hs pl pu h
  obtain ⟨a, xs, rfl, hx, q⟩ := h
  exact sl_tupA pins s σ H _ v vl vu lo hi sl Q I rx hs pl pu ⟨a, xs, rfl, SqT.of hx, fun e => q a H (Same.refl _) (by rw [cut_whole e]; exact hx), fun _ p hp => q p _ (same_new hp _) upd_same⟩
def rCatTk : R2 := fun x y H Q => ∃ a b xs ys, x = .ref a ∧ y = .ref b ∧ H a = some (.tup xs) ∧ H b = some (.tup ys) ∧ xs.length + ys.length ≤ sizeLine ∧ ∀ p H', Same H H' → H' p = some (.tup (xs ++ ys)) → Q (.ref p) H'
theorem op_catTk {X : Cx} : OpR X (binaryOp .Add) rCatTk := by
  intro pins s σ H x y v u Q I rx ry h
  obtain ⟨a, b, xs, ys, rfl, rfl, ha, hb, hl, q⟩ := h
  refine op_catA pins s σ H _ _ v u Q I rx ry ⟨a, b, xs, ys, rfl, rfl, SqT.of ha, SqT.of hb, hl, fun e => ?_, fun _ e => ?_, fun _ _ p hp => ?_⟩
  · subst e
    exact q b H (Same.refl _) hb
  · subst e
    exact q a H (Same.refl _) (by rw [List.append_nil]; exact ha)
  · exact q p _ (same_new hp _) upd_same
/-! ### tracked tuples: slices, sums, turned about; repr of any data -/
section
variable {prog : Program} {w : World} {A : Around} {E : Value → Shared → Prop} {s : Shared}
theorem pick_rev (xs : Array Value) : ((List.range xs.size).filterMap fun (m : Nat) => xs[(((xs.size : Int) - 1) + (m : Int) * (-1)).toNat]?).toArray = xs.toList.reverse.toArray := by
  have e : ((List.range xs.size).filterMap fun (m : Nat) => xs[(((xs.size : Int) - 1) + (m : Int) * (-1)).toNat]?) = ((List.range xs.size).map fun k => xs.size - 1 - k).filterMap (xs[·]?) := by
    have gen : ∀ (l : List Nat) (F G : Nat → Option Value), (∀ m ∈ l, F m = G m) → l.filterMap F = l.filterMap G := fun l => by
      induction l with
      | nil => exact fun _ _ _ => rfl
      | cons m l ih =>
        intro F G h
        rw [List.filterMap_cons, List.filterMap_cons, h m List.mem_cons_self, ih F G fun k hk => h k (List.mem_cons_of_mem _ hk)]
    rw [List.filterMap_map]
    refine gen _ _ _ fun m hm => ?_
    have hm := List.mem_range.mp hm
    have e1 : (((xs.size : Int) - 1) + (m : Int) * (-1)).toNat = xs.size - 1 - m := by omega
    rw [e1]
    rfl
  rw [e, PySem.W.krv_range, List.filterMap_reverse, PySem.W.krv_all]
theorem sliceApplied_rev {sl : Addr} {vl vu vs : Value} {n : Nat} {Q : Int × Int × Nat → Shared → Prop} (hs : s.heap.IsSliceOf sl vl vu vs) (pl : IsPart vl none) (pu : IsPart vu none) (ps : IsPart vs (some (-1)))
    (h : Q ((n : Int) - 1, -1, n) s) : wpAny (model prog w) A (Builtin.Slice.sliceApplied (.ref sl) (pure (n : Int))) Q E s := by
  obtain ⟨os, hos, hcs, hds⟩ := id hs
  unfold Builtin.Slice.sliceApplied Builtin.Slice.sliceFields
  refine wpAny_bind (wpAny_bind (wpAny_field hos hds (x := vl) rfl (wpAny_bind (wpAny_field hos hds (x := vu) rfl (wpAny_bind (wpAny_field hos hds (x := vs) rfl (wpAny_pure ?_)))))))
  refine wpAny_bind (HT.slicePart_ ps ?_)
  show wpAny _ _ (if ((-1 : Int) == 0) = true then _ else _) _ _ s
  rw [if_neg (by decide)]
  refine wpAny_bind (HT.slicePart_ pl (wpAny_bind (HT.slicePart_ pu (wpAny_bind (wpAny_pure ?_)))))
  show wpAny _ _ (pure ((n : Int) - 1, (-1 : Int), Builtin.Slice.slicePlaces ((n : Int) - 1) (-1) (-1))) _ _ s
  have e : Builtin.Slice.slicePlaces ((n : Int) - 1) (-1) (-1) = n := by
    unfold Builtin.Slice.slicePlaces
    have h1 : ¬ ((-1 : Int) > 0) := by decide
    have e1 : (- -1 : Int) = 1 := by decide
    simp only [h1, if_false, e1, Int.ediv_one]
    split <;> omega
  rw [e]
  exact wpAny_pure h
theorem getItem_tuple_rev {t sl : Addr} {items : Array Value} {vl vu vs : Value} {Q : Value → Shared → Prop} (ht : IsTup s.heap t items) (hs : s.heap.IsSliceOf sl vl vu vs) (pl : IsPart vl none) (pu : IsPart vu none) (ps : IsPart vs (some (-1)))
    (h : Q (.ref s.heap.objs.size) { s with heap := s.heap.push { cls := .type "tuple", data := .seq items.toList.reverse.toArray } })
    (hsz : items.size ≤ sizeLine) : wpAny (model prog w) A (getItem (.ref t) (.ref sl)) Q E s := by
  have htake : sizeOk (.seq items.toList.reverse.toArray) := by
    show items.toList.reverse.toArray.size ≤ sizeLine
    rw [List.size_toArray, List.length_reverse, Array.length_toList]
    exact hsz
  obtain ⟨os, hos, hcs, hds⟩ := id hs
  have hTs : s.TypeIs (.ref sl) "slice" := ⟨os, hos, hcs⟩
  unfold getItem
  try with_reducible refine wpAny_holding ?_
  first | refine wpAny_bind (wpAny_pure ?_) | skip
  refine wpAny_bind (wpAny_sequenceKey ht.typeIs (by decide) ?_)
  refine wpAny_bind (wpAny_callSpecial?_slot (name := Str.ofString "__getitem__") ht.typeIs PyProof.Rows.slot_tuple_getitem
    (wpAny_call_entry PyProof.Rows.slot_tuple_getitem ht.typeIs entry_tuple_getitem ?_ (args_tuple_getitem _ _)))
  show wpAny _ _ (Builtin.Tuple.tupleItemsOf (.ref t) >>= _) _ _ s
  refine wpAny_bind (tupleItemsOf_ ht ?_)
  refine wpAny_bind (wpAny_typeOf hTs ?_)
  rw [if_pos (by decide)]
  refine wpAny_bind (sliceApplied_rev hs pl pu ps ?_)
  have hno : ¬ ((((items.size : Int) - 1) == 0 && (-1 : Int) == 1 && items.size == items.size) = true) := by
    intro q
    rw [Bool.and_eq_true, Bool.and_eq_true] at q
    exact absurd q.1.2 (by decide)
  show wpAny _ _ (if (((items.size : Int) - 1) == 0 && (-1 : Int) == 1 && items.size == items.size) = true then _ else _) _ _ s
  rw [if_neg hno, pick_rev]
  first
    | exact wpAny_bind (m := Builtin.Tuple.tupleExact _) (wpAny_newObj_type (wpAny_pure ⟨_, rfl, wpAny_pure h⟩) htake)
    | exact wpAny_bind (m := Builtin.Tuple.tupleExact _) (wpAny_newObj_type (wpAny_bind (wpAny_pure (wpAny_pure ⟨_, rfl, wpAny_pure h⟩))) htake)
    | exact wpAny_bind (wpAny_bind (m := Builtin.Tuple.tupleExact _) (wpAny_newObj_type (wpAny_pure (wpAny_pure ⟨_, rfl, wpAny_pure h⟩)) htake))
    | exact wpAny_bind (wpAny_bind (m := Builtin.Tuple.tupleExact _) (wpAny_newObj_type (wpAny_pure ⟨_, rfl, wpAny_pure h⟩) htake))
end
/-- t[::-1] of a tuple -/
def tRevT (K : PySem.W.Frag) (te : TE) : TE := fun σ H Q => te σ H fun x H1 => ∃ a xs, x = .ref a ∧ SqT K H1 a xs ∧ ∀ p, H1 p = none → Q (.ref p) (upd H1 p (.tup xs.reverse))
theorem pe_revT {X : Cx} {e : Expr} {te : TE} {k : Nat} {p1 p2 p3 pos : Pos} (he : PE X e te) : PE X (.Subscript e (.Slice none none (some (.UnaryOp .USub (.Constant (.int 1) k p1) p2)) p3) pos) (tRevT X.K te) := by
  refine ⟨fun pins s σ H Q I h => ?_⟩
  refine Subscript_ (thn (he.run pins s σ H _ I h) fun v s1 ⟨x, H1, I1, r1, q1⟩ => ?_)
  obtain ⟨a, xs, ex, hx, q⟩ := q1
  subst ex
  cases r1
  have hst : PO X (some (.UnaryOp .USub (.Constant (.int 1) k p1) p2)) (tPart (tUn (rU fun i => .int (-i)) (tC (.int 1)))) := po_some (pe_un un_neg pe_int)
  refine wpAny_Slice (thn (po_none.run pins s1 σ H1 (fun o H2 => o = none ∧ H2 = H1) I1 ⟨rfl, rfl⟩) fun vl s2 ⟨l, H2, I2, pl, el, e2⟩ => ?_)
  subst el e2
  refine thn (po_none.run pins s2 σ H2 (fun o H3 => o = none ∧ H3 = H2) I2 ⟨rfl, rfl⟩) fun vu s3 ⟨u, H3, I3, pu, eu, e3⟩ => ?_
  subst eu e3
  refine thn (hst.run pins s3 σ H3 (fun o H4 => o = some (-1) ∧ H4 = H3) I3 ⟨1, rfl, -1, rfl, rfl, rfl⟩) fun vs s4 ⟨o, H4, I4, ps, eo, e4⟩ => ?_
  subst eo e4
  have I5 : Inv X pins σ H4 { s4 with heap := s4.heap.push { cls := .type "slice", data := .fields #[vl, vu, vs] } } := I4.kept (t' := s4.toks) fun b ob q => Heap.get?_push_of_some _ q
  obtain ⟨its, r, ht, hz⟩ := I5.tuple hx
  have hlen : its.toArray.size = xs.length := by rw [List.size_toArray]; exact r.length.symm
  show wpAny (model X.prog X.w) X.A (subscriptTail e (.Slice none none (some (.UnaryOp .USub (.Constant (.int 1) k p1) p2)) p3) (.ref a) (.ref s4.heap.objs.size)) (EP X pins σ Q) X.xe { s4 with heap := s4.heap.push { cls := .type "slice", data := .fields #[vl, vu, vs] } }
  refine tail_any (ops := [.ref a, .ref s4.heap.objs.size]) ht.typeIs (PyProof.Rows.slot_tuple_getitem.lookup) ?_ (by with_unfolding_all rfl)
  refine getItem_tuple_rev ht (Heap.IsSliceOf.new _ vl vu vs) pl pu ps ?_ (by rw [hlen]; exact hz)
  refine ⟨.ref _, _, I5.laid (t' := s4.toks) (o := .tup xs.reverse) (fun b ob q => Heap.get?_push_of_some _ q) (Nat.le_refl _) ?_, rfl, q _ (I5.hok.fresh (Nat.le_refl _))⟩
  exact ⟨by rw [List.length_reverse]; exact hz, _, r.reverse, IsTup.new _ _⟩
/-- repr of any data -/
def rReprD (K : PySem.W.Frag) : List V → Hp → VK → Prop := fun xs H Q => ∃ (v : V) (d : PyData), xs = [v] ∧ Dp K H v d ∧ d.showable = true ∧ d.hasDict = false ∧ d.depth ≤ 60 ∧ d.shown.length ≤ sizeLine ∧ Q (.str d.shown) H
theorem cr_reprD {X : Cx} {k : Nat} (hg : X.A.guards = some []) (hr : Room k X.A) : CallR X (.builtin "repr") (rReprD X.K) := by
  intro pins s σ H vs us Q I r h
  obtain ⟨v, d, rfl, hd, h1, h2, h3, h4, q⟩ := h
  cases hd with
  | non =>
    obtain ⟨u, rfl, ru⟩ := vals1 r
    cases ru
    exact PySem.P.repr_of_none ⟨.str _, H, I.tok _, ⟨_, rfl⟩, q⟩
  | bl b =>
    obtain ⟨u, rfl, ru⟩ := vals1 r
    cases ru
    refine PySem.P.repr_of_bool ⟨.str _, H, I.tok _, ⟨_, rfl⟩, ?_⟩
    cases b <;> exact q
  | int i =>
    obtain ⟨u, rfl, t, rfl⟩ := vals1 r
    exact PySem.P.repr_of_int (of_decide_eq_true h1) ⟨.str _, H, I.tok _, ⟨_, rfl⟩, q⟩
  | str x =>
    obtain ⟨u, rfl, t, rfl⟩ := vals1 r
    exact PySem.P.repr_of_str ⟨.str _, H, I.tok _, ⟨_, rfl⟩, q⟩ h4
  | lst a b => exact cr_repr hg hr pins s σ H _ us Q I r ⟨_, _, rfl, .lst a b, h1, h2, h3, h4, q⟩
  | tup a b => exact cr_repr hg hr pins s σ H _ us Q I r ⟨_, _, rfl, .tup a b, h1, h2, h3, h4, q⟩
/-! ### data that does not lie in the feed -/
mutual
inductive Dn (N : Addr → Prop) (H : Hp) : V → PyData → Prop
  | non : Dn N H .non .none
  | bl (b : Bool) : Dn N H (.bl b) (.bool b)
  | int (i : Int) : Dn N H (.int i) (.int i)
  | str (x : Str) : Dn N H (.str x) (.str x)
  | lst {a : Addr} {xs : List V} {ds : List PyData} : N a → H a = some (.lst xs) → DnAll N H xs ds → Dn N H (.ref a) (.list ds)
  | tup {a : Addr} {xs : List V} {ds : List PyData} : H a = some (.tup xs) → DnAll N H xs ds → Dn N H (.ref a) (.tuple ds)
inductive DnAll (N : Addr → Prop) (H : Hp) : List V → List PyData → Prop
  | nil : DnAll N H [] []
  | cons {v : V} {vs : List V} {d : PyData} {ds : List PyData} : Dn N H v d → DnAll N H vs ds → DnAll N H (v :: vs) (d :: ds)
end
mutual
theorem Dn.dp {K : PySem.W.Frag} {N : Addr → Prop} {H : Hp} : ∀ {v : V} {d : PyData}, Dn N H v d → Dp K H v d
  | _, _, .non => .non
  | _, _, .bl b => .bl b
  | _, _, .int i => .int i
  | _, _, .str x => .str x
  | _, _, .lst _ h a => .lst (SqL.of h) (DnAll.dp a)
  | _, _, .tup h a => .tup (SqT.of h) (DnAll.dp a)
theorem DnAll.dp {K : PySem.W.Frag} {N : Addr → Prop} {H : Hp} : ∀ {vs : List V} {ds : List PyData}, DnAll N H vs ds → DpAll K H vs ds
  | _, _, .nil => .nil
  | _, _, .cons a b => .cons (Dn.dp a) (DnAll.dp b)
end
mutual
theorem Dn.stay {N : Addr → Prop} {H H' : Hp} (k : ∀ a xs, N a → H a = some (.lst xs) → H' a = some (.lst xs)) (k2 : ∀ a xs, H a = some (.tup xs) → H' a = some (.tup xs)) : ∀ {v : V} {d : PyData}, Dn N H v d → Dn N H' v d
  | _, _, .non => .non
  | _, _, .bl b => .bl b
  | _, _, .int i => .int i
  | _, _, .str x => .str x
  | _, _, .lst n h a => .lst n (k _ _ n h) (DnAll.stay k k2 a)
  | _, _, .tup h a => .tup (k2 _ _ h) (DnAll.stay k k2 a)
theorem DnAll.stay {N : Addr → Prop} {H H' : Hp} (k : ∀ a xs, N a → H a = some (.lst xs) → H' a = some (.lst xs)) (k2 : ∀ a xs, H a = some (.tup xs) → H' a = some (.tup xs)) : ∀ {vs : List V} {ds : List PyData}, DnAll N H vs ds → DnAll N H' vs ds
  | _, _, .nil => .nil
  | _, _, .cons a b => .cons (Dn.stay k k2 a) (DnAll.stay k k2 b)
end
theorem Dn.same {N : Addr → Prop} {H H' : Hp} (s : Same H H') {v : V} {d : PyData} (h : Dn N H v d) : Dn N H' v d := h.stay (fun _ _ _ e => s _ _ e) fun _ _ e => s _ _ e
theorem DnAll.same {N : Addr → Prop} {H H' : Hp} (s : Same H H') {v : List V} {d : List PyData} (h : DnAll N H v d) : DnAll N H' v d := h.stay (fun _ _ _ e => s _ _ e) fun _ _ e => s _ _ e
theorem Dn.but {f c : Addr} {N : Addr → Prop} {n : Int} {H H' : Hp} (nf : ∀ a, N a → a ≠ f) (b : But f H H') (hf : Fd H f c n) {v : V} {d : PyData} (h : Dn N H v d) : Dn N H' v d := by
  obtain ⟨zs, hz⟩ := hf.at
  exact h.stay (fun a xs n e => b a _ (nf a n) e) fun a xs e => b a _ (ne_of e hz fun z => nomatch z) e
mutual
theorem Dn.imp {N M : Addr → Prop} {H : Hp} (k : ∀ a, N a → M a) : ∀ {v : V} {d : PyData}, Dn N H v d → Dn M H v d
  | _, _, .non => .non
  | _, _, .bl b => .bl b
  | _, _, .int i => .int i
  | _, _, .str x => .str x
  | _, _, .lst n h a => .lst (k _ n) h (DnAll.imp k a)
  | _, _, .tup h a => .tup h (DnAll.imp k a)
theorem DnAll.imp {N M : Addr → Prop} {H : Hp} (k : ∀ a, N a → M a) : ∀ {vs : List V} {ds : List PyData}, DnAll N H vs ds → DnAll M H vs ds
  | _, _, .nil => .nil
  | _, _, .cons a b => .cons (Dn.imp k a) (DnAll.imp k b)
end
/-- a list that is none of its own changed -/
theorem Dn.mut {N : Addr → Prop} {H : Hp} {W : Addr} {xs : List V} {o : HO} (nW : ∀ a, N a → a ≠ W) (hW : H W = some (.lst xs)) {v : V} {d : PyData} (h : Dn N H v d) : Dn N (upd H W o) v d :=
  h.stay (fun a _ n e => (upd_ne (nW a n)).trans e) fun a _ e => (upd_ne (ne_of e hW fun z => nomatch z)).trans e
/-- how big data is -/
structure Okd (n c : Nat) (d : PyData) : Prop where
  fine : fineD d = true
  plain : d.plain = true
  dep : d.depth ≤ n
  cost : cost d ≤ c
theorem Okd.mono {n m c e : Nat} {d : PyData} (h : Okd n c d) (h1 : n ≤ m) (h2 : c ≤ e) : Okd m e d := ⟨h.fine, h.plain, Nat.le_trans h.dep h1, Nat.le_trans h.cost h2⟩
theorem okd_str {x : Str} (h : NmOk x) : Okd 1 90 (.str x) := by
  obtain ⟨h1, h2⟩ := nm_fine h
  exact ⟨h1, rfl, by simp [PyData.depth], by omega⟩
theorem okd_non : Okd 1 90 .none := ⟨rfl, rfl, by simp [PyData.depth], by decide⟩
theorem okd_bool (b : Bool) : Okd 1 90 (.bool b) := ⟨rfl, rfl, by simp [PyData.depth], (show 5 ≤ 90 by decide)⟩
theorem okd_int {i : Int} (h0 : -1000000000000 ≤ i) (h1 : i ≤ 1000000000000) : Okd 1 2000 (.int i) := ⟨int_fine h0 h1, rfl, by simp [PyData.depth], Nat.le_refl _⟩
theorem okd_all {n c : Nat} : ∀ {ds : List PyData}, (∀ d ∈ ds, Okd n c d) → fineAll ds = true ∧ PyData.plainAll ds = true ∧ PyData.depthAll ds ≤ n ∧ costAll ds ≤ (c + 2) * ds.length
  | [], _ => ⟨rfl, rfl, by simp [PyData.depthAll], Nat.zero_le _⟩
  | d :: ds, h => by
    obtain ⟨a1, a2, a3, a4⟩ := okd_all fun e he => h e (List.mem_cons_of_mem _ he)
    have b := h d List.mem_cons_self
    refine ⟨?_, ?_, ?_, ?_⟩
    · unfold fineAll
      rw [b.fine, a1]
      rfl
    · simp only [PyData.plainAll, b.plain, a2, Bool.and_self]
    · simp only [PyData.depthAll]
      exact Nat.max_le.mpr ⟨b.dep, a3⟩
    · have z := b.cost
      show Pn.cost d + 2 + costAll ds ≤ (c + 2) * (ds.length + 1)
      rw [Nat.mul_add, Nat.mul_one]
      omega
theorem okd_tup {n c : Nat} {ds : List PyData} (h : ∀ d ∈ ds, Okd n c d) : Okd (n + 1) ((c + 2) * ds.length + 3) (.tuple ds) := by
  obtain ⟨a1, a2, a3, a4⟩ := okd_all h
  exact ⟨a1, a2, by simp only [PyData.depth]; omega, (show costAll ds + 3 ≤ _ by omega)⟩
theorem okd_lst {n c : Nat} {ds : List PyData} (h : ∀ d ∈ ds, Okd n c d) : Okd (n + 1) ((c + 2) * ds.length + 3) (.list ds) := by
  obtain ⟨a1, a2, a3, a4⟩ := okd_all h
  exact ⟨a1, a2, by simp only [PyData.depth]; omega, (show costAll ds + 3 ≤ _ by omega)⟩
theorem Okd.show {n c : Nat} {d : PyData} (h : Okd n c d) (hn : n ≤ 60) (hc : c ≤ 10000000) : d.showable = true ∧ d.hasDict = false ∧ d.depth ≤ 60 ∧ d.shown.length ≤ sizeLine := by
  obtain ⟨a, b⟩ := fine_show _ h.fine
  exact ⟨a, b, Nat.le_trans h.dep hn, Nat.le_trans (shown_cost _ h.fine) (Nat.le_trans h.cost (Nat.le_trans hc (by decide)))⟩
theorem dn_all {N : Addr → Prop} {H : Hp} {n c : Nat} : ∀ {xs : List V}, (∀ v ∈ xs, ∃ d, Dn N H v d ∧ Okd n c d) → ∃ ds, DnAll N H xs ds ∧ ∀ d ∈ ds, Okd n c d
  | [], _ => ⟨[], .nil, fun _ z => nomatch z⟩
  | v :: xs, h => by
    obtain ⟨d, d1, d2⟩ := h v List.mem_cons_self
    obtain ⟨ds, e1, e2⟩ := dn_all fun u hu => h u (List.mem_cons_of_mem _ hu)
    exact ⟨d :: ds, .cons d1 e1, fun z hz => (List.mem_cons.mp hz).elim (fun k => k ▸ d2) (e2 z)⟩
theorem DnAll.len {N : Addr → Prop} {H : Hp} : ∀ {xs : List V} {ds : List PyData}, DnAll N H xs ds → xs.length = ds.length
  | _, _, .nil => rfl
  | _, _, .cons _ b => congrArg (· + 1) (DnAll.len b)
theorem plain_of {ds : List PyData} (h : PyData.plainAll ds = true) : ∀ d ∈ ds, d.plain = true := by
  induction ds with
  | nil => exact fun _ z => nomatch z
  | cons d ds ih =>
    simp only [PyData.plainAll, Bool.and_eq_true] at h
    exact fun e he => (List.mem_cons.mp he).elim (fun z => z ▸ h.1) (ih h.2 e)
theorem depth_of {ds : List PyData} {n : Nat} (h : PyData.depthAll ds ≤ n) : ∀ d ∈ ds, d.depth ≤ n := by
  induction ds with
  | nil => exact fun _ z => nomatch z
  | cons d ds ih =>
    simp only [PyData.depthAll] at h
    exact fun e he => (List.mem_cons.mp he).elim (fun z => z ▸ Nat.le_trans (Nat.le_max_left _ _) h) (ih (Nat.le_trans (Nat.le_max_right _ _) h) e)
theorem op_notinTP {X : Cx} {k : Nat} (hr : Room k X.A) : OpR X (compareOp .NotIn) (rInP X.K true false) := by
  intro pins s σ H x y v u Q I rx ry h
  obtain ⟨d, ds, hd, he, p1, p2, dep, q⟩ := h
  have un := hr.un
  obtain ⟨as, r1⟩ := Dp.reads I d x v hd rx
  obtain ⟨bs, r2⟩ := Dp.reads I _ y u he ry
  rw [Bool.true_xor] at q
  exact PySem.SeqAt.notIn_tuple_data r2 r1 p2 p1 (by omega) ⟨.bl _, H, I, rfl, q⟩
/-! ### k38: a thing bent, what is due, what is said -/
def spBent : Sp := fun vs H Q _ => ∃ (f c t : Addr) (n : Int) (ys : List Str), vs = [.ref f, .ref t] ∧ Fd H f c n ∧ n ≤ 900000 ∧ H t = some (.tup (ys.map V.str)) ∧ ys.length ≤ 33 ∧ (∀ y ∈ ys, NmOk y) ∧
  ∀ (x : V) (d : PyData) (H' : Hp), Fd H' f c (n + 10) → But f H H' → Dn (fun a => H a = none) H' x d → Okd 5 1000000 d → (∀ ds, d = .tuple ds → ds.length ≤ 100) → Q x H'
theorem els_strs {N : Addr → Prop} {H : Hp} {ys : List Str} (h : ∀ y ∈ ys, NmOk y) : ∀ v ∈ ys.map V.str, ∃ d, Dn N H v d ∧ Okd 3 5000 d := fun v hv => by
  obtain ⟨y, hy, rfl⟩ := List.mem_map.mp hv
  exact ⟨_, .str y, (okd_str (h y hy)).mono (by decide) (by decide)⟩
theorem tup_okd {N : Addr → Prop} {H : Hp} {t : Addr} {xs : List V} (ht : H t = some (.tup xs)) (hl : xs.length ≤ 100) (h : ∀ v ∈ xs, ∃ d, Dn N H v d ∧ Okd 3 5000 d) : ∃ d, Dn N H (.ref t) d ∧ Okd 5 1000000 d ∧ ∀ ds, d = .tuple ds → ds.length ≤ 100 := by
  obtain ⟨ds, h1, h2⟩ := dn_all h
  have l := h1.len
  refine ⟨_, .tup ht h1, (okd_tup h2).mono (by decide) ?_, fun es e => ?_⟩
  · have : (5000 + 2) * ds.length ≤ (5000 + 2) * 100 := Nat.mul_le_mul_left _ (by omega)
    omega
  · injection e with e
    subst e
    omega
def oddL (p : Addr) : List V := [.str (("zzz" : String) : Str), .int 7, .non, .ref p, .bl true, .str (("" : String) : Str), .str (("None" : String) : Str)]
theorem odd_ok {N : Addr → Prop} {p : Addr} {H : Hp} (hp : H p = some (.tup [.str (("a" : String) : Str)])) : ∀ v ∈ oddL p, ∃ d, Dn N H v d ∧ Okd 3 5000 d := fun v hv => by
  have n1 : NmOk (("zzz" : String) : Str) := ⟨by decide +kernel, by decide +kernel⟩
  have n2 : NmOk (("" : String) : Str) := ⟨by decide +kernel, by decide +kernel⟩
  have n3 : NmOk (("None" : String) : Str) := ⟨by decide +kernel, by decide +kernel⟩
  have n4 : NmOk (("a" : String) : Str) := ⟨by decide +kernel, by decide +kernel⟩
  simp only [oddL, List.mem_cons, List.not_mem_nil, or_false] at hv
  rcases hv with rfl | rfl | rfl | rfl | rfl | rfl | rfl
  · exact ⟨_, .str _, (okd_str n1).mono (by decide) (by decide)⟩
  · exact ⟨_, .int _, (okd_int (by decide) (by decide)).mono (by decide) (by decide)⟩
  · exact ⟨_, .non, okd_non.mono (by decide) (by decide)⟩
  · refine ⟨_, .tup hp (.cons (.str _) .nil), (okd_tup (n := 1) (c := 90) fun d hd => ?_).mono (by decide) (by decide)⟩
    rw [List.mem_singleton.mp hd]
    exact okd_str n4
  · exact ⟨_, .bl _, (okd_bool _).mono (by decide) (by decide)⟩
  · exact ⟨_, .str _, (okd_str n2).mono (by decide) (by decide)⟩
  · exact ⟨_, .str _, (okd_str n3).mono (by decide) (by decide)⟩
theorem atI_some {xs : List V} {i : Int} (h0 : 0 ≤ i) (h1 : i < xs.length) : ∃ v, atI xs i = some v ∧ v ∈ xs := by
  obtain ⟨k, rfl⟩ : ∃ k : Nat, i = k := ⟨i.toNat, by omega⟩
  have hk : k < xs.length := by omega
  exact ⟨xs[k], atI_nat (List.getElem?_eq_getElem hk), List.getElem_mem hk⟩
def NotTup (d : PyData) : Prop := ∀ ds, d ≠ .tuple ds
def VerdA (E : List Ed) (x y : Str) (d : PyData) (w : Str) (k : Int) : Prop := (∃ ds, d = .tuple ds ∧ VerdT E x y ds w k) ∨ (NotTup d ∧ w = ("shape" : String) ∧ k = -1)
def DueD (E : List Ed) (x y : Str) (d r : PyData) : Prop := (∃ w k, VerdA E x y d w k ∧ r = .list [.str w, .int k]) ∨ ∃ ys : List Str, d = .tuple (ys.map .str) ∧ GoodT E (ys.map .str) ∧ verd E x y ys = none ∧ r = .tuple [.str (("told" : String) : Str), .str (("True" : String) : Str)]
theorem verdT_uniq {E : List Ed} {x y : Str} {ds : List PyData} {w w' : Str} {k k' : Int} (h : VerdT E x y ds w k) (h' : VerdT E x y ds w' k') : w = w' ∧ k = k' := by
  rcases h with ⟨a, rfl, rfl⟩ | ⟨ys, rfl, a, b⟩
  · rcases h' with ⟨_, rfl, rfl⟩ | ⟨_, _, c, _⟩
    · exact ⟨rfl, rfl⟩
    · exact absurd c a
  · rcases h' with ⟨c, _⟩ | ⟨zs, e, c, d⟩
    · exact absurd a c
    · rw [strs_inj e] at b
      rw [b] at d
      cases d
      exact ⟨rfl, rfl⟩
theorem due_uniq {E : List Ed} {x y : Str} {d r r' : PyData} (h : DueD E x y d r) (h' : DueD E x y d r') : r = r' := by
  rcases h with ⟨w, k, h, rfl⟩ | ⟨ys, rfl, gy, vy, rfl⟩
  · rcases h' with ⟨w', k', h', rfl⟩ | ⟨ys, rfl, gy, vy, rfl⟩
    · rcases h with ⟨ds, rfl, h⟩ | ⟨n, rfl, rfl⟩
      · rcases h' with ⟨ds', e, h'⟩ | ⟨n, _⟩
        · injection e with e
          subst e
          obtain ⟨rfl, rfl⟩ := verdT_uniq h h'
          rfl
        · exact absurd rfl (n _)
      · rcases h' with ⟨ds', rfl, h'⟩ | ⟨_, rfl, rfl⟩
        · exact absurd rfl (n _)
        · rfl
    · rcases h with ⟨ds, e, h⟩ | ⟨n, _⟩
      · injection e with e
        subst e
        rcases h with ⟨a, _⟩ | ⟨zs, e, _, b⟩
        · exact absurd gy a
        · rw [strs_inj e, b] at vy
          cases vy
      · exact absurd rfl (n _)
  · rcases h' with ⟨w', k', h', rfl⟩ | ⟨_, _, _, _, rfl⟩
    · rcases h' with ⟨ds, e, h⟩ | ⟨n, _⟩
      · injection e with e
        subst e
        rcases h with ⟨a, _⟩ | ⟨zs, e, _, b⟩
        · exact absurd gy a
        · rw [strs_inj e, b] at vy
          cases vy
      · exact absurd rfl (n _)
    · rfl
def spDueK : Sp := fun vs H Q _ => ∃ (g : Addr → Prop) (o P0 : Addr) (x y : Str) (v : V) (d : PyData) (ws : List Wt) (E : List Ed) (pl : List Str), vs = [.ref o, .ref P0, .str x, .str y, v] ∧ OfAt H o ws E ∧ OfOk ws E ∧ H P0 = some (.lst (pl.map V.str)) ∧ pl.Pairwise sl ∧ (∀ y, y ∈ pl ↔ plc E y) ∧ pl.length ≤ 33 ∧
  Dn g H v d ∧ Okd 5 1000000 d ∧ (∀ ds, d = .tuple ds → ds.length ≤ 100) ∧ ∀ (u : V) (r : PyData) (H' : Hp), Same H H' → DueD E x y d r → Dn (fun a => H a = none) H' u r → Okd 2 5000 r → Q u H'
theorem Dn.cases {g : Addr → Prop} {H : Hp} {v : V} {d : PyData} (h : Dn g H v d) : (∃ t xs ds, v = .ref t ∧ d = .tuple ds ∧ H t = some (.tup xs) ∧ DnAll g H xs ds) ∨ NotTup d := by
  cases h with
  | non => exact .inr fun _ e => nomatch e
  | bl b => exact .inr fun _ e => nomatch e
  | int i => exact .inr fun _ e => nomatch e
  | str x => exact .inr fun _ e => nomatch e
  | lst n h a => exact .inr fun _ e => nomatch e
  | tup h a => exact .inl ⟨_, _, _, rfl, rfl, h, a⟩
theorem noTup_of {K : PySem.W.Frag} {H : Hp} {v : V} {d : PyData} (h : Dp K H v d) (n : NotTup d) : NoTup K H v := by
  refine ⟨_, ty_of h, ?_⟩
  cases h with
  | non => exact k_NoneType_tuple
  | bl b => exact k_bool_tuple
  | int i => exact k_int_tuple
  | str x => exact k_str_tuple
  | lst h a => exact k_list_tuple
  | tup h a => exact absurd rfl (n _)
theorem eqv_nil (l : List PyData) : PyData.eqv (.list l) (.list []) = decide (l = []) := by
  cases l with
  | nil => rfl
  | cons a l => simp [PyData.eqv, PyData.eqvAll]
theorem okd_verd {w : Str} {k : Int} (hw : NmOk w) (h0 : -1000000 ≤ k) (h1 : k ≤ 1000000) : Okd 2 5000 (.list [.str w, .int k]) := by
  refine (okd_lst (n := 1) (c := 2000) fun d hd => ?_).mono (by decide) (show (2000 + 2) * 2 + 3 ≤ 5000 by decide)
  simp only [List.mem_cons, List.not_mem_nil, or_false] at hd
  rcases hd with rfl | rfl
  · exact (okd_str hw).mono (by decide) (by decide)
  · exact okd_int (by omega) (by omega)
theorem ys_filter {pl ys : List Str} (up : pl.Pairwise sl) (inp : ∀ y ∈ ys, y ∈ pl) : ys = pl.filter (fun s => decide (s ∈ ys)) ↔ ys.Pairwise sl := by
  constructor
  · intro e
    rw [e]
    exact up.sublist List.filter_sublist
  · intro h
    refine ups_same h (up.sublist List.filter_sublist) fun y => ?_
    rw [List.mem_filter, decide_eq_true_eq]
    exact ⟨fun z => ⟨inp y z, z⟩, fun z => z.2⟩
theorem DnAll.get {N : Addr → Prop} {H : Hp} : ∀ {xs : List V} {ds : List PyData} {i : Nat} {x : V}, DnAll N H xs ds → xs[i]? = some x → ∃ d, ds[i]? = some d ∧ Dn N H x d
  | _, _, 0, _, .cons a b, h => by
    cases h
    exact ⟨_, rfl, a⟩
  | _, _, i + 1, _, .cons a b, h => DnAll.get (i := i) b h
theorem DnAll.app {N : Addr → Prop} {H : Hp} : ∀ {xs : List V} {ds : List PyData} {ys : List V} {es : List PyData}, DnAll N H xs ds → DnAll N H ys es → DnAll N H (xs ++ ys) (ds ++ es)
  | _, _, _, _, .nil, h => h
  | _, _, _, _, .cons a b, h => .cons a (DnAll.app b h)
theorem inPl_str (ys : List Str) (s : Str) : ((ys.map PyData.str).any fun z => PyData.eqv z (.str s)) = decide (s ∈ ys) := by
  have z := inPl_iff ys (.str s)
  unfold inPl at z
  rw [Bool.eq_iff_iff, z, decide_eq_true_eq]
  exact ⟨fun ⟨y, h, e⟩ => by injection e with e; rw [e]; exact h, fun h => ⟨s, h, rfl⟩⟩
theorem all_in {pl : List Str} : ∀ {ds : List PyData}, (ds.filter fun d => !inPl pl d) = [] → ∃ ys : List Str, ds = ys.map .str ∧ ∀ y ∈ ys, y ∈ pl
  | [], _ => ⟨[], rfl, fun _ z => nomatch z⟩
  | d :: ds, h => by
    rw [List.filter_cons] at h
    split at h
    · cases h
    · rename_i c
      obtain ⟨ys, rfl, hy⟩ := all_in h
      have c : inPl pl d = true := by simpa using c
      obtain ⟨y, h1, rfl⟩ := (inPl_iff pl d).mp c
      exact ⟨y :: ys, rfl, fun z hz => (List.mem_cons.mp hz).elim (fun e => e ▸ h1) (hy z)⟩
theorem in_all {pl : List Str} : ∀ {ys : List Str}, (∀ y ∈ ys, y ∈ pl) → ((ys.map PyData.str).filter fun d => !inPl pl d) = [] := fun {ys} h => by
  rw [List.filter_eq_nil_iff]
  intro d hd
  obtain ⟨y, hy, rfl⟩ := List.mem_map.mp hd
  have z := (inPl_iff pl (.str y)).mpr ⟨y, h y hy, rfl⟩
  simp [z]
theorem dn_strs {N : Addr → Prop} {H : Hp} : ∀ {xs : List V} {ys : List Str}, DnAll N H xs (ys.map .str) → xs = ys.map V.str
  | [], [], _ => rfl
  | x :: xs, y :: ys, h => by
    rw [List.map_cons] at h
    cases h with
    | cons a b =>
      cases a
      rw [List.map_cons, ← dn_strs b]
theorem filter_take {ds : List PyData} {p : PyData → Bool} {j : Nat} {d : PyData} (h : ds[j]? = some d) : (ds.take (j + 1)).filter p = (ds.take j).filter p ++ (if p d = true then [d] else []) := by
  obtain ⟨hl, e⟩ := List.getElem?_eq_some_iff.mp h
  rw [List.take_succ_eq_append_getElem hl, List.filter_append, e]
  congr 1
  by_cases c : p d = true
  · rw [if_pos c]
    simp [c]
  · rw [if_neg c]
    simp [c]
theorem filter_takeS {ds : List Str} {p : Str → Bool} {j : Nat} {d : Str} (h : ds[j]? = some d) : (ds.take (j + 1)).filter p = (ds.take j).filter p ++ (if p d = true then [d] else []) := by
  obtain ⟨hl, e⟩ := List.getElem?_eq_some_iff.mp h
  rw [List.take_succ_eq_append_getElem hl, List.filter_append, e]
  congr 1
  by_cases c : p d = true
  · rw [if_pos c]
    simp [c]
  · rw [if_neg c]
    simp [c]
def spSaidK (K : PySem.W.Frag) (P1 P2 : Addr) : Sp := fun vs H Q _ => ∃ (g : Addr → Prop) (o : Addr) (x y : Str) (v : V) (d : PyData) (ws : List Wt) (E : List Ed), vs = [.ref o, .str x, .str y, v] ∧ OfAt H o ws E ∧ E.length ≤ 16 ∧
  Dn g H v d ∧ Okd 5 1000000 d ∧ (∀ ds, d = .tuple ds → ds.length ≤ 100) ∧ H P1 = some (TabO P1) ∧ H P2 = some (TabO P2) ∧ ∀ (u : V) (r : PyData) (H' : Hp), Same H H' → DueD E x y d r → Dp K H' u r → Q u H'
/-- one of what is wanted: office, one place, the other, a thing, what is due -/
def Wnt (N : Addr → Prop) (H : Hp) (p : Addr) : Prop := ∃ (o : Addr) (ws : List Wt) (E : List Ed) (x y : Str) (v u : V) (d r : PyData), H p = some (.tup [.ref o, .str x, .str y, v, u]) ∧ OfAt H o ws E ∧ OfOk ws E ∧
  Dn N H v d ∧ Okd 5 1000000 d ∧ (∀ ds, d = .tuple ds → ds.length ≤ 100) ∧ Dn N H u r ∧ DueD E x y d r ∧ Okd 2 5000 r
theorem Wnt.same {N : Addr → Prop} {H H' : Hp} {p : Addr} (s : Same H H') (h : Wnt N H p) : Wnt N H' p := by
  obtain ⟨o, ws, E, x, y, v, u, d, r, h1, h2, h3, h4, h5, h6, h7, h8⟩ := h
  exact ⟨o, ws, E, x, y, v, u, d, r, s _ _ h1, h2.same s, h3, h4.same s, h5, h6, h7.same s, h8⟩
theorem Wnt.but {N : Addr → Prop} {f c : Addr} {n : Int} {H H' : Hp} {p : Addr} (nf : ∀ a, N a → a ≠ f) (hf : Fd H f c n) (b : But f H H') (h : Wnt N H p) : Wnt N H' p := by
  obtain ⟨o, ws, E, x, y, v, u, d, r, h1, h2, h3, h4, h5, h6, h7, h8⟩ := h
  obtain ⟨zs, hz⟩ := hf.at
  exact ⟨o, ws, E, x, y, v, u, d, r, b _ _ (ne_of h1 hz fun z => nomatch z) h1, h2.but hf b, h3, h4.but nf b hf, h5, h6, h7.but nf b hf, h8⟩
theorem Rds.tups {H H' : Hp} (k : ∀ a xs, H a = some (.tup xs) → H' a = some (.tup xs)) : ∀ {ps : List Addr} {rs : List Ed}, Rds H ps rs → Rds H' ps rs
  | _, _, .nil => .nil
  | _, _, .cons a b => .cons (k _ _ a) (Rds.tups k b)
theorem Wts.tups {H H' : Hp} (k : ∀ a xs, H a = some (.tup xs) → H' a = some (.tup xs)) : ∀ {ps : List Addr} {rs : List Wt}, Wts H ps rs → Wts H' ps rs
  | _, _, .nil => .nil
  | _, _, .cons a b => .cons (k _ _ a) (Wts.tups k b)
theorem OfAt.tups {H H' : Hp} {o : Addr} {ws : List Wt} {E : List Ed} (k : ∀ a xs, H a = some (.tup xs) → H' a = some (.tup xs)) (h : OfAt H o ws E) : OfAt H' o ws E := by
  obtain ⟨w', r', wp, rp, ho, hw, hrr, hws, hrd⟩ := h
  exact ⟨w', r', wp, rp, k _ _ ho, k _ _ hw, k _ _ hrr, Wts.tups k hws, Rds.tups k hrd⟩
theorem tups_mut {H : Hp} {W : Addr} {xs : List V} {o : HO} (hW : H W = some (.lst xs)) : ∀ a ys, H a = some (.tup ys) → upd H W o a = some (.tup ys) := fun a ys e => (upd_ne (ne_of e hW fun z => nomatch z)).trans e
theorem Wnt.mut {N : Addr → Prop} {H : Hp} {W p : Addr} {xs : List V} {o : HO} (nW : ∀ a, N a → a ≠ W) (hW : H W = some (.lst xs)) (h : Wnt N H p) : Wnt N (upd H W o) p := by
  obtain ⟨o', ws, E, x, y, v, u, d, r, h1, h2, h3, h4, h5, h6, h7, h8⟩ := h
  exact ⟨o', ws, E, x, y, v, u, d, r, tups_mut hW _ _ h1, h2.tups (tups_mut hW), h3, h4.mut nW hW, h5, h6, h7.mut nW hW, h8⟩
/-! a module's own int (whole.lean has it too; not both in one text) -/
theorem pe_gint {X : Cx} {x : Str} {i : Int} {pos : Pos} (hg : Gl X x) (hm : ∃ t, X.mg x = some (.int i t)) (hd : (x == ("__debug__" : Str)) = false := by decide) : PE X (.Name x pos) (tC (.int i)) := by
  obtain ⟨t, hm⟩ := hm
  exact pe_glob hg hm ⟨t, rfl⟩ hd
/-! ### k01, k06: kinds of any thing -/
def chB (c : Nat) : Bool := decide (97 ≤ c) && decide (c ≤ 122)
def wordB (x : Str) : Bool := decide (1 ≤ x.length) && (decide (x.length ≤ 8) && x.cps.toList.all chB)
def wordD : PyData → Bool
  | .str x => wordB x
  | _ => false
def intD : PyData → Bool
  | .int _ => true
  | _ => false
def numD (d : PyData) (lo hi : Int) : Bool := match d with
  | .int i => decide (lo ≤ i) && decide (i ≤ hi)
  | _ => false
def tupN (d : PyData) (m : Int) : Bool := match d with
  | .tuple ds => decide (((ds.length : Nat) : Int) = m)
  | _ => false
def noteD : PyData → Bool
  | .tuple [a, b] => wordD a && numD b 0 999999999
  | _ => false
def runB (a b c : PyData) : Bool := match b, c with
  | .int i, .int j => wordD a && ((decide (0 ≤ i) && decide (i ≤ 999999999)) && (decide (i + 1 ≤ j) && decide (j ≤ 1000000000)))
  | _, _ => false
def runD : PyData → Bool
  | .tuple [a, b, c] => runB a b c
  | _ => false
def apD (a b : PyData) : Bool := match a, b with
  | .tuple [.str s, .int i, .int j], .tuple [.str s', .int i', .int j'] => apart (s, i, j) (s', i', j')
  | _, _ => true
def nextD (ds : List PyData) (k : Nat) : Bool := match ds[k]?, ds[k + 1]? with
  | some a, some b => apD a b
  | _, _ => true
def atD (f : PyData → Bool) (ds : List PyData) (k : Nat) : Bool := match ds[k]? with
  | some a => f a
  | none => true
def runsD : PyData → Bool
  | .tuple ds => (((List.range ds.length).filter fun _ => true).all (atD runD ds)) && (((List.range (ds.length - 1)).filter fun _ => true).all (nextD ds))
  | _ => false
def chAt (x : Str) (i : Nat) : Bool := match x.cps[i]? with
  | some c => chB c
  | none => true
theorem ch_all (x : Str) : (((List.range x.cps.size).filter fun _ => true).all (chAt x)) = x.cps.toList.all chB := by
  rw [Bool.eq_iff_iff, List.all_eq_true, List.all_eq_true]
  constructor
  · intro h c hc
    obtain ⟨i, hi, e⟩ := List.getElem_of_mem hc
    have hi' : i < x.cps.size := by simpa using hi
    have z := h i (List.mem_filter.mpr ⟨List.mem_range.mpr hi', rfl⟩)
    unfold chAt at z
    have e2 : x.cps[i]? = some c := by rw [← Array.getElem?_toList, List.getElem?_eq_getElem hi, e]
    rw [e2] at z
    exact z
  · intro h i hi
    have hi' := List.mem_range.mp (List.mem_filter.mp hi).1
    unfold chAt
    rw [Array.getElem?_eq_getElem hi']
    exact h _ (by rw [← Array.getElem_toList]; exact List.getElem_mem _)
theorem lt_a (c : Nat) : decide ((⟨#[c]⟩ : Str).cps.toList < (Str.ofString "a").cps.toList) = !decide (97 ≤ c) := by
  have e : ((⟨#[c]⟩ : Str).cps.toList < (Str.ofString "a").cps.toList) ↔ c < 97 := by
    show [c] < [97] ↔ c < 97
    rw [List.cons_lt_cons_iff]
    exact ⟨fun z => z.elim id fun k => absurd k.2 (List.not_lt_nil _), .inl⟩
  by_cases h : c < 97
  · rw [decide_eq_true (e.mpr h), decide_eq_false (by omega)]; rfl
  · rw [decide_eq_false fun k => h (e.mp k), decide_eq_true (by omega)]; rfl
theorem lt_z (c : Nat) : decide ((Str.ofString "z").cps.toList < (⟨#[c]⟩ : Str).cps.toList) = !decide (c ≤ 122) := by
  have e : ((Str.ofString "z").cps.toList < (⟨#[c]⟩ : Str).cps.toList) ↔ 122 < c := by
    show [122] < [c] ↔ 122 < c
    rw [List.cons_lt_cons_iff]
    exact ⟨fun z => z.elim id fun k => absurd k.2 (List.not_lt_nil _), .inl⟩
  by_cases h : 122 < c
  · rw [decide_eq_true (e.mpr h), decide_eq_false (by omega)]; rfl
  · rw [decide_eq_false fun k => h (e.mp k), decide_eq_true (by omega)]; rfl
/-- data of a size that can be gone through -/
def Sm (d : PyData) : Prop := d.depth ≤ 40 ∧ cost d ≤ 10000000
theorem cost_part {ds : List PyData} {d : PyData} (hd : d ∈ ds) : cost d + 2 ≤ costAll ds := by
  induction ds with
  | nil => exact nomatch hd
  | cons x l ih =>
    show cost d + 2 ≤ cost x + 2 + costAll l
    rcases List.mem_cons.mp hd with rfl | hd
    · omega
    · have := ih hd
      omega
theorem cost_len : ∀ ds : List PyData, 2 * ds.length ≤ costAll ds
  | [] => Nat.zero_le _
  | x :: l => by
    have := cost_len l
    show 2 * (l.length + 1) ≤ cost x + 2 + costAll l
    omega
theorem part_depth {ds : List PyData} {d : PyData} {n : Nat} (h : (PyData.tuple ds).depth ≤ n) (hd : d ∈ ds) : d.depth ≤ n := by
  have z : PyData.depthAll ds ≤ n := by
    simp only [PyData.depth] at h
    omega
  clear h
  induction ds with
  | nil => exact nomatch hd
  | cons x l ih =>
    simp only [PyData.depthAll] at z
    rcases List.mem_cons.mp hd with rfl | hd
    · omega
    · exact ih hd (by omega)
theorem Sm.part {ds : List PyData} {d : PyData} (h : Sm (.tuple ds)) (hd : d ∈ ds) : Sm d := by
  have c : costAll ds + 3 ≤ 10000000 := h.2
  have := cost_part hd
  exact ⟨part_depth h.1 hd, by omega⟩
theorem Sm.len {ds : List PyData} (h : Sm (.tuple ds)) : ds.length ≤ 5000000 := by
  have c : costAll ds + 3 ≤ 10000000 := h.2
  have := cost_len ds
  omega
theorem Sm.str {x : Str} (h : Sm (.str x)) : x.length ≤ sizeLine := by
  have c : 10 * x.length + 2 ≤ 10000000 := h.2
  exact Nat.le_trans (show x.length ≤ 1000000 by omega) (by decide)
def spKNum : Sp := fun vs H Q _ => ∃ (v : V) (d : PyData) (N : Addr → Prop), vs = [v] ∧ Dn N H v d ∧ ∀ H', Same H H' → Q (.bl (intD d)) H'
def spKFrom : Sp := fun vs H Q _ => ∃ (v : V) (d : PyData) (N : Addr → Prop) (lo hi : Int), vs = [v, .int lo, .int hi] ∧ Dn N H v d ∧ ∀ H', Same H H' → Q (.bl (numD d lo hi)) H'
def spKWord (P : Addr) : Sp := fun vs H Q _ => ∃ (v : V) (d : PyData) (N : Addr → Prop), vs = [v] ∧ Dn N H v d ∧ Sm d ∧ H P = some (TabO P) ∧ ∀ H', Same H H' → Q (.bl (wordD d)) H'
def spKTup : Sp := fun vs H Q _ => ∃ (v : V) (d : PyData) (N : Addr → Prop) (m : Int), vs = [v, .int m] ∧ Dn N H v d ∧ ∀ H', Same H H' → Q (.bl (tupN d m)) H'
def spKNote (P : Addr) : Sp := fun vs H Q _ => ∃ (v : V) (d : PyData) (N : Addr → Prop), vs = [v] ∧ Dn N H v d ∧ Sm d ∧ H P = some (TabO P) ∧ ∀ H', Same H H' → Q (.bl (noteD d)) H'
def spKRun (P : Addr) : Sp := fun vs H Q _ => ∃ (v : V) (d : PyData) (N : Addr → Prop), vs = [v] ∧ Dn N H v d ∧ Sm d ∧ H P = some (TabO P) ∧ ∀ H', Same H H' → Q (.bl (runD d)) H'
def spKRuns (P P2 : Addr) : Sp := fun vs H Q _ => ∃ (v : V) (d : PyData) (N : Addr → Prop), vs = [v] ∧ Dn N H v d ∧ Sm d ∧ H P = some (TabO P) ∧ H P2 = some (TabO P2) ∧ ∀ H', Same H H' → Q (.bl (runsD d)) H'
theorem tupN_iff {N : Addr → Prop} {H : Hp} {v : V} {d : PyData} {m : Nat} (h : Dn N H v d) (c : tupN d m = true) : ∃ (t : Addr) (xs : List V) (ds : List PyData), v = .ref t ∧ H t = some (.tup xs) ∧ d = .tuple ds ∧ DnAll N H xs ds ∧ ds.length = m := by
  cases h with
  | non => cases c
  | bl b => cases c
  | int i => cases c
  | str x => cases c
  | lst _ _ _ => cases c
  | tup h a => exact ⟨_, _, _, rfl, h, rfl, a, by have := of_decide_eq_true c; omega⟩
theorem noteD_no {d : PyData} (c : ¬ tupN d (2 : Nat) = true) : noteD d = false := by
  unfold noteD
  split
  · exact absurd rfl c
  · rfl
theorem runD_no {d : PyData} (c : ¬ tupN d (3 : Nat) = true) : runD d = false := by
  unfold runD
  split
  · exact absurd rfl c
  · rfl
theorem runB_int {a b c : PyData} (h : runB a b c = true) : ∃ x i j, a = .str x ∧ b = .int i ∧ c = .int j ∧ wordB x = true ∧ 0 ≤ i ∧ i < j ∧ j ≤ 1000000000 := by
  unfold runB at h
  split at h
  · rename_i i j
    rw [Bool.and_eq_true, Bool.and_eq_true, Bool.and_eq_true, Bool.and_eq_true] at h
    obtain ⟨h1, ⟨h2, h3⟩, h4, h5⟩ := h
    have h2 := of_decide_eq_true h2
    have h4 := of_decide_eq_true h4
    have h5 := of_decide_eq_true h5
    cases a with
    | str x => exact ⟨x, i, j, rfl, rfl, rfl, h1, h2, by omega, h5⟩
    | _ => cases h1
  · cases h
theorem runB_no {a b c : PyData} (h : wordD a = false ∨ numD b 0 999999999 = false ∨ ∀ i, b = .int i → numD c (i + 1) 1000000000 = false) : runB a b c = false := by
  rw [Bool.eq_false_iff]
  intro k
  obtain ⟨x, i, j, rfl, rfl, rfl, h1, h2, h3, h4⟩ := runB_int k
  rcases h with h | h | h
  · exact absurd (h1.symm.trans h) (by decide)
  · have h : (decide (0 ≤ i) && decide (i ≤ 999999999)) = false := h
    rw [decide_eq_true h2, decide_eq_true (by omega), Bool.true_and] at h
    cases h
  · have h : (decide (i + 1 ≤ j) && decide (j ≤ 1000000000)) = false := h i rfl
    rw [decide_eq_true (by omega), decide_eq_true h4, Bool.true_and] at h
    cases h
theorem runB_yes {a e : PyData} {i : Int} (c1 : wordD a = true) (c2 : numD (.int i) 0 999999999 = true) : runB a (.int i) e = numD e (i + 1) 1000000000 := by
  unfold runB
  have c2 : (decide (0 ≤ i) && decide (i ≤ 999999999)) = true := c2
  cases e with
  | int j =>
    show (wordD a && ((decide (0 ≤ i) && decide (i ≤ 999999999)) && (decide (i + 1 ≤ j) && decide (j ≤ 1000000000)))) = (decide (i + 1 ≤ j) && decide (j ≤ 1000000000))
    rw [c1, c2, Bool.true_and, Bool.true_and]
  | _ => rfl
theorem runD_rn {d : PyData} (h : runD d = true) : ∃ r : Rn, d = rnD r ∧ RnOk r ∧ wordB r.1 = true := by
  unfold runD at h
  split at h
  · obtain ⟨x, i, j, rfl, rfl, rfl, h1, h2, h3, h4⟩ := runB_int h
    exact ⟨(x, i, j), rfl, ⟨h2, h3, h4⟩, h1⟩
  · cases h
theorem dn_rn {N : Addr → Prop} {H : Hp} {v : V} {r : Rn} (h : Dn N H v (rnD r)) : ∃ p, v = .ref p ∧ H p = some (.tup (rnV r)) := by
  unfold rnD at h
  cases h with
  | tup ht c =>
    rename_i t ys
    match ys, c with
    | [_, _, _], .cons (.str _) (.cons (.int _) (.cons (.int _) .nil)) => exact ⟨t, rfl, ht⟩
theorem runsD_no {d : PyData} (h : ∀ ds, d ≠ .tuple ds) : runsD d = false := by
  cases d with
  | tuple ds => exact absurd rfl (h ds)
  | _ => rfl
theorem at_all {f : PyData → Bool} {ds : List PyData} (h : (((List.range ds.length).filter fun _ => true).all (atD f ds)) = true) : ∀ d ∈ ds, f d = true := fun d hd => by
  obtain ⟨i, hi, e⟩ := List.getElem_of_mem hd
  have z := List.all_eq_true.mp h i (List.mem_filter.mpr ⟨List.mem_range.mpr hi, rfl⟩)
  unfold atD at z
  rw [List.getElem?_eq_getElem hi, e] at z
  exact z
theorem atD_some {f : PyData → Bool} {ds : List PyData} {i : Nat} {d : PyData} (h : ds[i]? = some d) : atD f ds i = f d := by
  unfold atD
  rw [h]
theorem nextD_some {ds : List PyData} {i : Nat} {a b : Rn} (h : ds[i]? = some (rnD a)) (h2 : ds[i + 1]? = some (rnD b)) : nextD ds i = apart a b := by
  unfold nextD
  rw [h, h2]
  rfl
theorem noteD_nt {d : PyData} (h : ∀ ds, d ≠ .tuple ds) : noteD d = false := by
  cases d with
  | tuple ds => exact absurd rfl (h ds)
  | _ => rfl
theorem runD_nt {d : PyData} (h : ∀ ds, d ≠ .tuple ds) : runD d = false := by
  cases d with
  | tuple ds => exact absurd rfl (h ds)
  | _ => rfl
/-! ### k01, k06: a thing bent -/
mutual
def inB (B : Int) : PyData → Prop
  | .int i => -B ≤ i ∧ i ≤ B
  | .list xs => inBs B xs
  | .tuple xs => inBs B xs
  | _ => True
def inBs (B : Int) : List PyData → Prop
  | [] => True
  | x :: xs => inB B x ∧ inBs B xs
end
mutual
theorem inB_mono {B C : Int} (h : B ≤ C) : ∀ {d : PyData}, inB B d → inB C d
  | .int i, k => ⟨by have := k.1; omega, by have := k.2; omega⟩
  | .list xs, k => inBs_mono h k
  | .tuple xs, k => inBs_mono h k
  | .none, _ => trivial
  | .bool _, _ => trivial
  | .str _, _ => trivial
  | .dict _, _ => trivial
theorem inBs_mono {B C : Int} (h : B ≤ C) : ∀ {ds : List PyData}, inBs B ds → inBs C ds
  | [], _ => trivial
  | _ :: _, k => ⟨inB_mono h k.1, inBs_mono h k.2⟩
end
theorem inBs_at {B : Int} : ∀ {ds : List PyData}, inBs B ds → ∀ d ∈ ds, inB B d
  | d :: ds, h, x, hx => by
    rcases List.mem_cons.mp hx with rfl | hx
    · exact h.1
    · exact inBs_at h.2 x hx
theorem inBs_of {B : Int} : ∀ {ds : List PyData}, (∀ d ∈ ds, inB B d) → inBs B ds
  | [], _ => trivial
  | d :: ds, h => ⟨h d List.mem_cons_self, inBs_of fun x hx => h x (List.mem_cons_of_mem _ hx)⟩
structure Fin3 (k : Nat) (B : Int) (d : PyData) : Prop where
  fine : fineD d = true
  plain : d.plain = true
  dep : d.depth ≤ k
  inb : inB B d
theorem Fin3.mono {k l : Nat} {B C : Int} {d : PyData} (h : Fin3 k B d) (h1 : k ≤ l) (h2 : B ≤ C) : Fin3 l C d := ⟨h.fine, h.plain, Nat.le_trans h.dep h1, inB_mono h2 h.inb⟩
theorem fin_all {k : Nat} {B : Int} : ∀ {es : List PyData}, (∀ e ∈ es, Fin3 k B e) → fineAll es = true ∧ PyData.plainAll es = true ∧ PyData.depthAll es ≤ k
  | [], _ => ⟨rfl, rfl, by simp [PyData.depthAll]⟩
  | e :: es, h => by
    obtain ⟨a1, a2, a3⟩ := fin_all fun x hx => h x (List.mem_cons_of_mem _ hx)
    have b := h e List.mem_cons_self
    refine ⟨?_, ?_, ?_⟩
    · unfold fineAll
      rw [b.fine, a1]
      rfl
    · simp only [PyData.plainAll, b.plain, a2, Bool.and_self]
    · simp only [PyData.depthAll]
      exact Nat.max_le.mpr ⟨b.dep, a3⟩
theorem fin_tup {k : Nat} {B : Int} {es : List PyData} (h : ∀ e ∈ es, Fin3 k B e) : Fin3 (k + 1) B (.tuple es) := by
  obtain ⟨a1, a2, a3⟩ := fin_all h
  exact ⟨a1, a2, by simp only [PyData.depth]; omega, inBs_of fun e he => (h e he).inb⟩
theorem fin_lst {k : Nat} {B : Int} {es : List PyData} (h : ∀ e ∈ es, Fin3 k B e) : Fin3 (k + 1) B (.list es) := by
  obtain ⟨a1, a2, a3⟩ := fin_all h
  exact ⟨a1, a2, by simp only [PyData.depth]; omega, inBs_of fun e he => (h e he).inb⟩
theorem fine_at : ∀ {ds : List PyData}, fineAll ds = true → ∀ d ∈ ds, fineD d = true
  | x :: ds, h, d, hd => by
    unfold fineAll at h
    rw [Bool.and_eq_true] at h
    rcases List.mem_cons.mp hd with rfl | hd
    · exact h.1
    · exact fine_at h.2 d hd
theorem fin_part {k : Nat} {B : Int} {ds : List PyData} (h : Fin3 k B (.tuple ds)) : ∃ m, k = m + 1 ∧ ∀ d ∈ ds, Fin3 m B d := by
  have z := h.dep
  simp only [PyData.depth] at z
  obtain ⟨m, rfl⟩ : ∃ m, k = m + 1 := ⟨k - 1, by omega⟩
  exact ⟨m, rfl, fun d hd => ⟨fine_at h.fine d hd, plain_of h.plain d hd, depth_of (show PyData.depthAll ds ≤ m by omega) d hd, inBs_at h.inb d hd⟩⟩
theorem fin_partL {k : Nat} {B : Int} {ds : List PyData} (h : Fin3 k B (.list ds)) : ∃ m, k = m + 1 ∧ ∀ d ∈ ds, Fin3 m B d := by
  have z := h.dep
  simp only [PyData.depth] at z
  obtain ⟨m, rfl⟩ : ∃ m, k = m + 1 := ⟨k - 1, by omega⟩
  exact ⟨m, rfl, fun d hd => ⟨fine_at h.fine d hd, plain_of h.plain d hd, depth_of (show PyData.depthAll ds ≤ m by omega) d hd, inBs_at h.inb d hd⟩⟩
/-- signs that a text may have -/
def ChOk (x : Str) : Prop := ∀ c ∈ x.cps.toList, c < 16 ^ 8
theorem fin_str {k : Nat} {B : Int} {x : Str} (h : ChOk x) : Fin3 k B (.str x) := ⟨List.all_eq_true.mpr fun c hc => decide_eq_true (h c hc), rfl, by simp [PyData.depth], trivial⟩
theorem Fin3.ch {k : Nat} {B : Int} {x : Str} (h : Fin3 k B (.str x)) : ChOk x := fun c hc => of_decide_eq_true (List.all_eq_true.mp h.fine c hc)
theorem fin_non {k : Nat} {B : Int} : Fin3 k B .none := ⟨rfl, rfl, by simp [PyData.depth], trivial⟩
theorem fin_bool {k : Nat} {B : Int} (b : Bool) : Fin3 k B (.bool b) := ⟨rfl, rfl, by simp [PyData.depth], trivial⟩
theorem t40 : (10 ^ 40 : Int) = 10000000000000000000000000000000000000000 := by decide +kernel
theorem fin_int {k : Nat} {B i : Int} (h1 : -B ≤ i) (h2 : i ≤ B) (hB : B ≤ 10 ^ 40) : Fin3 k B (.int i) := by
  refine ⟨decide_eq_true ?_, rfl, by simp [PyData.depth], h1, h2⟩
  have h : i.natAbs ≤ 10 ^ 40 := by
    have : (10 ^ 40 : Nat) = 10000000000000000000000000000000000000000 := by decide +kernel
    rw [t40] at hB
    omega
  by_cases c : i.natAbs = 0
  · rw [c]; decide
  · exact (Nat.log2_lt c).mpr (Nat.lt_of_le_of_lt h (by decide +kernel))
/-- good data of a size -/
def Gd (k c : Nat) (B : Int) (d : PyData) : Prop := Fin3 k B d ∧ cost d ≤ c
def GV (N : Addr → Prop) (H : Hp) (k c : Nat) (B : Int) (v : V) : Prop := ∃ d, Dn N H v d ∧ Gd k c B d
theorem Gd.mono {k l c e : Nat} {B C : Int} {d : PyData} (h : Gd k c B d) (h1 : k ≤ l) (h2 : c ≤ e) (h3 : B ≤ C) : Gd l e C d := ⟨h.1.mono h1 h3, Nat.le_trans h.2 h2⟩
theorem GV.mono {N : Addr → Prop} {H : Hp} {k l c e : Nat} {B C : Int} {v : V} (h : GV N H k c B v) (h1 : k ≤ l) (h2 : c ≤ e) (h3 : B ≤ C) : GV N H l e C v := by
  obtain ⟨d, a, b⟩ := h
  exact ⟨d, a, b.mono h1 h2 h3⟩
theorem GV.same {N : Addr → Prop} {H H' : Hp} {k c : Nat} {B : Int} {v : V} (s : Same H H') (h : GV N H k c B v) : GV N H' k c B v := by
  obtain ⟨d, a, b⟩ := h
  exact ⟨d, a.same s, b⟩
theorem GV.but {f c0 : Addr} {n : Int} {H H' : Hp} {k c : Nat} {B : Int} {v : V} (b : But f H H') (hf : Fd H f c0 n) (h : GV (fun a => a ≠ f) H k c B v) : GV (fun a => a ≠ f) H' k c B v := by
  obtain ⟨d, a, g⟩ := h
  exact ⟨d, a.but (fun _ z => z) b hf, g⟩
theorem DnAll.but {f c0 : Addr} {n : Int} {H H' : Hp} {xs : List V} {ds : List PyData} (b : But f H H') (hf : Fd H f c0 n) (h : DnAll (fun a => a ≠ f) H xs ds) : DnAll (fun a => a ≠ f) H' xs ds := by
  obtain ⟨zs, hz⟩ := hf.at
  exact h.stay (fun a xs n e => b a _ n e) fun a xs e => b a _ (ne_of e hz fun z => nomatch z) e
def cutD (ds : List PyData) (lo hi : Option Int) : List PyData := (ds.drop (HT.sIx ds.length 0 lo)).take (HT.sIx ds.length ds.length hi - HT.sIx ds.length 0 lo)
theorem DnAll.take {N : Addr → Prop} {H : Hp} : ∀ {xs : List V} {ds : List PyData} (n : Nat), DnAll N H xs ds → DnAll N H (xs.take n) (ds.take n)
  | _, _, 0, _ => .nil
  | _, _, _ + 1, .nil => .nil
  | _, _, n + 1, .cons a b => .cons a (DnAll.take n b)
theorem DnAll.drop {N : Addr → Prop} {H : Hp} : ∀ {xs : List V} {ds : List PyData} (n : Nat), DnAll N H xs ds → DnAll N H (xs.drop n) (ds.drop n)
  | _, _, 0, h => h
  | _, _, _ + 1, .nil => .nil
  | _, _, n + 1, .cons _ b => DnAll.drop n b
theorem DnAll.rev {N : Addr → Prop} {H : Hp} : ∀ {xs : List V} {ds : List PyData}, DnAll N H xs ds → DnAll N H xs.reverse ds.reverse
  | _, _, .nil => .nil
  | _, _, .cons a b => by
    rw [List.reverse_cons, List.reverse_cons]
    exact (DnAll.rev b).app (.cons a .nil)
theorem DnAll.cut {N : Addr → Prop} {H : Hp} {xs : List V} {ds : List PyData} (h : DnAll N H xs ds) (lo hi : Option Int) : DnAll N H (cutV xs lo hi) (cutD ds lo hi) := by
  unfold cutV cutD
  rw [h.len]
  exact (h.drop _).take _
theorem cost_app : ∀ (a b : List PyData), costAll (a ++ b) = costAll a + costAll b
  | [], b => by
    show costAll b = 0 + costAll b
    omega
  | x :: a, b => by
    show cost x + 2 + costAll (a ++ b) = cost x + 2 + costAll a + costAll b
    rw [cost_app a b]
    omega
theorem cost_rev : ∀ (a : List PyData), costAll a.reverse = costAll a
  | [] => rfl
  | x :: a => by
    rw [List.reverse_cons, cost_app, cost_rev a]
    show costAll a + (cost x + 2 + 0) = cost x + 2 + costAll a
    omega
theorem cost_take (a : List PyData) (n : Nat) : costAll (a.take n) ≤ costAll a := by
  have e := cost_app (a.take n) (a.drop n)
  rw [List.take_append_drop] at e
  omega
theorem cost_drop (a : List PyData) (n : Nat) : costAll (a.drop n) ≤ costAll a := by
  have e := cost_app (a.take n) (a.drop n)
  rw [List.take_append_drop] at e
  omega
theorem cost_cut (a : List PyData) (lo hi : Option Int) : costAll (cutD a lo hi) ≤ costAll a := Nat.le_trans (cost_take _ _) (cost_drop _ _)
theorem cutD_mem {a : List PyData} {lo hi : Option Int} {e : PyData} (h : e ∈ cutD a lo hi) : e ∈ a := List.mem_of_mem_drop (List.mem_of_mem_take h)
/-- one part put in the place of another -/
theorem cost_put {a : List PyData} {i : Nat} {d : PyData} (h : a[i]? = some d) : costAll (a.take i) + costAll (a.drop (i + 1)) + (cost d + 2) = costAll a := by
  obtain ⟨hi, e⟩ := List.getElem?_eq_some_iff.mp h
  have z := cost_app (a.take i) (a.drop i)
  rw [List.take_append_drop, List.drop_eq_getElem_cons hi, e] at z
  have y : costAll (d :: a.drop (i + 1)) = cost d + 2 + costAll (a.drop (i + 1)) := rfl
  omega
theorem cutD_to (a : List PyData) (n : Nat) : cutD a none (some (n : Int)) = a.take n := by
  unfold cutD
  rw [HT.sIx_none, HT.sIx_nat, List.drop_zero, Nat.sub_zero]
  rcases Nat.le_total n a.length with h | h
  · rw [Nat.min_eq_left h]
  · rw [Nat.min_eq_right h, List.take_of_length_le (Nat.le_refl _), List.take_of_length_le h]
theorem cutD_from (a : List PyData) (n : Nat) : cutD a (some (n : Int)) none = a.drop n := by
  unfold cutD
  rw [HT.sIx_none, HT.sIx_nat]
  rcases Nat.le_total n a.length with h | h
  · rw [Nat.min_eq_left h, List.take_of_length_le (by rw [List.length_drop]; exact Nat.le_refl _)]
  · rw [Nat.min_eq_right h, Nat.sub_self, List.take_zero, List.drop_eq_nil_of_le h]
/-- a new tuple, a new list of good parts -/
theorem gv_tup {N : Addr → Prop} {H : Hp} {k c : Nat} {B : Int} {t : Addr} {xs : List V} {es : List PyData} (ht : H t = some (.tup xs)) (hx : DnAll N H xs es) (h : ∀ e ∈ es, Fin3 k B e) (hc : costAll es + 3 ≤ c) : GV N H (k + 1) c B (.ref t) := ⟨_, .tup ht hx, fin_tup h, hc⟩
theorem gv_lst {N : Addr → Prop} {H : Hp} {k c : Nat} {B : Int} {t : Addr} {xs : List V} {es : List PyData} (hn : N t) (ht : H t = some (.lst xs)) (hx : DnAll N H xs es) (h : ∀ e ∈ es, Fin3 k B e) (hc : costAll es + 3 ≤ c) : GV N H (k + 1) c B (.ref t) := ⟨_, .lst hn ht hx, fin_lst h, hc⟩
theorem gv_non {N : Addr → Prop} {H : Hp} {k c : Nat} {B : Int} (hc : 10 ≤ c) : GV N H k c B .non := ⟨_, .non, fin_non, Nat.le_trans (show cost .none ≤ 10 by decide) hc⟩
theorem gv_bl {N : Addr → Prop} {H : Hp} {k c : Nat} {B : Int} (b : Bool) (hc : 10 ≤ c) : GV N H k c B (.bl b) := ⟨_, .bl b, fin_bool b, Nat.le_trans (show cost (.bool b) ≤ 10 by cases b <;> decide) hc⟩
theorem gv_int {N : Addr → Prop} {H : Hp} {k c : Nat} {B i : Int} (h1 : -B ≤ i) (h2 : i ≤ B) (hB : B ≤ 10 ^ 40) (hc : 2000 ≤ c) : GV N H k c B (.int i) := ⟨_, .int i, fin_int h1 h2 hB, hc⟩
theorem gv_str {N : Addr → Prop} {H : Hp} {k c : Nat} {B : Int} {x : Str} (h : ChOk x) (hc : 10 * x.length + 2 ≤ c) : GV N H k c B (.str x) := ⟨_, .str x, fin_str h, hc⟩
theorem ch_cut {x : Str} (h : ChOk x) (lo hi : Option Int) : ChOk (cutS x lo hi) := fun c hc => h c (by
  have hc : c ∈ (((x.cps.toList.drop (HT.sIx x.length 0 lo)).take (HT.sIx x.length x.length hi - HT.sIx x.length 0 lo)).toArray).toList := hc
  exact List.mem_of_mem_drop (List.mem_of_mem_take hc))
theorem ch_app {x y : Str} (h : ChOk x) (k : ChOk y) : ChOk (x ++ y) := fun c hc => by
  have hc : c ∈ (x.cps ++ y.cps).toList := hc
  rw [Array.toList_append] at hc
  exact (List.mem_append.mp hc).elim (h c) (k c)
theorem ch_one {c : Nat} (h : c < 16 ^ 8) : ChOk ⟨#[c]⟩ := fun d hd => by
  have hd : d ∈ [c] := hd
  rw [List.mem_singleton.mp hd]
  exact h
/-- what odd and bent answer -/
def BtOk (f c0 : Addr) (n m : Int) (k c : Nat) (B : Int) (H : Hp) (Q : VK) : Prop := ∀ (v : V) (H' : Hp), Fd H' f c0 (n + m) → But f H H' → GV (fun a => a ≠ f) H' (k + 1) (3 * c + 5000) (B + 1) v → Q v H'
def spOdd : Sp := fun vs H Q _ => ∃ (f c0 : Addr) (v : V) (d : PyData) (n : Int) (k c : Nat) (B : Int), vs = [.ref f, v] ∧ Fd H f c0 n ∧ n ≤ 900000 ∧ Dn (fun a => a ≠ f) H v d ∧ Gd k c B d ∧ k ≤ 30 ∧ c ≤ 4000000 ∧ 1000000010 ≤ B ∧ B ≤ 10 ^ 39 ∧ BtOk f c0 n 10 k c B H Q
def spBentK : Nat → Sp
  | 0 => fun _ _ _ _ => False
  | m + 1 => fun vs H Q _ => ∃ (f c0 : Addr) (v : V) (d : PyData) (n : Int) (k c : Nat) (B : Int), vs = [.ref f, v] ∧ Fd H f c0 n ∧ n + 20 * (m + 1) ≤ 800000 ∧ Dn (fun a => a ≠ f) H v d ∧ Gd k c B d ∧ k ≤ m ∧ k ≤ 30 ∧ c ≤ 4000000 ∧ 1000000010 ≤ B ∧ B ≤ 10 ^ 39 ∧ BtOk f c0 n (20 * (m + 1)) k c B H Q
theorem bent_none {P : Program} {w : World} {K : PySem.W.Frag} {mg : Str → Option Value} {base : Heap} {k : Nat} {f : Addr} {fd : FuncData} {ps : List Str} : FnOk P w K mg base CX0 k f fd ps (spBentK 0) :=
  ⟨fun _ _ _ _ h => h.elim, fun _ _ _ _ _ _ _ _ _ _ _ _ _ h => h.elim⟩
theorem sign_at {i : Int} (h0 : 0 ≤ i) (h1 : i < 13) : ∃ c, atI ((("abmyz A0-_`{~" : String) : Str)).cps.toList i = some c ∧ c < 16 ^ 8 := by
  have k : i = 0 ∨ i = 1 ∨ i = 2 ∨ i = 3 ∨ i = 4 ∨ i = 5 ∨ i = 6 ∨ i = 7 ∨ i = 8 ∨ i = 9 ∨ i = 10 ∨ i = 11 ∨ i = 12 := by omega
  rcases k with rfl | rfl | rfl | rfl | rfl | rfl | rfl | rfl | rfl | rfl | rfl | rfl | rfl
  · exact ⟨97, by decide +kernel, by decide⟩
  · exact ⟨98, by decide +kernel, by decide⟩
  · exact ⟨109, by decide +kernel, by decide⟩
  · exact ⟨121, by decide +kernel, by decide⟩
  · exact ⟨122, by decide +kernel, by decide⟩
  · exact ⟨32, by decide +kernel, by decide⟩
  · exact ⟨65, by decide +kernel, by decide⟩
  · exact ⟨48, by decide +kernel, by decide⟩
  · exact ⟨45, by decide +kernel, by decide⟩
  · exact ⟨95, by decide +kernel, by decide⟩
  · exact ⟨96, by decide +kernel, by decide⟩
  · exact ⟨123, by decide +kernel, by decide⟩
  · exact ⟨126, by decide +kernel, by decide⟩
theorem chA : ChOk (("a" : String) : Str) := fun c hc => by
  have hc : c ∈ [97] := hc
  rw [List.mem_singleton.mp hc]
  decide
theorem chE : ChOk (("" : String) : Str) := fun c hc => by
  have hc : c ∈ ([] : List Nat) := hc
  cases hc
theorem But.tup {f c0 a : Addr} {n : Int} {H H' : Hp} {xs : List V} (b : But f H H') (hf : Fd H f c0 n) (h : H a = some (.tup xs)) : H' a = some (.tup xs) := by
  obtain ⟨zs, hz⟩ := hf.at
  exact b _ _ (ne_of h hz fun z => nomatch z) h
theorem gvs_cons {P : V → Prop} {v : V} {l : List V} (h : P v) (k : ∀ w ∈ l, P w) : ∀ w ∈ v :: l, P w := fun w hw => by
  rcases List.mem_cons.mp hw with rfl | hw
  · exact h
  · exact k w hw
theorem gvs_nil {P : V → Prop} : ∀ w ∈ ([] : List V), P w := fun w hw => nomatch hw
theorem dn_allP2 {N : Addr → Prop} {H : Hp} {P : PyData → Prop} : ∀ {xs : List V}, (∀ v ∈ xs, ∃ d, Dn N H v d ∧ P d) → ∃ ds, DnAll N H xs ds ∧ ∀ d ∈ ds, P d
  | [], _ => ⟨[], .nil, fun _ z => nomatch z⟩
  | v :: xs, h => by
    obtain ⟨d, d1, d2⟩ := h v List.mem_cons_self
    obtain ⟨ds, e1, e2⟩ := dn_allP2 fun u hu => h u (List.mem_cons_of_mem _ hu)
    exact ⟨d :: ds, .cons d1 e1, fun z hz => (List.mem_cons.mp hz).elim (fun k => k ▸ d2) (e2 z)⟩
theorem gv_all {N : Addr → Prop} {H : Hp} {k c : Nat} {B : Int} {xs : List V} (h : ∀ v ∈ xs, GV N H k c B v) : ∃ es, DnAll N H xs es ∧ (∀ e ∈ es, Fin3 k B e) ∧ costAll es ≤ (c + 2) * xs.length := by
  obtain ⟨es, d1, d2⟩ := dn_allP2 h
  have l := d1.len
  refine ⟨es, d1, fun e he => (d2 e he).1, ?_⟩
  rw [l]
  clear d1 l h
  induction es with
  | nil => exact Nat.zero_le _
  | cons e es ih =>
    have a := (d2 e List.mem_cons_self).2
    have b := ih fun x hx => d2 x (List.mem_cons_of_mem _ hx)
    show cost e + 2 + costAll es ≤ (c + 2) * (es.length + 1)
    rw [Nat.mul_add, Nat.mul_one]
    omega
theorem gvt {N : Addr → Prop} {H : Hp} {k c e : Nat} {B : Int} {t : Addr} {xs : List V} (ht : H t = some (.tup xs)) (h : ∀ v ∈ xs, GV N H k c B v) (he : (c + 2) * xs.length + 3 ≤ e) : GV N H (k + 1) e B (.ref t) := by
  obtain ⟨es, d1, d2, d3⟩ := gv_all h
  exact gv_tup ht d1 d2 (by omega)
theorem gvl {N : Addr → Prop} {H : Hp} {k c e : Nat} {B : Int} {t : Addr} {xs : List V} (hn : N t) (ht : H t = some (.lst xs)) (h : ∀ v ∈ xs, GV N H k c B v) (he : (c + 2) * xs.length + 3 ≤ e) : GV N H (k + 1) e B (.ref t) := by
  obtain ⟨es, d1, d2, d3⟩ := gv_all h
  exact gv_lst hn ht d1 d2 (by omega)
theorem GV.imp {N M : Addr → Prop} {H : Hp} {k c : Nat} {B : Int} {v : V} (i : ∀ a, N a → M a) (h : GV N H k c B v) : GV M H k c B v := by
  obtain ⟨d, a, b⟩ := h
  exact ⟨d, a.imp i, b⟩
def MB : Int := 10 ^ 39 + 100
theorem mb40 : MB ≤ 10 ^ 40 := by unfold MB; decide +kernel
/-- atoms of the menu -/
theorem ma_str {N : Addr → Prop} {H : Hp} {x : Str} (h : (x.cps.toList.all fun c => decide (c < 16 ^ 8)) = true) (l : x.length ≤ 100) : GV N H 0 2000 MB (.str x) := gv_str (fun c hc => of_decide_eq_true (List.all_eq_true.mp h c hc)) (by omega)
theorem ma_int {N : Addr → Prop} {H : Hp} {i : Int} (h1 : decide (-MB ≤ i) = true) (h2 : decide (i ≤ MB) = true) : GV N H 0 2000 MB (.int i) := gv_int (of_decide_eq_true h1) (of_decide_eq_true h2) mb40 (Nat.le_refl _)
theorem ma_non {N : Addr → Prop} {H : Hp} : GV N H 0 2000 MB .non := gv_non (by decide)
theorem ma_bl {N : Addr → Prop} {H : Hp} (b : Bool) : GV N H 0 2000 MB (.bl b) := gv_bl b (by decide)
def spMenu : Sp := fun vs H Q _ => vs = [] ∧ ∀ (l : Addr) (xs : List V) (H' : Hp), Same H H' → H l = none → H' l = some (.lst xs) → xs.length ≤ 100 → (∀ v ∈ xs, GV (fun a => H a = none) H' 4 200000 MB v) → Q (.ref l) H'
theorem nm_ch {x : Str} (h : NmOk x) : ChOk x := fun c hc => of_decide_eq_true (List.all_eq_true.mp h.2 c hc)
theorem fin_rn {r : Rn} {B : Int} (h1 : RnOk r) (h2 : NmOk r.1) (hB : 1000000000 ≤ B) (hB2 : B ≤ 10 ^ 40) : Fin3 1 B (rnD r) ∧ cost (rnD r) ≤ 5000 := by
  obtain ⟨a, b, c⟩ := h1
  refine ⟨fin_tup (k := 0) fun e he => ?_, (rn_fine ⟨a, b, c⟩ h2).2⟩
  simp only [List.mem_cons, List.not_mem_nil, or_false] at he
  rcases he with rfl | rfl | rfl
  · exact fin_str (nm_ch h2)
  · exact fin_int (by omega) (by omega) hB2
  · exact fin_int (by omega) (by omega) hB2
theorem rn_dn {N : Addr → Prop} {H : Hp} {p : Addr} {r : Rn} (h : H p = some (.tup (rnV r))) : Dn N H (.ref p) (rnD r) := .tup h (.cons (.str _) (.cons (.int _) (.cons (.int _) .nil)))
theorem rn_gv {N : Addr → Prop} {H : Hp} {p : Addr} {r : Rn} {B : Int} (h : H p = some (.tup (rnV r))) (h1 : RnOk r) (h2 : NmOk r.1) (hB : 1000000000 ≤ B) (hB2 : B ≤ 10 ^ 40) : GV N H 1 5000 B (.ref p) := by
  obtain ⟨a, b⟩ := fin_rn h1 h2 hB hB2
  exact ⟨_, rn_dn h, a, b⟩
theorem prd_gvs {N : Addr → Prop} {H : Hp} {B : Int} (hB : 1000000000 ≤ B) (hB2 : B ≤ 10 ^ 40) : ∀ {ps : List Addr} {rs : List Rn}, Prd H ps rs → (∀ r ∈ rs, RnOk r ∧ NmOk r.1) → ∀ v ∈ ps.map V.ref, GV N H 1 5000 B v
  | _, _, .nil, _ => fun v hv => nomatch hv
  | _, _, .cons a b, h => by
    rw [List.map_cons]
    obtain ⟨x, y⟩ := h _ List.mem_cons_self
    exact gvs_cons (rn_gv a x y hB hB2) (prd_gvs hB hB2 b fun r hr => h r (List.mem_cons_of_mem _ hr))
theorem prd_gv {N : Addr → Prop} {H : Hp} {t : Addr} {ps : List Addr} {rs : List Rn} {B : Int} (ht : H t = some (.tup (ps.map V.ref))) (h : Prd H ps rs) (ok : ∀ r ∈ rs, RnOk r ∧ NmOk r.1) (l : rs.length ≤ 65) (hB : 1000000000 ≤ B) (hB2 : B ≤ 10 ^ 40) : GV N H 2 330000 B (.ref t) := by
  have e := h.len
  exact gvt ht (prd_gvs hB hB2 h ok) (by
    rw [List.length_map]
    have : (5000 + 2) * ps.length ≤ (5000 + 2) * 65 := Nat.mul_le_mul_left _ (by omega)
    omega)
def spThings : Sp := fun vs H Q _ => ∃ (f c l : Addr) (m n : Int) (xs : List Str), vs = [.ref f, .ref l, .int m] ∧ Fd H f c n ∧ n ≤ 100000 ∧ 0 < m ∧ m ≤ 1000000 ∧ H l = some (.lst (xs.map V.str)) ∧ l ≠ f ∧ xs.length = 4 ∧ (∀ x ∈ xs, NmOk x) ∧
  ∀ (t : Addr) (us : List V) (H' : Hp), Fd H' f c (n + 10000) → But f H H' → t ≠ f → H' t = some (.lst us) → us.length ≤ 200 → (∀ v ∈ us, GV (fun a => a ≠ f) H' 4 3000000 MB v) → Q (.ref t) H'
theorem runsOf_good {rs : List Rn} {P : Str → Prop} (h : ∀ r ∈ rs, RnOk r ∧ P r.1) : ∀ r ∈ runsOf rs, RnOk r ∧ P r.1 := fun r hr => by
  have hf : Full rs := fun x hx => (h x hx).1.2.1
  obtain ⟨ca, hs⟩ := runsOf_ok hf
  have fr := ca.2 r hr
  obtain ⟨x, hx, e1, l1, _⟩ := (hs r.1 r.2.1).mp ⟨r, hr, rfl, Int.le_refl _, fr⟩
  obtain ⟨y, hy, e2, _, l2⟩ := (hs r.1 (r.2.2 - 1)).mp ⟨r, hr, rfl, by omega, by omega⟩
  obtain ⟨⟨a1, a2, a3⟩, a4⟩ := h x hx
  obtain ⟨⟨b1, b2, b3⟩, b4⟩ := h y hy
  exact ⟨⟨by omega, fr, by omega⟩, e1 ▸ a4⟩
theorem Prd.takeN {H : Hp} : ∀ {ps : List Addr} {rs : List Rn} (n : Nat), Prd H ps rs → Prd H (ps.take n) (rs.take n)
  | _, _, 0, _ => .nil
  | _, _, _ + 1, .nil => .nil
  | _, _, n + 1, .cons a b => .cons a (Prd.takeN n b)
/-! ### k03: how many notes, where one is, the k-th -/
def cnt (r : Rn) : Int := r.2.2 - r.2.1
def cntL (rs : List Rn) : Int := (rs.map cnt).sum
theorem cntL_cons (r : Rn) (rs : List Rn) : cntL (r :: rs) = cnt r + cntL rs := by
  unfold cntL
  rw [List.map_cons, List.sum_cons]
theorem cntL_app (a b : List Rn) : cntL (a ++ b) = cntL a + cntL b := by
  unfold cntL
  rw [List.map_append, List.sum_append]
theorem cntL_nn : ∀ {rs : List Rn}, Full rs → 0 ≤ cntL rs
  | [], _ => Int.le_refl _
  | r :: rs, h => by
    have h1 := h r List.mem_cons_self
    have h2 := cntL_nn (rs := rs) fun x hx => h x (List.mem_cons_of_mem _ hx)
    rw [cntL_cons]
    unfold cnt
    omega
theorem cntL_hi : ∀ {rs : List Rn}, (∀ r ∈ rs, RnOk r) → cntL rs ≤ 1000000000 * rs.length
  | [], _ => Int.le_refl _
  | r :: rs, h => by
    obtain ⟨h1, h3, h4⟩ := h r List.mem_cons_self
    have h2 := cntL_hi (rs := rs) fun x hx => h x (List.mem_cons_of_mem _ hx)
    rw [cntL_cons, List.length_cons]
    unfold cnt
    omega
def plL : List Rn → Str → Int → Int → Option Int
  | [], _, _, _ => none
  | r :: rs, s, n, a => if r.1 = s ∧ r.2.1 ≤ n ∧ n < r.2.2 then some (a + n - r.2.1) else plL rs s n (a + cnt r)
def plV : Option Int → V
  | none => .non
  | some k => .int k
def kL : List Rn → Int → Option (Str × Int)
  | [], _ => none
  | r :: rs, k => if k < cnt r then some (r.1, r.2.1 + k) else kL rs (k - cnt r)
def kAt (rs : List Rn) (k : Int) : Option (Str × Int) := if k < 0 then none else kL rs k
instance (a b : Str) : Decidable (sl a b) := inferInstanceAs (Decidable (a.cps.toList < b.cps.toList))
def ahR (r : Rn) (s : Str) (n : Int) : Int := (if sl r.1 s then cnt r else 0) + (if r.1 = s then mn (mx (n - r.2.1) 0) (cnt r) else 0)
def ahL (rs : List Rn) (s : Str) (n : Int) : Int := (rs.map fun r => ahR r s n).sum
theorem ahL_cons (r : Rn) (rs : List Rn) (s : Str) (n : Int) : ahL (r :: rs) s n = ahR r s n + ahL rs s n := by
  unfold ahL
  rw [List.map_cons, List.sum_cons]
theorem ahR_lt {r : Rn} {s : Str} {n : Int} (h : sl r.1 s) : ahR r s n = cnt r := by
  unfold ahR
  rw [if_pos h, if_neg (fun z => by rw [z] at h; exact sl_irr _ h)]
  omega
theorem ahR_gt {r : Rn} {s : Str} {n : Int} (h : sl s r.1) : ahR r s n = 0 := by
  unfold ahR
  rw [if_neg (fun z => sl_as h z), if_neg (fun z => by rw [z] at h; exact sl_irr _ h)]
  rfl
theorem ahR_eq {r : Rn} {s : Str} {n : Int} (h : r.1 = s) : ahR r s n = mn (mx (n - r.2.1) 0) (cnt r) := by
  unfold ahR
  rw [if_neg (fun z => by rw [h] at z; exact sl_irr _ z), if_pos h]
  omega
theorem ahL_zero : ∀ {rs : List Rn} {s : Str} {n : Int}, Full rs → (∀ r ∈ rs, sl s r.1 ∨ (r.1 = s ∧ n ≤ r.2.1)) → ahL rs s n = 0
  | [], _, _, _, _ => rfl
  | r :: rs, s, n, f, h => by
    rw [ahL_cons, ahL_zero (fun x hx => f x (List.mem_cons_of_mem _ hx)) fun x hx => h x (List.mem_cons_of_mem _ hx)]
    have hf := f r List.mem_cons_self
    rcases h r List.mem_cons_self with z | ⟨z1, z2⟩
    · rw [ahR_gt z]
      rfl
    · rw [ahR_eq z1]
      unfold mn mx cnt
      split <;> split <;> omega
theorem ahL_all : ∀ {rs : List Rn} {s : Str} {n : Int}, Full rs → (∀ r ∈ rs, sl r.1 s ∨ (r.1 = s ∧ r.2.2 ≤ n)) → ahL rs s n = cntL rs
  | [], _, _, _, _ => rfl
  | r :: rs, s, n, f, h => by
    rw [ahL_cons, cntL_cons, ahL_all (fun x hx => f x (List.mem_cons_of_mem _ hx)) fun x hx => h x (List.mem_cons_of_mem _ hx)]
    have hf := f r List.mem_cons_self
    rcases h r List.mem_cons_self with z | ⟨z1, z2⟩
    · rw [ahR_lt z]
    · rw [ahR_eq z1]
      unfold mn mx cnt
      split <;> split <;> omega
theorem ahL_app (a b : List Rn) (s : Str) (n : Int) : ahL (a ++ b) s n = ahL a s n + ahL b s n := by
  unfold ahL
  rw [List.map_append, List.sum_append]
theorem canon_app {a b : List Rn} (h : Canon (a ++ b)) : Canon a ∧ Canon b ∧ ∀ x ∈ a, ∀ y ∈ b, apart x y = true := by
  obtain ⟨h1, h2⟩ := h
  obtain ⟨p1, p2, p3⟩ := List.pairwise_append.mp h1
  exact ⟨⟨p1, fun r hr => h2 r (List.mem_append_left _ hr)⟩, ⟨p2, fun r hr => h2 r (List.mem_append_right _ hr)⟩, p3⟩
/-- what lies ahead of a note in, or right behind, the run r -/
theorem ahL_at {a b : List Rn} {r : Rn} {n : Int} (h : Canon (a ++ r :: b)) (h1 : r.2.1 ≤ n) (h2 : n ≤ r.2.2) : ahL (a ++ r :: b) r.1 n = cntL a + (n - r.2.1) := by
  obtain ⟨ca, cb, ab⟩ := canon_app h
  have hf := cb.2 r List.mem_cons_self
  rw [ahL_app, ahL_cons, ahL_all ca.2, ahL_zero cb.tail.2, ahR_eq rfl]
  · have e : mn (mx (n - r.2.1) 0) (cnt r) = n - r.2.1 := by
      unfold mn mx cnt
      split <;> split <;> omega
    omega
  · intro y hy
    have z := (List.pairwise_cons.mp cb.1).1 y hy
    rcases (apart_iff _ _).mp z with ⟨z1, z2⟩ | z1
    · exact Or.inr ⟨z1.symm, by omega⟩
    · exact Or.inl z1
  · intro x hx
    rcases (apart_iff _ _).mp (ab x hx r List.mem_cons_self) with ⟨z1, z2⟩ | z1
    · exact Or.inr ⟨z1, by omega⟩
    · exact Or.inl z1
theorem plL_eq : ∀ (rs : List Rn) (s : Str) (n a : Int), Canon rs → plL rs s n a = if hasB rs s n = true then some (a + ahL rs s n) else none
  | [], _, _, _, _ => rfl
  | r :: rs, s, n, a, h => by
    unfold plL
    by_cases c : r.1 = s ∧ r.2.1 ≤ n ∧ n < r.2.2
    · rw [if_pos c, if_pos ((hasB_iff _ _ _).mpr ((has_cons _ _ _ _).mpr (Or.inl c)))]
      obtain ⟨rfl, c1, c2⟩ := c
      have z := ahL_at (a := []) h c1 (by omega)
      rw [List.nil_append] at z
      rw [z]
      have e : cntL [] = 0 := rfl
      rw [e]
      congr 1
      omega
    · rw [if_neg c, plL_eq rs s n _ h.tail]
      by_cases k : has rs s n
      · rw [if_pos ((hasB_iff _ _ _).mpr k), if_pos ((hasB_iff _ _ _).mpr ((has_cons _ _ _ _).mpr (Or.inr k))), ahL_cons]
        have hf := h.2 r List.mem_cons_self
        have e : ahR r s n = cnt r := by
          rcases canon_first h k with ⟨z1, z2⟩ | z
          · rw [ahR_eq z1]
            unfold mn mx cnt
            split <;> split <;> omega
          · exact ahR_lt z
        rw [e]
        congr 1
        omega
      · rw [if_neg (fun z => k ((hasB_iff _ _ _).mp z)), if_neg (fun z => by
          rcases (has_cons _ _ _ _).mp ((hasB_iff _ _ _).mp z) with z | z
          · exact c z
          · exact k z)]
theorem plL_some (rs : List Rn) (s : Str) (n : Int) (h : Canon rs) : (plL rs s n 0).isSome = hasB rs s n := by
  rw [plL_eq rs s n 0 h]
  cases hasB rs s n <;> rfl
/-- the law's own way to the k-th -/
def goL : List Rn → Int → Int → Option (Str × Int)
  | [], _, _ => none
  | r :: rs, a, k => if a ≤ k ∧ k < a + cnt r then some (r.1, r.2.1 + k - a) else goL rs (a + cnt r) k
theorem goL_le : ∀ (rs : List Rn) (a k : Int), a ≤ k → goL rs a k = kL rs (k - a)
  | [], _, _, _ => rfl
  | r :: rs, a, k, h => by
    unfold goL kL
    by_cases c : k - a < cnt r
    · rw [if_pos ⟨h, by omega⟩, if_pos c]
      congr 2
      omega
    · rw [if_neg (fun z => c (by omega)), if_neg c, goL_le rs _ _ (by omega)]
      congr 1
      omega
theorem goL_lt : ∀ (rs : List Rn) (a k : Int), Full rs → k < a → goL rs a k = none
  | [], _, _, _, _ => rfl
  | r :: rs, a, k, f, h => by
    unfold goL
    have hf := f r List.mem_cons_self
    rw [if_neg (fun z => by omega), goL_lt rs _ _ (fun x hx => f x (List.mem_cons_of_mem _ hx)) (by unfold cnt; omega)]
theorem goL_all {rs : List Rn} (k : Int) (f : Full rs) : goL rs 0 k = kAt rs k := by
  unfold kAt
  by_cases c : k < 0
  · rw [if_pos c, goL_lt rs 0 k f c]
  · rw [if_neg c, goL_le rs 0 k (by omega), Int.sub_zero]
/-- what is heard: the k-th note, or the refusal -/
def hdD (o : Option (Str × Int)) (k : Int) : PyData := match o with
  | some (s, n) => .tuple [.str "told", .tuple [.str s, .int n]]
  | none => .tuple [.str "no", .int k]
theorem hd_nice (o : Option (Str × Int)) (k : Int) : Nice 3 (hdD o k) := by
  cases o with
  | none =>
    refine Or.inr ⟨_, Or.inr rfl, (show 2 ≤ 100000 by decide), fun e he => ?_⟩
    simp only [List.mem_cons, List.not_mem_nil, or_false] at he
    rcases he with rfl | rfl <;> exact Nice.flat rfl
  | some p =>
    obtain ⟨s, n⟩ := p
    refine Or.inr ⟨_, Or.inr rfl, (show 2 ≤ 100000 by decide), fun e he => ?_⟩
    simp only [List.mem_cons, List.not_mem_nil, or_false] at he
    rcases he with rfl | rfl
    · exact Nice.flat rfl
    · refine Or.inr ⟨_, Or.inr rfl, (show 2 ≤ 100000 by decide), fun e he => ?_⟩
      simp only [List.mem_cons, List.not_mem_nil, or_false] at he
      rcases he with rfl | rfl <;> exact Nice.flat rfl
abbrev Nt := Str × Int
def ntV (e : Nt) : List V := [.str e.1, .int e.2]
abbrev Nts (H : Hp) (ps : List Addr) (es : List Nt) : Prop := Paired (fun (p : Addr) (e : Nt) => H p = some (.tup (ntV e))) ps es
theorem Nts.len {H : Hp} {ps : List Addr} {es : List Nt} (h : Nts H ps es) : ps.length = es.length := Paired.length h
theorem Nts.keep {H H' : Hp} : ∀ {ps : List Addr} {es : List Nt}, (∀ p o, (∀ xs, o ≠ HO.lst xs) → H p = some o → H' p = some o) → Nts H ps es → Nts H' ps es
  | _, _, _, .nil => .nil
  | _, _, k, .cons a b => .cons (k _ _ (fun _ z => nomatch z) a) (Nts.keep k b)
theorem Nts.same {H H' : Hp} {ps : List Addr} {es : List Nt} (s : Same H H') (h : Nts H ps es) : Nts H' ps es := Nts.keep (fun p o _ e => s p o e) h
theorem Nts.app {H : Hp} : ∀ {ps qs : List Addr} {es ts : List Nt}, Nts H ps es → Nts H qs ts → Nts H (ps ++ qs) (es ++ ts)
  | _, _, _, _, .nil, b => b
  | _, _, _, _, .cons a r, b => .cons a (Nts.app r b)
theorem Nts.get {H : Hp} : ∀ {ps : List Addr} {es : List Nt} {i : Nat} {p : Addr}, Nts H ps es → ps[i]? = some p → ∃ e, es[i]? = some e ∧ H p = some (.tup (ntV e))
  | _, _, 0, _, .cons a _, h => by
    cases h
    exact ⟨_, rfl, a⟩
  | _, _, i + 1, p, .cons _ b, h => Nts.get (i := i) (p := p) b h
theorem Nts.but {H H' : Hp} {f c : Addr} {n : Int} {ps : List Addr} {es : List Nt} (hf : Fd H f c n) (b : But f H H') (h : Nts H ps es) : Nts H' ps es := by
  obtain ⟨zs, hz⟩ := hf.at
  exact Nts.keep (fun p o no e => b p o (ne_of e hz (no _)) e) h
/-! promises -/
def spDrawW : Sp := fun vs H Q _ => ∃ (f c : Addr) (m n : Int), vs = [.ref f, .int m] ∧ Fd H f c n ∧ n ≤ 1000000 ∧ 0 < m ∧ m ≤ 1000000000000000 ∧
  ∀ (d : Int) (H' : Hp), 0 ≤ d → d < m → Fd H' f c (n + 1) → But f H H' → (∀ a, H a = none → H' a = none) → Q (.int d) H'
theorem draw_wide {vs : List V} {H : Hp} {Q : VK} {E : XK} (h : spDraw vs H Q E) : spDrawW vs H Q E := by
  obtain ⟨f, c, m, n, h1, h2, h3, h4, h5, h6⟩ := h
  exact ⟨f, c, m, n, h1, h2, h3, h4, by omega, h6⟩
def spMany (K : PySem.W.Frag) (P : Addr) : Sp := fun vs H Q _ => ∃ (a : Addr) (rs : List Rn), vs = [.ref a] ∧ TpAt K H a rs ∧ rs.length ≤ 3000 ∧ (∀ r ∈ rs, RnOk r) ∧ H P = some (TabO P) ∧
  ∀ H', Same H H' → Q (.int (cntL rs)) H'
def spPl (K : PySem.W.Frag) : Sp := fun vs H Q _ => ∃ (a t : Addr) (rs : List Rn) (s : Str) (n : Int), vs = [.ref a, .ref t] ∧ TpAt K H a rs ∧ SqT K H t [.str s, .int n] ∧ ∀ H', Same H H' → Q (plV (plL rs s n 0)) H'
def spHolds (K : PySem.W.Frag) : Sp := fun vs H Q _ => ∃ (a t : Addr) (rs : List Rn) (s : Str) (n : Int), vs = [.ref a, .ref t] ∧ TpAt K H a rs ∧ SqT K H t [.str s, .int n] ∧ ∀ H', Same H H' → Q (.bl (plL rs s n 0).isSome) H'
def spKth (K : PySem.W.Frag) (C : Addr) : Sp := fun vs H Q E => ∃ (a : Addr) (rs : List Rn) (k : Int), vs = [.ref a, .int k] ∧ TpAt K H a rs ∧
  (∀ s n t H', kAt rs k = some (s, n) → Same H H' → H' t = some (.tup [.str s, .int n]) → Q (.ref t) H') ∧
  (kAt rs k = none → ∀ d H', H d = none → Same H H' → H' d = some (.xd [("number", .int k)]) → E (.ref C) (some d) H')
def spHeardK (K : PySem.W.Frag) : Sp := fun vs H Q _ => ∃ (a : Addr) (rs : List Rn) (k : Int), vs = [.ref a, .int k] ∧ TpAt K H a rs ∧
  ∀ t H', Same H H' → Dp K H' (.ref t) (hdD (kAt rs k) k) → Q (.ref t) H'
def spAhead (K : PySem.W.Frag) : Sp := fun vs H Q _ => ∃ (a t : Addr) (rs : List Rn) (s : Str) (n : Int), vs = [.ref a, .ref t] ∧ TpAt K H a rs ∧ SqT K H t [.str s, .int n] ∧ ∀ H', Same H H' → Q (.int (ahL rs s n)) H'
def spDueKk (K : PySem.W.Frag) : Sp := fun vs H Q _ => ∃ (a : Addr) (rs : List Rn) (k : Int), vs = [.ref a, .int k] ∧ TpAt K H a rs ∧ Canon rs ∧
  ∀ t H', Same H H' → Dp K H' (.ref t) (hdD (kAt rs k) k) → Q (.ref t) H'
def spNotes (K : PySem.W.Frag) : Sp := fun vs H Q _ => ∃ (f c a l : Addr) (n : Int) (rs : List Rn) (xs : List Str), vs = [.ref f, .ref a, .ref l] ∧ Fd H f c n ∧ n ≤ 700000 ∧ TpAt K H a rs ∧ rs.length ≤ 60 ∧ H l = some (.lst (xs.map V.str)) ∧ l ≠ f ∧ xs.length = 4 ∧
  ∀ (t : Addr) (ps : List Addr) (es : List Nt) (H' : Hp), Fd H' f c (n + 100) → But f H H' → t ≠ f → t ≠ c → H' t = some (.lst (ps.map V.ref)) → Nts H' ps es → Q (.ref t) H'
def spPlacesKk (K : PySem.W.Frag) : Sp := fun vs H Q _ => ∃ (f c a : Addr) (n : Int) (rs : List Rn), vs = [.ref f, .ref a] ∧ Fd H f c n ∧ n ≤ 700000 ∧ TpAt K H a rs ∧ rs.length ≤ 60 ∧ (∀ r ∈ rs, RnOk r) ∧
  ∀ (t : Addr) (ks : List Int) (H' : Hp), Fd H' f c (n + 100) → But f H H' → t ≠ f → t ≠ c → H' t = some (.lst (ks.map V.int)) → ks.length ≤ 1000 → Q (.ref t) H'
def spRightK (K : PySem.W.Frag) (P : Addr) : Sp := fun vs H Q _ => ∃ (f c a l : Addr) (n : Int) (rs : List Rn) (xs : List Str), vs = [.ref f, .ref a, .ref l] ∧ Fd H f c n ∧ n ≤ 600000 ∧ Rg K H a rs 60 ∧ H l = some (.lst (xs.map V.str)) ∧ l ≠ f ∧ xs.length = 4 ∧ H P = some (TabO P) ∧
  ∀ H', Fd H' f c (n + 300) → But f H H' → Q (.bl true) H'
/-- a sum over all places of a list -/
theorem range_sum {α : Type} (f : α → Int) (xs : List α) : ((((List.range xs.length).filter fun _ => true).map fun i => (xs[i]?).elim 0 f)).sum = (xs.map f).sum := by
  have e : ((List.range xs.length).filter fun _ => true) = List.range xs.length := List.filter_eq_self.mpr fun _ _ => rfl
  rw [e]
  congr 1
  apply List.ext_getElem?
  intro i
  rw [List.getElem?_map, List.getElem?_map]
  by_cases h : i < xs.length
  · rw [List.getElem?_range h, List.getElem?_eq_getElem h]
    simp [h]
  · rw [List.getElem?_eq_none (by simpa using h), List.getElem?_eq_none (by omega)]
    rfl
theorem plL_cons (r : Rn) (rs : List Rn) (s : Str) (n a : Int) : plL (r :: rs) s n a = if r.1 = s ∧ r.2.1 ≤ n ∧ n < r.2.2 then some (a + n - r.2.1) else plL rs s n (a + cnt r) := by rw [plL]
theorem kL_cons (r : Rn) (rs : List Rn) (k : Int) : kL (r :: rs) k = if k < cnt r then some (r.1, r.2.1 + k) else kL rs (k - cnt r) := by rw [kL]
theorem goL_cons (r : Rn) (rs : List Rn) (a k : Int) : goL (r :: rs) a k = if a ≤ k ∧ k < a + cnt r then some (r.1, r.2.1 + k - a) else goL rs (a + cnt r) k := by rw [goL]
theorem split_at {α : Type} {l : List α} {i : Nat} {x : α} (h : l[i]? = some x) : l = l.take i ++ x :: l.drop (i + 1) := by
  rw [← drop_at h, List.take_append_drop]
theorem cntL_take {rs : List Rn} {i : Nat} {r : Rn} (h : rs[i]? = some r) : cntL (rs.take (i + 1)) = cntL (rs.take i) + cnt r := by
  obtain ⟨hi, e⟩ := List.getElem?_eq_some_iff.mp h
  rw [List.take_succ_eq_append_getElem hi, cntL_app, e]
  unfold cntL
  simp
theorem SqT.bt {K : PySem.W.Frag} {H H' : Hp} {f c a : Addr} {n : Int} {xs : List V} (hf : Fd H f c n) (b : But f H H') (h : SqT K H a xs) : SqT K H' a xs := by
  obtain ⟨zs, hz⟩ := hf.at
  rcases h with (h | ⟨o, h⟩) | h
  · exact .inl (.inl (b a _ (ne_of h hz (fun z => nomatch z)) h))
  · exact .inl (.inr ⟨o, b a _ (ne_of h hz (fun z => nomatch z)) h⟩)
  · exact .inr h
theorem TpAt.but {K : PySem.W.Frag} {H H' : Hp} {f c a : Addr} {n : Int} {rs : List Rn} (hf : Fd H f c n) (b : But f H H') (h : TpAt K H a rs) : TpAt K H' a rs := by
  obtain ⟨qs, h1, h2⟩ := h
  exact ⟨qs, SqT.bt hf b h1, h2.but hf b⟩
theorem SqT.put {K : PySem.W.Frag} {H : Hp} {l a : Addr} {xs ys : List V} {o : HO} (hl : H l = some (.lst ys)) (h : SqT K H a xs) : SqT K (upd H l o) a xs := by
  rcases h with (h | ⟨u, h⟩) | h
  · exact .inl (.inl ((upd_ne (ne_of h hl (fun z => nomatch z))).trans h))
  · exact .inl (.inr ⟨u, (upd_ne (ne_of h hl (fun z => nomatch z))).trans h⟩)
  · exact .inr h
theorem TpAt.put {K : PySem.W.Frag} {H : Hp} {l t : Addr} {ys : List V} {o : HO} {rs : List Rn} (hl : H l = some (.lst ys)) (h : TpAt K H t rs) : TpAt K (upd H l o) t rs := by
  obtain ⟨qs, h1, h2⟩ := h
  exact ⟨qs, SqT.put hl h1, Prd.put hl h2⟩
theorem Rg.put {K : PySem.W.Frag} {H : Hp} {l t : Addr} {ys : List V} {o : HO} {rs : List Rn} {n : Nat} (hl : H l = some (.lst ys)) (h : Rg K H t rs n) : Rg K (upd H l o) t rs n := ⟨h.tp.put hl, h.ca, h.len, h.ok⟩
theorem Rg.but {K : PySem.W.Frag} {H H' : Hp} {f c t : Addr} {k : Int} {rs : List Rn} {n : Nat} (hf : Fd H f c k) (b : But f H H') (h : Rg K H t rs n) : Rg K H' t rs n := ⟨TpAt.but hf b h.tp, h.ca, h.len, h.ok⟩
/-- a list of RUNS can be shown -/
def rgD (ls : List (List Rn)) : PyData := .list (ls.map rnsD)
theorem rg_fine : ∀ (ls : List (List Rn)), (∀ x ∈ ls, x.length ≤ 200 ∧ ∀ r ∈ x, RnOk r ∧ NmOk r.1) → fineAll (ls.map rnsD) = true ∧ costAll (ls.map rnsD) ≤ 1000500 * ls.length ∧ PyData.depthAll (ls.map rnsD) ≤ 3
  | [], _ => ⟨rfl, Nat.le_refl _, by simp [PyData.depthAll]⟩
  | x :: ls, h => by
    obtain ⟨z1, z2, z3⟩ := rg_fine ls fun y hy => h y (List.mem_cons_of_mem _ hy)
    obtain ⟨l1, l2⟩ := h x List.mem_cons_self
    obtain ⟨y1, y2⟩ := rns_fine x l2
    have y3 := rns_depth x
    refine ⟨?_, ?_, ?_⟩
    · rw [List.map_cons]
      unfold fineAll
      rw [z1]
      show (fineAll (x.map rnD) && true) = true
      rw [y1]
      rfl
    · rw [List.map_cons, List.length_cons]
      unfold costAll
      have e : cost (rnsD x) = costAll (x.map rnD) + 3 := rfl
      rw [e]
      omega
    · rw [List.map_cons]
      simp only [PyData.depthAll, rnsD, PyData.depth] at *
      omega
theorem rg_show {ls : List (List Rn)} (h : ∀ x ∈ ls, x.length ≤ 200 ∧ ∀ r ∈ x, RnOk r ∧ NmOk r.1) (hl : ls.length ≤ 8) : (rgD ls).showable = true ∧ (rgD ls).hasDict = false ∧ (rgD ls).depth ≤ 60 ∧ (rgD ls).shown.length ≤ sizeLine := by
  obtain ⟨z1, z2, z3⟩ := rg_fine ls h
  have f : fineD (rgD ls) = true := z1
  have c := shown_cost _ f
  have e : cost (rgD ls) = costAll (ls.map rnsD) + 3 := rfl
  obtain ⟨s1, s2⟩ := fine_show _ f
  refine ⟨s1, s2, ?_, Nat.le_trans c (Nat.le_trans (show _ ≤ 11000000 by omega) (by decide))⟩
  simp only [rgD, PyData.depth]
  omega
/-! ### bundlings -/
theorem abc_atD (i : Int) (h0 : 0 ≤ i) (h1 : i < 26) : ∃ ch, atI abc.cps.toList i = some ch ∧ ch < 16 ^ 8 ∧ (ch : Int) = 97 + i := by
  obtain ⟨k, rfl⟩ : ∃ k : Nat, i = (k : Int) := ⟨i.toNat, by omega⟩
  have e : abc.cps.toList = (List.range 26).map (97 + ·) := by decide +kernel
  have hk : k < 26 := by omega
  refine ⟨97 + k, atI_nat ?_, ?_, by omega⟩
  · rw [e, List.getElem?_map, List.getElem?_range hk]
    rfl
  · exact Nat.lt_trans (show 97 + k < 200 by omega) (by decide)
theorem len_mulk (ch : Nat) (k : Int) : (Txt.mul ⟨#[ch]⟩ k).length = k.toNat := by
  have e : (Txt.mul ⟨#[ch]⟩ k).length = (Txt.mul ⟨#[ch]⟩ k).cps.toList.length := by simp [Str.length]
  rw [e, mul_one_list, List.length_replicate]
theorem app_last (a : Str) (c : Nat) : (a ++ (⟨#[c]⟩ : Str)).cps.toList.getLast? = some c := by
  have e : (a ++ (⟨#[c]⟩ : Str)).cps.toList = a.cps.toList ++ [c] := Array.toList_append
  rw [e, List.getLast?_append]
  rfl
/-- no two alike -/
def Unl (xs : List Str) : Prop := ∀ (i j : Nat) (x : Str), xs[i]? = some x → xs[j]? = some x → i = j
theorem unl_len {xs : List Str} {a b c d : Nat} (h : xs.map Str.length = [a, b, c, d]) (k : a ≠ b ∧ a ≠ c ∧ a ≠ d ∧ b ≠ c ∧ b ≠ d ∧ c ≠ d) : Unl xs := by
  intro i j x hi hj
  have e1 : [a, b, c, d][i]? = some x.length := by rw [← h, List.getElem?_map, hi]; rfl
  have e2 : [a, b, c, d][j]? = some x.length := by rw [← h, List.getElem?_map, hj]; rfl
  obtain ⟨k1, k2, k3, k4, k5, k6⟩ := k
  match i, j, e1, e2 with
  | 0, 0, _, _ | 1, 1, _, _ | 2, 2, _, _ | 3, 3, _, _ => rfl
  | 0, 1, e1, e2 | 0, 2, e1, e2 | 0, 3, e1, e2 | 1, 0, e1, e2 | 1, 2, e1, e2 | 1, 3, e1, e2 | 2, 0, e1, e2 | 2, 1, e1, e2 | 2, 3, e1, e2 | 3, 0, e1, e2 | 3, 1, e1, e2 | 3, 2, e1, e2 =>
    have e1 := Option.some.inj e1
    have e2 := Option.some.inj e2
    omega
  | n + 4, _, e1, _ => cases e1
  | _, n + 4, _, e2 => cases e2
theorem unl_last {xs : List Str} {d : Int} (h : ∀ (i : Nat) (x : Str), xs[i]? = some x → ∃ c : Nat, x.cps.toList.getLast? = some c ∧ (c : Int) = 97 + (d + 3 * (0 + (i : Int))).fmod 26) (hl : xs.length ≤ 4) : Unl xs := by
  intro i j x hi hj
  obtain ⟨c, c1, c2⟩ := h i _ hi
  obtain ⟨c', c3, c4⟩ := h j _ hj
  have l1 := (List.getElem?_eq_some_iff.mp hi).1
  have l2 := (List.getElem?_eq_some_iff.mp hj).1
  rw [c3] at c1
  cases c1
  rw [Int.fmod_eq_emod_of_nonneg _ (by decide)] at c2 c4
  omega
def spNamesD : Sp := fun vs H Q _ => ∃ (f c : Addr) (n : Int), vs = [.ref f] ∧ Fd H f c n ∧ n ≤ 900000 ∧
  ∀ (l : Addr) (xs : List Str) (H' : Hp), Fd H' f c (n + 8) → But f H H' → l ≠ f → l ≠ c → H l = none → H' l = some (.lst (xs.map V.str)) → xs.length = 4 → (∀ x ∈ xs, NmOk x) → Unl xs → Q (.ref l) H'
structure Bd where
  run : Rn
  size : Int
  sp : List Rn
  st : Rn
structure BdOk (B : Bd) : Prop where
  ro : RnOk B.run
  rn : NmOk B.run.1
  s0 : 1 ≤ B.size
  s1 : B.size ≤ 1000
  ca : Canon B.sp
  len : B.sp.length ≤ 24
  ok : ∀ r ∈ B.sp, RnOk r ∧ NmOk r.1
  nm : ∀ r ∈ B.sp, r.1 = B.run.1 ∧ B.run.2.1 ≤ r.2.1 ∧ r.2.2 ≤ B.run.2.2
  so : RnOk B.st
  sn : NmOk B.st.1
  most : cntL B.sp ≤ cnt B.st
  ne : B.st.1 ≠ B.run.1
def BdAt (K : PySem.W.Frag) (H : Hp) (a : Addr) (B : Bd) : Prop := ∃ r s t : Addr, H a = some (.tup [.ref r, .int B.size, .ref s, .ref t]) ∧ H r = some (.tup (rnV B.run)) ∧ TpAt K H s B.sp ∧ H t = some (.tup (rnV B.st))
theorem BdAt.same {K : PySem.W.Frag} {H H' : Hp} {a : Addr} {B : Bd} (s : Same H H') (h : BdAt K H a B) : BdAt K H' a B := by
  obtain ⟨x, y, z, h1, h2, h3, h4⟩ := h
  exact ⟨x, y, z, s _ _ h1, s _ _ h2, h3.same s, s _ _ h4⟩
theorem BdAt.but {K : PySem.W.Frag} {H H' : Hp} {f c a : Addr} {n : Int} {B : Bd} (hf : Fd H f c n) (b : But f H H') (h : BdAt K H a B) : BdAt K H' a B := by
  obtain ⟨x, y, z, h1, h2, h3, h4⟩ := h
  obtain ⟨zs, hz⟩ := hf.at
  exact ⟨x, y, z, b _ _ (ne_of h1 hz (fun z => nomatch z)) h1, b _ _ (ne_of h2 hz (fun z => nomatch z)) h2, h3.but hf b, b _ _ (ne_of h4 hz (fun z => nomatch z)) h4⟩
theorem BdAt.put {K : PySem.W.Frag} {H : Hp} {l a : Addr} {ys : List V} {o : HO} {B : Bd} (hl : H l = some (.lst ys)) (h : BdAt K H a B) : BdAt K (upd H l o) a B := by
  obtain ⟨x, y, z, h1, h2, h3, h4⟩ := h
  exact ⟨x, y, z, (upd_ne (ne_of h1 hl (fun z => nomatch z))).trans h1, (upd_ne (ne_of h2 hl (fun z => nomatch z))).trans h2, h3.put hl, (upd_ne (ne_of h4 hl (fun z => nomatch z))).trans h4⟩
def bdD (B : Bd) : PyData := .tuple [rnD B.run, .int B.size, rnsD B.sp, rnD B.st]
theorem rn_dp {K : PySem.W.Frag} {H : Hp} {p : Addr} {r : Rn} (h : H p = some (.tup (rnV r))) : Dp K H (.ref p) (rnD r) := .tup (SqT.of h) (.cons (.str _) (.cons (.int _) (.cons (.int _) .nil)))
theorem BdAt.dp {K : PySem.W.Frag} {H : Hp} {a : Addr} {B : Bd} (h : BdAt K H a B) : Dp K H (.ref a) (bdD B) := by
  obtain ⟨x, y, z, h1, h2, h3, h4⟩ := h
  exact .tup (SqT.of h1) (.cons (rn_dp h2) (.cons (.int _) (.cons h3.dp (.cons (rn_dp h4) .nil))))
/-! sums of spoilt ones ahead -/
def ahS (rs : List Rn) (n : Int) : Int := (rs.map fun r => mn (mx (n - r.2.1) 0) (cnt r)).sum
theorem ahS_ahL {rs : List Rn} {s : Str} (h : ∀ r ∈ rs, r.1 = s) (n : Int) : ahL rs s n = ahS rs n := by
  unfold ahL ahS
  congr 1
  refine List.map_congr_left fun r hr => ahR_eq (h r hr)
theorem ahS_nn (rs : List Rn) (n : Int) (h : Full rs) : 0 ≤ ahS rs n := by
  induction rs with
  | nil => exact Int.le_refl _
  | cons r rs ih =>
    have h1 := h r List.mem_cons_self
    have h2 := ih fun x hx => h x (List.mem_cons_of_mem _ hx)
    unfold ahS at h2 ⊢
    rw [List.map_cons, List.sum_cons]
    have z : 0 ≤ mn (mx (n - r.2.1) 0) (cnt r) := by
      unfold mn mx cnt
      split <;> split <;> omega
    omega
/-- runs of one series within a run have no more notes than it -/
theorem cnt_within {s : Str} : ∀ {rs : List Rn} {lo hi : Int}, Canon rs → lo ≤ hi → (∀ r ∈ rs, r.1 = s ∧ lo ≤ r.2.1 ∧ r.2.2 ≤ hi) → cntL rs ≤ hi - lo
  | [], _, _, _, h, _ => by
    show (0 : Int) ≤ _
    omega
  | r :: rs, lo, hi, ca, h, k => by
    obtain ⟨k1, k2, k3⟩ := k r List.mem_cons_self
    have f := ca.2 r List.mem_cons_self
    have z := cnt_within (rs := rs) (lo := r.2.2) (hi := hi) ca.tail k3 fun x hx => by
      obtain ⟨y1, y2, y3⟩ := k x (List.mem_cons_of_mem _ hx)
      refine ⟨y1, ?_, y3⟩
      rcases (apart_iff _ _).mp ((List.pairwise_cons.mp ca.1).1 x hx) with ⟨_, w⟩ | w
      · omega
      · rw [k1, y1] at w
        exact (sl_irr _ w).elim
    rw [cntL_cons]
    unfold cnt
    omega
/-- what is made one writing of stays within -/
theorem runsOf_within {rs : List Rn} {s : Str} {lo hi : Int} (f : Full rs) (h : ∀ r ∈ rs, r.1 = s ∧ lo ≤ r.2.1 ∧ r.2.2 ≤ hi) : ∀ r ∈ runsOf rs, r.1 = s ∧ lo ≤ r.2.1 ∧ r.2.2 ≤ hi := fun r hr => by
  obtain ⟨c1, c2⟩ := runsOf_ok f
  have rf := c1.2 r hr
  obtain ⟨u, hu, u1, u2, u3⟩ := (c2 r.1 r.2.1).mp ⟨r, hr, rfl, Int.le_refl _, rf⟩
  obtain ⟨w, hw, w1, w2, w3⟩ := (c2 r.1 (r.2.2 - 1)).mp ⟨r, hr, rfl, by omega, by omega⟩
  obtain ⟨y1, y2, y3⟩ := h u hu
  obtain ⟨z1, z2, z3⟩ := h w hw
  exact ⟨u1.symm.trans y1, by omega, by omega⟩
theorem kL_hi : ∀ {rs : List Rn} {k : Int}, Full rs → cntL rs ≤ k → kL rs k = none
  | [], _, _, _ => by rw [kL]
  | r :: rs, k, f, h => by
    have h1 := f r List.mem_cons_self
    have h2 := cntL_nn (rs := rs) fun x hx => f x (List.mem_cons_of_mem _ hx)
    rw [cntL_cons] at h
    rw [kL_cons, if_neg (by omega), kL_hi (fun x hx => f x (List.mem_cons_of_mem _ hx)) (by omega)]
theorem kL_lo : ∀ {rs : List Rn} {k : Int}, 0 ≤ k → k < cntL rs → ∃ p, kL rs k = some p
  | [], k, h0, h => by
    have z : cntL [] = 0 := rfl
    omega
  | r :: rs, k, h0, h => by
    rw [cntL_cons] at h
    rw [kL_cons]
    by_cases c : k < cnt r
    · exact ⟨_, if_pos c⟩
    · rw [if_neg c]
      exact kL_lo (by omega) (by omega)
theorem kL_snoc : ∀ (a : List Rn) (r : Rn) (k : Int), Full a → 0 ≤ k → kL (a ++ [r]) k = if k < cntL a then kL a k else if k < cntL a + cnt r then some (r.1, r.2.1 + (k - cntL a)) else none
  | [], r, k, _, h0 => by
    have z : cntL [] = 0 := rfl
    rw [List.nil_append, z, if_neg (by omega), kL_cons]
    by_cases c : k < cnt r
    · rw [if_pos c, if_pos (by omega), Int.sub_zero]
    · rw [if_neg c, if_neg (by omega), kL]
  | x :: a, r, k, f, h0 => by
    have h2 := cntL_nn (rs := a) fun y hy => f y (List.mem_cons_of_mem _ hy)
    rw [List.cons_append, kL_cons, cntL_cons]
    by_cases c : k < cnt x
    · rw [if_pos c, if_pos (by omega), kL_cons, if_pos c]
    · rw [if_neg c, kL_snoc a r (k - cnt x) (fun y hy => f y (List.mem_cons_of_mem _ hy)) (by omega), kL_cons, if_neg c]
      by_cases c2 : k - cnt x < cntL a
      · rw [if_pos c2, if_pos (by omega)]
      · rw [if_neg c2, if_neg (show ¬ k < cnt x + cntL a by omega)]
        by_cases c3 : k - cnt x < cntL a + cnt r
        · rw [if_pos c3, if_pos (show k < cnt x + cntL a + cnt r by omega)]
          congr 3
          omega
        · rw [if_neg c3, if_neg (show ¬ k < cnt x + cntL a + cnt r by omega)]
/-! what is told of a bundling -/
def starD (B : Bd) (n : Int) : PyData := match plL B.sp B.run.1 n 0 with
  | none => .none
  | some k => .tuple [.str B.st.1, .int (B.st.2.1 + k)]
/-- the spoilt note for which the k-th star stands, looked for in rs -/
def numL (B : Bd) (rs : List Rn) (s : Str) (n : Int) : Option Int := if s = B.st.1 ∧ B.st.2.1 ≤ n then (kL rs (n - B.st.2.1)).map (·.2) else none
def numO (B : Bd) (s : Str) (n : Int) : Option Int := numL B B.sp s n
def inO (B : Bd) (s : Str) (n : Int) : Bool := decide (s = B.run.1) && (decide (B.run.2.1 ≤ n) && decide (n < B.run.2.2)) && !hasB B.sp s n
def seatO (B : Bd) (s : Str) (n : Int) : Option Int := if inO B s n = true then some n else numO B s n
def seatD (B : Bd) (s : Str) (n : Int) : PyData := match seatO B s n with
  | none => .tuple [.str "no", .int n]
  | some m => .tuple [.str "told", .tuple [.int ((m - B.run.2.1).fdiv B.size), .int ((m - B.run.2.1).fmod B.size)]]
def plvD : Option Int → PyData
  | none => .none
  | some k => .int k
theorem num_in {B : Bd} {s : Str} {n m : Int} (h : numO B s n = some m) : s = B.st.1 := by
  unfold numO numL at h
  by_cases c : s = B.st.1 ∧ B.st.2.1 ≤ n
  · exact c.1
  · rw [if_neg c] at h
    cases h
theorem star_nice (B : Bd) (n : Int) : Nice 3 (starD B n) := by
  unfold starD
  split
  · exact Nice.flat rfl
  · refine Or.inr ⟨_, Or.inr rfl, (show 2 ≤ 100000 by decide), fun e he => ?_⟩
    simp only [List.mem_cons, List.not_mem_nil, or_false] at he
    rcases he with rfl | rfl <;> exact Nice.flat rfl
theorem seat_nice (B : Bd) (s : Str) (n : Int) : Nice 3 (seatD B s n) := by
  unfold seatD
  split
  · refine Or.inr ⟨_, Or.inr rfl, (show 2 ≤ 100000 by decide), fun e he => ?_⟩
    simp only [List.mem_cons, List.not_mem_nil, or_false] at he
    rcases he with rfl | rfl <;> exact Nice.flat rfl
  · refine Or.inr ⟨_, Or.inr rfl, (show 2 ≤ 100000 by decide), fun e he => ?_⟩
    simp only [List.mem_cons, List.not_mem_nil, or_false] at he
    rcases he with rfl | rfl
    · exact Nice.flat rfl
    · refine Or.inr ⟨_, Or.inr rfl, (show 2 ≤ 100000 by decide), fun e he => ?_⟩
      simp only [List.mem_cons, List.not_mem_nil, or_false] at he
      rcases he with rfl | rfl <;> exact Nice.flat rfl
theorem plv_nice (o : Option Int) : Nice 3 (plvD o) := by cases o <;> exact Nice.flat rfl
theorem plv_dp {K : PySem.W.Frag} {H : Hp} (o : Option Int) : Dp K H (plV o) (plvD o) := by
  cases o
  · exact .non
  · exact .int _
/-! promises -/
def spKthN (K : PySem.W.Frag) : Sp := fun vs H Q _ => ∃ (a : Addr) (rs : List Rn) (k : Int) (s : Str) (n : Int), vs = [.ref a, .int k] ∧ TpAt K H a rs ∧ kAt rs k = some (s, n) ∧ ∀ t H', Same H H' → H' t = some (.tup [.str s, .int n]) → Q (.ref t) H'
def spStar (K : PySem.W.Frag) : Sp := fun vs H Q _ => ∃ (a : Addr) (B : Bd) (n : Int), vs = [.ref a, .int n] ∧ BdAt K H a B ∧ BdOk B ∧ ∀ v H', Same H H' → Dp K H' v (starD B n) → (v = .non ↔ plL B.sp B.run.1 n 0 = none) → Q v H'
def spStarL (K : PySem.W.Frag) (P : Addr) : Sp := fun vs H Q _ => ∃ (a : Addr) (B : Bd) (n : Int), vs = [.ref a, .int n] ∧ BdAt K H a B ∧ BdOk B ∧ H P = some (TabO P) ∧ ∀ v H', Same H H' → Dp K H' v (starD B n) → (v = .non ↔ plL B.sp B.run.1 n 0 = none) → Q v H'
def spNumF (K : PySem.W.Frag) (P : Addr) : Sp := fun vs H Q _ => ∃ (a t : Addr) (B : Bd) (s : Str) (n : Int), vs = [.ref a, .ref t] ∧ BdAt K H a B ∧ BdOk B ∧ H t = some (.tup [.str s, .int n]) ∧ H P = some (TabO P) ∧ ∀ H', Same H H' → Q (plV (numO B s n)) H'
def spNumL (K : PySem.W.Frag) : Sp := fun vs H Q _ => ∃ (a t : Addr) (B : Bd) (s : Str) (n : Int), vs = [.ref a, .ref t] ∧ BdAt K H a B ∧ BdOk B ∧ H t = some (.tup [.str s, .int n]) ∧ ∀ H', Same H H' → Q (plV (numO B s n)) H'
def spSeat (K : PySem.W.Frag) (P C : Addr) : Sp := fun vs H Q E => ∃ (a t : Addr) (B : Bd) (s : Str) (n : Int), vs = [.ref a, .ref t] ∧ BdAt K H a B ∧ BdOk B ∧ H t = some (.tup [.str s, .int n]) ∧ H P = some (TabO P) ∧
  (∀ m p H', seatO B s n = some m → Same H H' → H' p = some (.tup [.int ((m - B.run.2.1).fdiv B.size), .int ((m - B.run.2.1).fmod B.size)]) → Q (.ref p) H') ∧
  (seatO B s n = none → ∀ d H', H d = none → Same H H' → H' d = some (.xd [("number", .int n)]) → E (.ref C) (some d) H')
def spSeatD (K : PySem.W.Frag) (P : Addr) : Sp := fun vs H Q _ => ∃ (a t : Addr) (B : Bd) (s : Str) (n : Int), vs = [.ref a, .ref t] ∧ BdAt K H a B ∧ BdOk B ∧ H t = some (.tup [.str s, .int n]) ∧ H P = some (TabO P) ∧ ∀ p H', Same H H' → Dp K H' (.ref p) (seatD B s n) → Q (.ref p) H'
def spSeatL (K : PySem.W.Frag) : Sp := fun vs H Q _ => ∃ (a t : Addr) (B : Bd) (s : Str) (n : Int), vs = [.ref a, .ref t] ∧ BdAt K H a B ∧ BdOk B ∧ H t = some (.tup [.str s, .int n]) ∧ ∀ p H', Same H H' → Dp K H' (.ref p) (seatD B s n) → Q (.ref p) H'
def spAheadS (K : PySem.W.Frag) : Sp := fun vs H Q _ => ∃ (a : Addr) (rs : List Rn) (n : Int), vs = [.ref a, .int n] ∧ TpAt K H a rs ∧ rs.length ≤ 1000 ∧ ∀ H', Same H H' → Q (.int (ahS rs n)) H'
def spSpoilt (K : PySem.W.Frag) : Sp := fun vs H Q _ => ∃ (f c p : Addr) (m n : Int) (r : Rn), vs = [.ref f, .ref p, .int m] ∧ Fd H f c n ∧ n ≤ 700000 ∧ 1 ≤ m ∧ m ≤ 24 ∧ H p = some (.tup (rnV r)) ∧ RnOk r ∧ NmOk r.1 ∧
  ∀ (t : Addr) (rs : List Rn) (H' : Hp), Fd H' f c (n + 100) → But f H H' → TpAt K H' t rs → Canon rs → rs.length ≤ 24 → (∀ x ∈ rs, RnOk x ∧ NmOk x.1) → (∀ x ∈ rs, x.1 = r.1 ∧ r.2.1 ≤ x.2.1 ∧ x.2.2 ≤ r.2.2) → Q (.ref t) H'
def spBund (K : PySem.W.Frag) : Sp := fun vs H Q _ => ∃ (f c l : Addr) (k n : Int) (xs : List Str), vs = [.ref f, .ref l, .int k] ∧ Fd H f c n ∧ n ≤ 600000 ∧ (k = 0 ∨ k = 1) ∧ H l = some (.lst (xs.map V.str)) ∧ l ≠ f ∧ xs.length = 4 ∧ (∀ x ∈ xs, NmOk x) ∧ Unl xs ∧
  ∀ (a : Addr) (B : Bd) (H' : Hp), Fd H' f c (n + 200) → But f H H' → BdAt K H' a B → BdOk B → (k = 1 → cnt B.run ≤ 40) → Q (.ref a) H'
def spNumbers (K : PySem.W.Frag) : Sp := fun vs H Q _ => ∃ (f c a : Addr) (n : Int) (B : Bd), vs = [.ref f, .ref a] ∧ Fd H f c n ∧ n ≤ 700000 ∧ BdAt K H a B ∧ BdOk B ∧
  ∀ (t : Addr) (ks : List Int) (H' : Hp), Fd H' f c (n + 2) → But f H H' → t ≠ f → t ≠ c → H t = none → H' t = some (.lst (ks.map V.int)) → ks.length ≤ 200 → Q (.ref t) H'
def spStars (K : PySem.W.Frag) : Sp := fun vs H Q _ => ∃ (a : Addr) (B : Bd), vs = [.ref a] ∧ BdAt K H a B ∧ BdOk B ∧
  ∀ (t : Addr) (ks : List Int) (H' : Hp), Same H H' → H t = none → H' t = some (.lst (ks.map V.int)) → ks.length ≤ 200 → Q (.ref t) H'
def spRight14 (K : PySem.W.Frag) (P : Addr) : Sp := fun vs H Q _ => ∃ (f c a l : Addr) (n : Int) (B : Bd) (xs : List Str), vs = [.ref f, .ref a, .ref l] ∧ Fd H f c n ∧ n ≤ 600000 ∧ BdAt K H a B ∧ BdOk B ∧ H l = some (.lst (xs.map V.str)) ∧ l ≠ f ∧ xs.length = 4 ∧ H P = some (TabO P) ∧
  ∀ H', Fd H' f c (n + 300) → But f H H' → Q (.bl true) H'
/-- a list of bundlings can be shown -/
theorem bd_fine {B : Bd} (h : BdOk B) : fineD (bdD B) = true ∧ cost (bdD B) ≤ 400000 ∧ (bdD B).depth ≤ 4 := by
  obtain ⟨a1, a2⟩ := rn_fine h.ro h.rn
  obtain ⟨b1, b2⟩ := rn_fine h.so h.sn
  obtain ⟨c1, c2⟩ := rns_fine B.sp h.ok
  have c3 := rns_depth B.sp
  have i1 := h.s0
  have i2 := h.s1
  have l := h.len
  have z : fineD (.int B.size) = true ∧ cost (.int B.size) ≤ 5000 := by
    obtain ⟨y1, y2⟩ := rn_fine (r := (B.run.1, 0, B.size)) ⟨Int.le_refl _, by show 0 < B.size; omega, by show B.size ≤ 1000000000; omega⟩ h.rn
    have e : fineD (rnD (B.run.1, 0, B.size)) = (fineD (.str B.run.1) && (fineD (.int 0) && (fineD (.int B.size) && true))) := rfl
    rw [e] at y1
    simp only [Bool.and_eq_true] at y1
    refine ⟨y1.2.2.1, ?_⟩
    have e : cost (rnD (B.run.1, 0, B.size)) = costAll [.str B.run.1, .int 0, .int B.size] + 3 := rfl
    rw [e] at y2
    simp only [costAll] at y2
    omega
  refine ⟨?_, ?_, ?_⟩
  · show (fineD (rnD B.run) && (fineD (.int B.size) && (fineD (rnsD B.sp) && (fineD (rnD B.st) && true)))) = true
    have e : fineD (rnsD B.sp) = fineAll (B.sp.map rnD) := rfl
    rw [a1, b1, z.1, e, c1]
    rfl
  · have e : cost (bdD B) = costAll [rnD B.run, .int B.size, rnsD B.sp, rnD B.st] + 3 := rfl
    have e2 : cost (rnsD B.sp) = costAll (B.sp.map rnD) + 3 := rfl
    rw [e]
    simp only [costAll]
    omega
  · simp only [bdD, rnsD, rnD, PyData.depth, PyData.depthAll] at *
    omega
def bdsD (ls : List Bd) : PyData := .list (ls.map bdD)
theorem bds_fine : ∀ (ls : List Bd), (∀ x ∈ ls, BdOk x) → fineAll (ls.map bdD) = true ∧ costAll (ls.map bdD) ≤ 400010 * ls.length ∧ PyData.depthAll (ls.map bdD) ≤ 4
  | [], _ => ⟨rfl, Nat.le_refl _, by simp [PyData.depthAll]⟩
  | x :: ls, h => by
    obtain ⟨z1, z2, z3⟩ := bds_fine ls fun y hy => h y (List.mem_cons_of_mem _ hy)
    obtain ⟨y1, y2, y3⟩ := bd_fine (h x List.mem_cons_self)
    refine ⟨?_, ?_, ?_⟩
    · rw [List.map_cons]
      unfold fineAll
      rw [z1, y1]
      rfl
    · rw [List.map_cons, List.length_cons]
      unfold costAll
      omega
    · rw [List.map_cons]
      simp only [PyData.depthAll]
      omega
theorem bds_show {ls : List Bd} (h : ∀ x ∈ ls, BdOk x) (hl : ls.length ≤ 8) : (bdsD ls).showable = true ∧ (bdsD ls).hasDict = false ∧ (bdsD ls).depth ≤ 60 ∧ (bdsD ls).shown.length ≤ sizeLine := by
  obtain ⟨z1, z2, z3⟩ := bds_fine ls h
  have f : fineD (bdsD ls) = true := z1
  have c := shown_cost _ f
  have e : cost (bdsD ls) = costAll (ls.map bdD) + 3 := rfl
  obtain ⟨s1, s2⟩ := fine_show _ f
  refine ⟨s1, s2, ?_, Nat.le_trans c (Nat.le_trans (show _ ≤ 11000000 by omega) (by decide))⟩
  simp only [bdsD, PyData.depth]
  omega
theorem bds_dp {K : PySem.W.Frag} {Hx : Hp} : ∀ (ws : List (Addr × Bd)), (∀ x ∈ ws, BdAt K Hx x.1 x.2) → DpAll K Hx ((ws.map (·.1)).map V.ref) ((ws.map (·.2)).map bdD)
  | [], _ => .nil
  | w :: r, h => .cons (h w List.mem_cons_self).dp (bds_dp r fun x hx => h x (List.mem_cons_of_mem _ hx))
theorem Nts.put {H : Hp} {l : Addr} {ys : List V} {o : HO} {ps : List Addr} {es : List Nt} (hl : H l = some (.lst ys)) (h : Nts H ps es) : Nts (upd H l o) ps es :=
  Nts.keep (fun p u no e => (upd_ne (ne_of e hl (no _))).trans e) h
theorem Nts.one {H : Hp} {p : Addr} {e : Nt} (h : H p = some (.tup (ntV e))) : Nts H [p] [e] := .cons h .nil
/-! ### k12: a bundling by kind -/
def rnOf : PyData → Rn
  | .tuple [.str s, .int i, .int j] => (s, i, j)
  | _ => (("" : String), 0, 0)
def rnsOf : PyData → List Rn
  | .tuple ds => ds.map rnOf
  | _ => []
theorem rnsOf_D (rs : List Rn) : rnsOf (rnsD rs) = rs := by
  show (rs.map rnD).map rnOf = rs
  rw [List.map_map]
  have e : (rnOf ∘ rnD) = id := rfl
  rw [e, List.map_id]
def inRun (R r : Rn) : Bool := decide (r.1 = R.1) && (decide (R.2.1 ≤ r.2.1) && decide (r.2.2 ≤ R.2.2))
def partsB (R : Rn) (S : List Rn) (T : Rn) : Bool := S.all (inRun R) && ((!decide (T.1 = R.1)) && decide (cntL S ≤ cnt T))
def bundD : PyData → Bool
  | .tuple [r, n, s, t] => (runD r && runD t) && ((numD n 1 1000 && runsD s) && partsB (rnOf r) (rnsOf s) (rnOf t))
  | _ => false
theorem bundD_nt {d : PyData} (h : ∀ ds, d ≠ .tuple ds) : bundD d = false := by
  cases d with
  | tuple ds => exact absurd rfl (h ds)
  | _ => rfl
theorem bundD_no {d : PyData} (c : ¬ tupN d (4 : Nat) = true) : bundD d = false := by
  cases d with
  | tuple ds =>
    match ds, c with
    | [a, b, u, v], c => exact absurd (show tupN (.tuple [a, b, u, v]) (4 : Nat) = true from decide_eq_true (show (((4 : Nat) : Int) = ((4 : Nat) : Int)) from rfl)) c
    | [], _ | [_], _ | [_, _], _ | [_, _, _], _ | _ :: _ :: _ :: _ :: _ :: _, _ => rfl
  | _ => rfl
theorem canon_of1 {r : Rn} (h : r.2.1 < r.2.2) : Canon [r] := ⟨List.pairwise_singleton _ _, fun x hx => by rw [List.mem_singleton.mp hx]; exact h⟩
theorem has_of1 (r : Rn) (s : Str) (n : Int) : has [r] s n ↔ r.1 = s ∧ r.2.1 ≤ n ∧ n < r.2.2 := by
  rw [has_cons]
  exact ⟨fun z => z.elim id fun y => (has_nil _ _ y).elim, .inl⟩
theorem canon_none {c : List Rn} (h : Canon c) (e : ∀ s n, ¬ has c s n) : c = [] := canon_uniq h canon_nil fun s n => ⟨fun z => (e s n z).elim, fun z => (has_nil _ _ z).elim⟩
theorem less_within {S : List Rn} {R : Rn} (cs : Canon S) (hR : R.2.1 < R.2.2) : decide (lessL S [R] = []) = S.all (inRun R) := by
  obtain ⟨l1, _, l3⟩ := less_ok S [R] cs (canon_of1 hR)
  rw [Bool.eq_iff_iff, decide_eq_true_eq, List.all_eq_true]
  constructor
  · intro e r hr
    have full := cs.2 r hr
    have no : ∀ n, r.2.1 ≤ n → n < r.2.2 → has [R] r.1 n := fun n h1 h2 => by
      by_cases c : has [R] r.1 n
      · exact c
      · have z := (l3 r.1 n).mpr ⟨⟨r, hr, rfl, h1, h2⟩, c⟩
        rw [e] at z
        exact (has_nil _ _ z).elim
    obtain ⟨a1, a2, a3⟩ := (has_of1 R r.1 r.2.1).mp (no _ (Int.le_refl _) full)
    obtain ⟨b1, b2, b3⟩ := (has_of1 R r.1 (r.2.2 - 1)).mp (no _ (by omega) (by omega))
    unfold inRun
    rw [decide_eq_true a1.symm, decide_eq_true a2, decide_eq_true (show r.2.2 ≤ R.2.2 by omega)]
    rfl
  · intro h
    refine canon_none l1 fun s n z => ?_
    obtain ⟨⟨r, hr, h1, h2, h3⟩, k⟩ := (l3 s n).mp z
    have i := h r hr
    unfold inRun at i
    rw [Bool.and_eq_true, Bool.and_eq_true, decide_eq_true_eq, decide_eq_true_eq, decide_eq_true_eq] at i
    exact k ((has_of1 R s n).mpr ⟨i.1.symm.trans h1, by omega, by omega⟩)
theorem pair_next : ∀ {l : List Rn}, Full l → (∀ k a b, l[k]? = some a → l[k + 1]? = some b → apart a b = true) → l.Pairwise fun a b => apart a b = true
  | [], _, _ => .nil
  | [a], _, _ => List.pairwise_singleton _ _
  | a :: b :: l, f, h => by
    have ih := pair_next (l := b :: l) (fun r hr => f r (List.mem_cons_of_mem _ hr)) fun k x y hx hy => h (k + 1) x y hx hy
    have ab := h 0 a b rfl rfl
    refine List.pairwise_cons.mpr ⟨fun x hx => ?_, ih⟩
    rcases List.mem_cons.mp hx with rfl | hx
    · exact ab
    · exact apart_tr ab (f b (List.mem_cons_of_mem _ List.mem_cons_self)) ((List.pairwise_cons.mp ih).1 x hx)
/-- runs by kind are RUNS -/
theorem runsD_rns {d : PyData} (h : runsD d = true) : ∃ S : List Rn, d = rnsD S ∧ Canon S ∧ ∀ r ∈ S, RnOk r ∧ wordB r.1 = true := by
  cases d with
  | tuple ds =>
    have hh : ((((List.range ds.length).filter fun _ => true).all (atD runD ds)) && (((List.range (ds.length - 1)).filter fun _ => true).all (nextD ds))) = true := h
    rw [Bool.and_eq_true] at hh
    obtain ⟨h1, h2⟩ := hh
    have all := at_all h1
    obtain ⟨S, eS, ok⟩ : ∃ S : List Rn, ds = S.map rnD ∧ ∀ r ∈ S, RnOk r ∧ wordB r.1 = true := by
      clear h1 h2 h
      induction ds with
      | nil => exact ⟨[], rfl, fun _ h => nomatch h⟩
      | cons x l ih =>
        obtain ⟨r, e, k1, k2⟩ := runD_rn (all x List.mem_cons_self)
        obtain ⟨S, e2, ok⟩ := ih fun y hy => all y (List.mem_cons_of_mem _ hy)
        refine ⟨r :: S, by rw [e, e2]; rfl, fun y hy => ?_⟩
        rcases List.mem_cons.mp hy with rfl | hy
        · exact ⟨k1, k2⟩
        · exact ok y hy
    subst eS
    refine ⟨S, rfl, ⟨pair_next (fun r hr => (ok r hr).1.2.1) fun k a b ha hb => ?_, fun r hr => (ok r hr).1.2.1⟩, ok⟩
    have lt := (List.getElem?_eq_some_iff.mp hb).1
    have z := List.all_eq_true.mp h2 k (List.mem_filter.mpr ⟨List.mem_range.mpr (by rw [List.length_map]; omega), rfl⟩)
    rw [nextD_some (a := a) (b := b) (by rw [List.getElem?_map, ha]; rfl) (by rw [List.getElem?_map, hb]; rfl)] at z
    exact z
  | _ => cases h
def spKBund (P1 P2 P3 : Addr) : Sp := fun vs H Q _ => ∃ (v : V) (d : PyData) (N : Addr → Prop), vs = [v] ∧ Dn N H v d ∧ Sm d ∧ cost d ≤ 8000000 ∧ H P1 = some (TabO P1) ∧ H P2 = some (TabO P2) ∧ H P3 = some (TabO P3) ∧ ∀ H', Same H H' → Q (.bl (bundD d)) H'
/-- runs of data in a tuple -/
theorem dn_rns {K : PySem.W.Frag} {N : Addr → Prop} {H : Hp} {v : V} {S : List Rn} (h : Dn N H v (rnsD S)) : ∃ t, v = .ref t ∧ TpAt K H t S := by
  cases h with
  | tup ht hx =>
    refine ⟨_, rfl, ?_⟩
    have z : ∀ {xs : List V} {S : List Rn}, DnAll N H xs (S.map rnD) → ∃ qs : List Addr, xs = qs.map V.ref ∧ Prd H qs S := by
      intro xs S hx
      induction S generalizing xs with
      | nil => cases hx; exact ⟨[], rfl, .nil⟩
      | cons r S ih =>
        cases hx with
        | cons h1 h2 =>
          obtain ⟨p, rfl, hp⟩ := dn_rn h1
          obtain ⟨qs, rfl, hq⟩ := ih h2
          exact ⟨p :: qs, rfl, .cons hp hq⟩
    obtain ⟨qs, rfl, hq⟩ := z hx
    exact TpAt.of ht hq
theorem runs_len {S : List Rn} : 4000 * S.length ≤ costAll (S.map rnD) := by
  induction S with
  | nil => exact Nat.zero_le _
  | cons r S ih =>
    rw [List.map_cons, List.length_cons]
    have e : cost (rnD r) = (10 * r.1.length + 2 + 2 + (2000 + 2 + (2000 + 2 + 0))) + 3 := by simp [rnD, Pn.cost, costAll]
    show _ ≤ cost (rnD r) + 2 + costAll (S.map rnD)
    omega
theorem rns_few {S : List Rn} (c : cost (rnsD S) ≤ 8000000) : S.length ≤ 2000 := by
  have z := runs_len (S := S)
  have e : cost (rnsD S) = costAll (S.map rnD) + 3 := by simp [rnsD, Pn.cost]
  omega
theorem both_few : ∀ (a b : List Rn), (bothL a b).length ≤ a.length + b.length
  | [], b => by
    rw [both_nil]
    exact Nat.zero_le _
  | x :: a, [] => by
    rw [both_nil2]
    exact Nat.zero_le _
  | x :: a, y :: b => by
    have m1 : (meet x y).length ≤ 1 := by
      unfold meet
      split
      · exact Nat.le_refl _
      · exact Nat.zero_le _
    have z1 := both_few a (y :: b)
    have z2 := both_few (x :: a) b
    rw [both_cons, List.length_append]
    rw [List.length_cons] at z1 z2 ⊢
    rw [List.length_cons]
    split
    · omega
    · omega
theorem both_rn {c : List Rn} {R : Rn} (ca : Canon c) (okR : RnOk R) : ∀ x ∈ bothL c [R], RnOk x ∧ x.1 = R.1 ∧ R.2.1 ≤ x.2.1 ∧ x.2.2 ≤ R.2.2 := fun x hx => by
  obtain ⟨b1, b2⟩ := both_ok c [R] ca (canon_of1 okR.2.1)
  have f := b1.2 x hx
  obtain ⟨h1, h2, h3⟩ := (has_of1 R _ _).mp ((b2 x.1 x.2.1).mp ⟨x, hx, rfl, Int.le_refl _, f⟩).2
  obtain ⟨k1, k2, k3⟩ := (has_of1 R _ _).mp ((b2 x.1 (x.2.2 - 1)).mp ⟨x, hx, rfl, by omega, by omega⟩).2
  obtain ⟨r0, r1, r2⟩ := okR
  exact ⟨⟨by omega, f, by omega⟩, h1.symm, h2, by omega⟩
def spKLaid (K : PySem.W.Frag) (P C : Addr) : Sp := fun vs H Q E => ∃ (r s t : Addr) (n : Int) (R T : Rn) (c : List Rn), vs = [.ref r, .int n, .ref s, .ref t] ∧ H r = some (.tup (rnV R)) ∧ TpAt K H s c ∧ H t = some (.tup (rnV T)) ∧ RnOk R ∧ RnOk T ∧ Canon c ∧ c.length ≤ 1000 ∧ H P = some (TabO P) ∧
  (cntL (bothL c [R]) ≤ cnt T → ∀ (a w : Addr) (H' : Hp), Same H H' → H' a = some (.tup [.ref r, .int n, .ref w, .ref t]) → TpAt K H' w (bothL c [R]) → Q (.ref a) H') ∧
  (cnt T < cntL (bothL c [R]) → ∀ (d : Addr) (H' : Hp), H d = none → Same H H' → H' d = some (.xd [("many", .int (cntL (bothL c [R]) - cnt T))]) → E (.ref C) (some d) H')
/-- what is heard of it, as data -/
def laidD (R : Rn) (n : Int) (c : List Rn) (T : Rn) : PyData :=
  if cntL (bothL c [R]) ≤ cnt T then .tuple [.str (("told" : String) : Str), .tuple [rnD R, .int n, rnsD (bothL c [R]), rnD T]] else .tuple [.str (("no" : String) : Str), .int (cntL (bothL c [R]) - cnt T)]
def spLaidD (K : PySem.W.Frag) (P : Addr) : Sp := fun vs H Q _ => ∃ (r s t : Addr) (n : Int) (R T : Rn) (c : List Rn), vs = [.ref r, .int n, .ref s, .ref t] ∧ H r = some (.tup (rnV R)) ∧ TpAt K H s c ∧ H t = some (.tup (rnV T)) ∧ RnOk R ∧ RnOk T ∧ Canon c ∧ c.length ≤ 1000 ∧ H P = some (TabO P) ∧
  ∀ (a : Addr) (H' : Hp), Same H H' → Dp K H' (.ref a) (laidD R n c T) → Q (.ref a) H'
def spLMany12 (K : PySem.W.Frag) : Sp := fun vs H Q _ => ∃ (a : Addr) (rs : List Rn), vs = [.ref a] ∧ TpAt K H a rs ∧ rs.length ≤ 3000 ∧ ∀ H', Same H H' → Q (.int (cntL rs)) H'
def spMadeA (K : PySem.W.Frag) : Sp := fun vs H Q _ => ∃ (l : Addr) (x0 x1 : Lt), vs = [.ref l, .str (("all" : String) : Str)] ∧ SqL K H l [V.ref x0.a, .ref x1.a] ∧ LtAt K H x0 ∧ LtAt K H x1 ∧ Canon x0.rs ∧ Canon x1.rs ∧
  ∀ (t : Addr) (qs : List Addr) (H' : Hp), Same H H' → H t = none → H' t = some (.tup (qs.map V.ref)) → Prd H' qs (bothL x0.rs x1.rs) → Q (.ref t) H'
theorem all_Pq (x0 x1 : Lt) (s : Str) (b : Int) : (([x0, x1].map fun x => hasB x.rs s b).all _root_.id) = Pq x0.rs x1.rs 1 s b := by
  show (hasB x0.rs s b && (hasB x1.rs s b && true)) = _
  rw [Bool.and_true]
  rfl
def spLot12 (K : PySem.W.Frag) : Sp := fun vs H Q _ => ∃ (f c a l : Addr) (n : Int) (B : Bd) (xs : List Str), vs = [.ref f, .ref a, .ref l] ∧ Fd H f c n ∧ n ≤ 700000 ∧ BdAt K H a B ∧ BdOk B ∧ H l = some (.lst (xs.map V.str)) ∧ l ≠ f ∧ xs.length = 4 ∧ (∀ x ∈ xs, NmOk x) ∧
  ∀ (t : Addr) (rs : List Rn) (H' : Hp), Fd H' f c (n + 100) → But f H H' → TpAt K H' t rs → Canon rs → rs.length ≤ 24 → (∀ x ∈ rs, RnOk x ∧ NmOk x.1) → Q (.ref t) H'
theorem canon_pre {c : List Rn} (n : Nat) (h : Canon c) : Canon (c.take n) := ⟨h.1.sublist (List.take_sublist _ _), fun r hr => h.2 r (List.mem_of_mem_take hr)⟩
def spBund12 (K : PySem.W.Frag) : Sp := fun vs H Q _ => ∃ (f c l : Addr) (k n : Int) (xs : List Str), vs = [.ref f, .ref l, .int k] ∧ Fd H f c n ∧ n ≤ 600000 ∧ (k = 0 ∨ k = 1) ∧ H l = some (.lst (xs.map V.str)) ∧ l ≠ f ∧ xs.length = 4 ∧ (∀ x ∈ xs, NmOk x) ∧ Unl xs ∧
  ∀ (a : Addr) (B : Bd) (H' : Hp), Fd H' f c (n + 200) → But f H H' → BdAt K H' a B → BdOk B → cnt B.run ≤ 999990100 → (k = 1 → cnt B.run ≤ 40) → Q (.ref a) H'
theorem sp_both12 {B : Bd} (ok : BdOk B) : bothL B.sp [B.run] = B.sp := by
  obtain ⟨b1, b2⟩ := both_ok B.sp [B.run] ok.ca (canon_of1 ok.ro.2.1)
  refine canon_uniq b1 ok.ca fun s n => ?_
  rw [b2, has_of1]
  constructor
  · exact fun h => h.1
  · intro h
    obtain ⟨r, hr, h1, h2, h3⟩ := id h
    obtain ⟨k1, k2, k3⟩ := ok.nm r hr
    exact ⟨h, k1.symm.trans h1, by omega, by omega⟩
theorem laidD_own {B : Bd} (ok : BdOk B) : laidD B.run B.size B.sp B.st = .tuple [.str (("told" : String) : Str), bdD B] := by
  unfold laidD
  rw [sp_both12 ok, if_pos ok.most]
  rfl
/-- notes of runs that are within one run -/
theorem cnt_in12 {c : List Rn} {R : Rn} (ca : Canon c) (okR : RnOk R) : 0 ≤ cntL (bothL c [R]) ∧ cntL (bothL c [R]) ≤ cnt R := by
  obtain ⟨b1, b2⟩ := both_ok c [R] ca (canon_of1 okR.2.1)
  have z := both_rn ca okR
  refine ⟨cntL_nn b1.2, ?_⟩
  have w := cnt_within (s := R.1) (lo := R.2.1) (hi := R.2.2) b1 (by have := okR.2.1; omega) fun x hx => ⟨(z x hx).2.1, (z x hx).2.2.1, (z x hx).2.2.2⟩
  exact w
def spRight12 (K : PySem.W.Frag) (P : Addr) : Sp := fun vs H Q _ => ∃ (f c a l : Addr) (n : Int) (B : Bd) (xs : List Str), vs = [.ref f, .ref a, .ref l] ∧ Fd H f c n ∧ n ≤ 600000 ∧ BdAt K H a B ∧ BdOk B ∧ cnt B.run ≤ 999990100 ∧ H l = some (.lst (xs.map V.str)) ∧ l ≠ f ∧ xs.length = 4 ∧ (∀ x ∈ xs, NmOk x) ∧ H P = some (TabO P) ∧
  ∀ H', Fd H' f c (n + 200) → But f H H' → Q (.bl true) H'
/-- what is shown of it -/
def fourD (R : Rn) (n : Int) (c : List Rn) (Z : Rn) : PyData := .tuple [rnD R, .int n, rnsD c, rnD Z]
theorem four_shown {R Z : Rn} {n : Int} {c : List Rn} (h1 : RnOk R) (h2 : NmOk R.1) (n0 : 1 ≤ n) (n1 : n ≤ 1000) (hc : ∀ r ∈ c, RnOk r ∧ NmOk r.1) (lc : c.length ≤ 30) (h3 : RnOk Z) (h4 : NmOk Z.1) :
    fineD (fourD R n c Z) = true ∧ (fourD R n c Z).depth ≤ 60 ∧ cost (fourD R n c Z) ≤ 200000 := by
  obtain ⟨a1, a2⟩ := rn_fine h1 h2
  obtain ⟨b1, b2⟩ := rns_fine c hc
  obtain ⟨c1, c2⟩ := rn_fine h3 h4
  have i1 : fineD (.int n) = true := int_fine (by omega) (by omega)
  refine ⟨?_, ?_, ?_⟩
  · show (fineD (rnD R) && (fineD (.int n) && (fineAll (c.map rnD) && (fineD (rnD Z) && true)))) = true
    rw [a1, i1, b1, c1]
    rfl
  · have z := rns_depth c
    simp only [fourD, rnD, PyData.depth, PyData.depthAll] at z ⊢
    have z2 : (rnsD c).depth ≤ 10 := by
      show PyData.depthAll (c.map rnD) + 1 ≤ 10
      have := rns_depth c
      omega
    omega
  · have e : cost (fourD R n c Z) = (cost (rnD R) + 2 + (2000 + 2 + (costAll (c.map rnD) + 3 + 2 + (cost (rnD Z) + 2 + 0)))) + 3 := by simp [fourD, rnsD, Pn.cost, costAll]
    omega
theorem four_dp {K : PySem.W.Frag} {H : Hp} {p r s t : Addr} {R Z : Rn} {n : Int} {c : List Rn} (h : H p = some (.tup [.ref r, .int n, .ref s, .ref t])) (h1 : H r = some (.tup (rnV R))) (h2 : TpAt K H s c) (h3 : H t = some (.tup (rnV Z))) : Dp K H (.ref p) (fourD R n c Z) :=
  .tup (SqT.of h) (.cons (rn_dp h1) (.cons (.int _) (.cons h2.dp (.cons (rn_dp h3) .nil))))
theorem four_nice {R Z : Rn} {n : Int} {c : List Rn} (lc : c.length ≤ 100000) : Nice 4 (.tuple [.str (("told" : String) : Str), fourD R n c Z]) := by
  have rn : ∀ (k : Nat) (r : Rn), Nice (k + 1) (rnD r) := fun k r => .inr ⟨_, .inr rfl, (show 3 ≤ 100000 by decide), fun e he => by
    simp only [List.mem_cons, List.not_mem_nil, or_false] at he
    rcases he with rfl | rfl | rfl <;> exact Nice.flat rfl⟩
  refine .inr ⟨_, .inr rfl, (show 2 ≤ 100000 by decide), fun e he => ?_⟩
  simp only [List.mem_cons, List.not_mem_nil, or_false] at he
  rcases he with rfl | rfl
  · exact Nice.flat rfl
  refine .inr ⟨_, .inr rfl, (show 4 ≤ 100000 by decide), fun e he => ?_⟩
  simp only [List.mem_cons, List.not_mem_nil, or_false] at he
  rcases he with rfl | rfl | rfl | rfl
  · exact rn 1 R
  · exact Nice.flat rfl
  · refine .inr ⟨_, .inr rfl, by rw [List.length_map]; exact lc, fun e he => ?_⟩
    obtain ⟨r, _, rfl⟩ := List.mem_map.mp he
    exact rn 0 r
  · exact rn 1 Z
theorem no_nice (i : Int) : Nice 4 (.tuple [.str (("no" : String) : Str), .int i]) := .inr ⟨_, .inr rfl, (show 2 ≤ 100000 by decide), fun e he => by
  simp only [List.mem_cons, List.not_mem_nil, or_false] at he
  rcases he with rfl | rfl <;> exact Nice.flat rfl⟩
/-! ### k12: the menu of bundlings -/
mutual
theorem Dn.in12 {N : Addr → Prop} {H : Hp} : ∀ {v : V} {d : PyData}, Dn N H v d → Dn (fun a => N a ∧ H a ≠ none) H v d
  | _, _, .non => .non
  | _, _, .bl b => .bl b
  | _, _, .int i => .int i
  | _, _, .str x => .str x
  | _, _, .lst n h a => .lst ⟨n, fun z => by rw [h] at z; cases z⟩ h (DnAll.in12 a)
  | _, _, .tup h a => .tup h (DnAll.in12 a)
theorem DnAll.in12 {N : Addr → Prop} {H : Hp} : ∀ {vs : List V} {ds : List PyData}, DnAll N H vs ds → DnAll (fun a => N a ∧ H a ≠ none) H vs ds
  | _, _, .nil => .nil
  | _, _, .cons a b => .cons (Dn.in12 a) (DnAll.in12 b)
end
section
variable {N : Addr → Prop} {H H' : Hp} {k c : Nat} {B : Int} {v : V}
theorem GV.off (F : Addr) (hF : H F = none) (h : GV N H k c B v) : GV (fun a => N a ∧ a ≠ F) H k c B v := by
  obtain ⟨d, h1, h2⟩ := h
  exact ⟨d, h1.in12.imp fun a z => ⟨z.1, fun e => z.2 (by rw [e]; exact hF)⟩, h2⟩
theorem GV.mut {W : Addr} {xs : List V} {o : HO} (nW : ∀ a, N a → a ≠ W) (hW : H W = some (.lst xs)) (h : GV N H k c B v) : GV N (upd H W o) k c B v := by
  obtain ⟨d, h1, h2⟩ := h
  exact ⟨d, h1.mut nW hW, h2⟩
end
theorem gv4 {N : Addr → Prop} {H : Hp} {c1 c2 c3 c4 c : Nat} {B : Int} {t : Addr} {x1 x2 x3 x4 : V} (ht : H t = some (.tup [x1, x2, x3, x4])) (h1 : GV N H 3 c1 B x1) (h2 : GV N H 3 c2 B x2) (h3 : GV N H 3 c3 B x3) (h4 : GV N H 3 c4 B x4) (hc : c1 + c2 + c3 + c4 + 11 ≤ c) : GV N H 4 c B (.ref t) := by
  obtain ⟨d1, a1, b1, e1⟩ := h1
  obtain ⟨d2, a2, b2, e2⟩ := h2
  obtain ⟨d3, a3, b3, e3⟩ := h3
  obtain ⟨d4, a4, b4, e4⟩ := h4
  refine gv_tup (k := 3) ht (.cons a1 (.cons a2 (.cons a3 (.cons a4 .nil)))) (fun e he => ?_) ?_
  · simp only [List.mem_cons, List.not_mem_nil, or_false] at he
    rcases he with rfl | rfl | rfl | rfl
    · exact b1
    · exact b2
    · exact b3
    · exact b4
  · show (cost d1 + 2 + (cost d2 + 2 + (cost d3 + 2 + (cost d4 + 2 + 0)))) + 3 ≤ c
    omega
theorem gi12 {N : Addr → Prop} {H : Hp} {k : Nat} {i : Int} (h1 : -3000000000 ≤ i) (h2 : i ≤ 3000000000) : GV N H k 2000 MB (.int i) := by
  have m : (3000000000 : Int) ≤ MB := by unfold MB; decide +kernel
  exact gv_int (by omega) (by omega) mb40 (Nat.le_refl _)
theorem gs12 {N : Addr → Prop} {H : Hp} {k : Nat} {x : Str} (h : ChOk x) (l : x.length ≤ 100) : GV N H k 2000 MB (.str x) := gv_str h (by omega)
/-- a run of any numbers -/
theorem gr12 {N : Addr → Prop} {H : Hp} {t : Addr} {s : Str} {i j : Int} (ht : H t = some (.tup [.str s, .int i, .int j])) (h : ChOk s) (l : s.length ≤ 100) (i1 : -3000000000 ≤ i) (i2 : i ≤ 3000000000) (j1 : -3000000000 ≤ j) (j2 : j ≤ 3000000000) : GV N H 1 6009 MB (.ref t) :=
  gvt (k := 0) (c := 2000) ht (gvs_cons (gs12 h l) (gvs_cons (gi12 i1 i2) (gvs_cons (gi12 j1 j2) gvs_nil))) (show (2000 + 2) * 3 + 3 ≤ 6009 by decide)
/-- things in a list -/
structure Us (N : Addr → Prop) (H : Hp) (F : Addr) (us : List V) (k c m : Nat) : Prop where
  at_ : H F = some (.lst us)
  len : us.length ≤ m
  all : ∀ v ∈ us, GV N H k c MB v
section
variable {N M : Addr → Prop} {H H' : Hp} {F E : Addr} {us : List V} {k c m : Nat}
theorem Us.same (s : Same H H') (h : Us N H F us k c m) : Us N H' F us k c m := ⟨s _ _ h.at_, h.len, fun v hv => (h.all v hv).same s⟩
theorem Us.off (hE : H E = none) (h : Us N H F us k c m) : Us (fun a => N a ∧ a ≠ E) H F us k c m := ⟨h.at_, h.len, fun v hv => (h.all v hv).off E hE⟩
theorem Us.imp (i : ∀ a, N a → M a) (h : Us N H F us k c m) : Us M H F us k c m := ⟨h.at_, h.len, fun v hv => (h.all v hv).imp i⟩
theorem Us.mut {xs : List V} {o : HO} (nE : ∀ a, N a → a ≠ E) (FE : F ≠ E) (hE : H E = some (.lst xs)) (h : Us N H F us k c m) : Us N (upd H E o) F us k c m := ⟨(upd_ne FE).trans h.at_, h.len, fun v hv => (h.all v hv).mut nE hE⟩
/-- one more, put in -/
theorem Us.put {v : V} (nF : ∀ a, N a → a ≠ F) (h : Us N H F us k c m) (hv : GV N H k c MB v) : Us N (upd H F (.lst (us ++ [v]))) F (us ++ [v]) k c (m + 1) := by
  refine ⟨upd_same, by rw [List.length_append]; exact Nat.add_le_add_right h.len 1, fun x hx => ?_⟩
  rcases List.mem_append.mp hx with hx | hx
  · exact (h.all x hx).mut nF h.at_
  · rw [List.mem_singleton.mp hx]
    exact hv.mut nF h.at_
theorem us_cat {l : Addr} {ws : List V} {m2 : Nat} (h : Us N H F us k c m) (h2 : Us N H l ws k c m2) {G : Addr} (hG : H G = none) : Us N (upd H G (.lst (us ++ ws))) G (us ++ ws) k c (m + m2) := by
  have S := same_new hG (.lst (us ++ ws))
  refine ⟨upd_same, by rw [List.length_append]; exact Nat.add_le_add h.len h2.len, fun x hx => ?_⟩
  rcases List.mem_append.mp hx with hx | hx
  · exact (h.all x hx).same S
  · exact (h2.all x hx).same S
end
/-- a bundling's parts, all plain tuples -/
structure Bc (H : Hp) (a r s t : Addr) (B : Bd) (qs : List Addr) : Prop where
  ha : H a = some (.tup [.ref r, .int B.size, .ref s, .ref t])
  hr : H r = some (.tup (rnV B.run))
  hs : H s = some (.tup (qs.map V.ref))
  gs : Prd H qs B.sp
  ht : H t = some (.tup (rnV B.st))
def BdT (H : Hp) (a : Addr) (B : Bd) : Prop := ∃ (r s t : Addr) (qs : List Addr), Bc H a r s t B qs
section
variable {H H' : Hp} {a r s t : Addr} {B : Bd} {qs : List Addr}
theorem Bc.same (S : Same H H') (h : Bc H a r s t B qs) : Bc H' a r s t B qs := ⟨S _ _ h.ha, S _ _ h.hr, S _ _ h.hs, Prd.same S h.gs, S _ _ h.ht⟩
theorem Bc.mut {W : Addr} {xs : List V} {o : HO} (hW : H W = some (.lst xs)) (h : Bc H a r s t B qs) : Bc (upd H W o) a r s t B qs := by
  have k : ∀ {x : Addr} {ys : List V}, H x = some (.tup ys) → upd H W o x = some (.tup ys) := fun e => (upd_ne (ne_of e hW fun z => nomatch z)).trans e
  exact ⟨k h.ha, k h.hr, k h.hs, Prd.put hW h.gs, k h.ht⟩
theorem BdT.at {K : PySem.W.Frag} (h : BdT H a B) : BdAt K H a B := by
  obtain ⟨r, s, t, qs, h⟩ := h
  exact ⟨r, s, t, h.ha, h.hr, TpAt.of h.hs h.gs, h.ht⟩
variable {N : Addr → Prop}
theorem Bc.gr (h : Bc H a r s t B qs) (ok : BdOk B) : GV N H 3 5000 MB (.ref r) := (rn_gv h.hr ok.ro ok.rn (by unfold MB; decide +kernel) mb40).mono (by decide) (Nat.le_refl _) (Int.le_refl _)
theorem Bc.gt (h : Bc H a r s t B qs) (ok : BdOk B) : GV N H 3 5000 MB (.ref t) := (rn_gv h.ht ok.so ok.sn (by unfold MB; decide +kernel) mb40).mono (by decide) (Nat.le_refl _) (Int.le_refl _)
theorem Bc.gsp (h : Bc H a r s t B qs) (ok : BdOk B) : GV N H 2 121000 MB (.ref s) := by
  have e := h.gs.len
  have l := ok.len
  exact gvt h.hs (prd_gvs (by unfold MB; decide +kernel) mb40 h.gs ok.ok) (by
    rw [List.length_map]
    have : (5000 + 2) * qs.length ≤ (5000 + 2) * 24 := Nat.mul_le_mul_left _ (by omega)
    omega)
theorem Bc.gsl (h : Bc H a r s t B qs) (ok : BdOk B) {l : Addr} (nl : N l) (hl : H l = some (.lst (qs.map V.ref))) : GV N H 2 121000 MB (.ref l) := by
  have e := h.gs.len
  have k := ok.len
  exact gvl nl hl (prd_gvs (by unfold MB; decide +kernel) mb40 h.gs ok.ok) (by
    rw [List.length_map]
    have : (5000 + 2) * qs.length ≤ (5000 + 2) * 24 := Nat.mul_le_mul_left _ (by omega)
    omega)
theorem gsz (ok : BdOk B) : GV N H 3 2000 MB (.int B.size) := by
  have s0 := ok.s0
  have s1 := ok.s1
  exact gi12 (by omega) (by omega)
theorem Bc.gall (h : Bc H a r s t B qs) (ok : BdOk B) : GV N H 4 200000 MB (.ref a) := gv4 h.ha (h.gr ok) (gsz ok) ((h.gsp ok).mono (by decide) (Nat.le_refl _) (Int.le_refl _)) (h.gt ok) (by decide)
end
def spMenu12 : Sp := fun vs H Q _ => ∃ (a : Addr) (B : Bd), vs = [.ref a] ∧ BdT H a B ∧ BdOk B ∧ ∀ (l : Addr) (us : List V) (H' : Hp), Same H H' → H l = none → Us (fun x => H x = none) H' l us 4 350000 60 → Q (.ref l) H'
inductive GL (N : Addr → Prop) (H : Hp) (k : Nat) (B : Int) : List V → Nat → Prop
  | nil : GL N H k B [] 0
  | cons {v : V} {vs : List V} {c m : Nat} : GV N H k c B v → GL N H k B vs m → GL N H k B (v :: vs) (c + 2 + m)
theorem gl_all {N : Addr → Prop} {H : Hp} {k : Nat} {B : Int} {xs : List V} {m : Nat} (h : GL N H k B xs m) : ∃ es, DnAll N H xs es ∧ (∀ e ∈ es, Fin3 k B e) ∧ costAll es ≤ m := by
  induction h with
  | nil => exact ⟨[], .nil, fun _ h => (nomatch h), Nat.le_refl _⟩
  | cons h1 _ ih =>
    obtain ⟨es, a, b, c⟩ := ih
    obtain ⟨d, d1, d2, d3⟩ := h1
    refine ⟨d :: es, .cons d1 a, fun e he => ?_, ?_⟩
    · rcases List.mem_cons.mp he with rfl | he
      · exact d2
      · exact b e he
    · show cost d + 2 + costAll es ≤ _
      omega
theorem gl_tup {N : Addr → Prop} {H : Hp} {k c m : Nat} {B : Int} {t : Addr} {xs : List V} (ht : H t = some (.tup xs)) (h : GL N H k B xs m) (hc : m + 3 ≤ c) : GV N H (k + 1) c B (.ref t) := by
  obtain ⟨es, a, b, e⟩ := gl_all h
  exact gv_tup ht a b (by omega)
theorem gl_lst {N : Addr → Prop} {H : Hp} {k c m : Nat} {B : Int} {t : Addr} {xs : List V} (nt : N t) (ht : H t = some (.lst xs)) (h : GL N H k B xs m) (hc : m + 3 ≤ c) : GV N H (k + 1) c B (.ref t) := by
  obtain ⟨es, a, b, e⟩ := gl_all h
  exact gv_lst nt ht a b (by omega)
theorem Bc.gr1 {H : Hp} {a r s t : Addr} {B : Bd} {qs : List Addr} {N : Addr → Prop} (h : Bc H a r s t B qs) (ok : BdOk B) : GV N H 1 5000 MB (.ref r) := rn_gv h.hr ok.ro ok.rn (by unfold MB; decide +kernel) mb40
theorem chXx : ChOk (("x" : String) : Str) := fun c hc => by
  have e : (("x" : String) : Str).cps.toList = [120] := by decide +kernel
  rw [e, List.mem_singleton] at hc
  rw [hc]
  decide
theorem str_len_app (a b : Str) : (a ++ b).length = a.length + b.length := Array.size_append
theorem Us.fresh {N : Addr → Prop} {H : Hp} {F E : Addr} {us : List V} {k c m : Nat} (h : Us N H F us k c m) (hE : H E = none) : F ≠ E := fun z => by
  have e := h.at_
  rw [z, hE] at e
  cases e
/-- runs in a plain tuple -/
def TpT (H : Hp) (t : Addr) (rs : List Rn) : Prop := ∃ qs : List Addr, H t = some (.tup (qs.map V.ref)) ∧ Prd H qs rs
theorem TpT.same {H H' : Hp} {t : Addr} {rs : List Rn} (s : Same H H') (h : TpT H t rs) : TpT H' t rs := by
  obtain ⟨qs, h1, h2⟩ := h
  exact ⟨qs, s _ _ h1, Prd.same s h2⟩
theorem TpT.but {H H' : Hp} {f c a : Addr} {n : Int} {rs : List Rn} (hf : Fd H f c n) (b : But f H H') (h : TpT H a rs) : TpT H' a rs := by
  obtain ⟨qs, h1, h2⟩ := h
  obtain ⟨zs, hz⟩ := hf.at
  exact ⟨qs, b _ _ (ne_of h1 hz fun z => nomatch z) h1, h2.but hf b⟩
def spSpoiltT : Sp := fun vs H Q _ => ∃ (f c p : Addr) (m n : Int) (r : Rn), vs = [.ref f, .ref p, .int m] ∧ Fd H f c n ∧ n ≤ 700000 ∧ 1 ≤ m ∧ m ≤ 24 ∧ H p = some (.tup (rnV r)) ∧ RnOk r ∧ NmOk r.1 ∧
  ∀ (t : Addr) (rs : List Rn) (H' : Hp), Fd H' f c (n + 100) → But f H H' → TpT H' t rs → Canon rs → rs.length ≤ 24 → (∀ x ∈ rs, RnOk x ∧ NmOk x.1) → (∀ x ∈ rs, x.1 = r.1 ∧ r.2.1 ≤ x.2.1 ∧ x.2.2 ≤ r.2.2) → Q (.ref t) H'
def spBundT : Sp := fun vs H Q _ => ∃ (f c l : Addr) (k n : Int) (xs : List Str), vs = [.ref f, .ref l, .int k] ∧ Fd H f c n ∧ n ≤ 600000 ∧ (k = 0 ∨ k = 1) ∧ H l = some (.lst (xs.map V.str)) ∧ l ≠ f ∧ xs.length = 4 ∧ (∀ x ∈ xs, NmOk x) ∧ Unl xs ∧
  ∀ (a : Addr) (B : Bd) (H' : Hp), Fd H' f c (n + 200) → But f H H' → BdT H' a B → BdOk B → cnt B.run ≤ 999990100 → (k = 1 → cnt B.run ≤ 40) → Q (.ref a) H'
def top (i : Nat) : Stmt := PySem.Challenge.pw_pressnotes_k12_bundlings_by_kind_and_sta.main.body.getD i (.Pass ⟨0, 0, 0, 0⟩)
abbrev s_is_number : Stmt := top 12
abbrev s_is_from_to : Stmt := top 13
abbrev s_is_word : Stmt := top 14
abbrev s_is_tuple_of : Stmt := top 15
abbrev s_is_run : Stmt := top 18
abbrev s_is_runs : Stmt := top 19
abbrev s_is_apart : Stmt := top 20
abbrev s_many_in : Stmt := top 21
abbrev s_both : Stmt := top 23
abbrev s_less : Stmt := top 24
abbrev s_what_is_left : Stmt := top 25
abbrev s_is_within : Stmt := top 26
abbrev s_is_bundling : Stmt := top 28
abbrev s_laid : Stmt := top 29
abbrev s_lfeed : Stmt := top 31
abbrev s_ldraw : Stmt := top 32
abbrev s_lnames : Stmt := top 33
abbrev s_lhas : Stmt := top 34
abbrev s_lmade : Stmt := top 35
abbrev s_lis_number : Stmt := top 36
abbrev s_lis_word : Stmt := top 37
abbrev s_lis_run : Stmt := top 38
abbrev s_lis_runs : Stmt := top 39
abbrev s_lalike : Stmt := top 40
abbrev s_lodd : Stmt := top 41
abbrev s_lbent : Stmt := top 42
abbrev s_lspoilt : Stmt := top 43
abbrev s_lbundling : Stmt := top 44
abbrev s_lmany : Stmt := top 45
abbrev s_lis_bundling : Stmt := top 46
abbrev s_lmenu : Stmt := top 47
abbrev s_llaid : Stmt := top 48
abbrev s_llot : Stmt := top 49
abbrev s_lright : Stmt := top 50
abbrev s_law : Stmt := top 51
theorem sc_is_number : FnScope ["thing"] ["thing"] (defScope s_is_number) := ⟨rfl, rfl, rfl, by decide +kernel, rfl, by decide +kernel, by decide +kernel⟩
theorem sc_is_from_to : FnScope ["thing", "least", "most"] ["thing", "least", "most"] (defScope s_is_from_to) := ⟨rfl, rfl, rfl, by decide +kernel, rfl, by decide +kernel, by decide +kernel⟩
theorem sc_is_word : FnScope ["thing", "sign"] ["thing"] (defScope s_is_word) := ⟨rfl, rfl, rfl, by decide +kernel, rfl, by decide +kernel, by decide +kernel⟩
theorem sc_is_tuple_of : FnScope ["thing", "many"] ["thing", "many"] (defScope s_is_tuple_of) := ⟨rfl, rfl, rfl, by decide +kernel, rfl, by decide +kernel, by decide +kernel⟩
theorem sc_is_run : FnScope ["thing", "series", "low", "high"] ["thing"] (defScope s_is_run) := ⟨rfl, rfl, rfl, by decide +kernel, rfl, by decide +kernel, by decide +kernel⟩
theorem sc_is_runs : FnScope ["thing", "run", "at"] ["thing"] (defScope s_is_runs) := ⟨rfl, rfl, rfl, by decide +kernel, rfl, by decide +kernel, by decide +kernel⟩
theorem sc_is_apart : FnScope ["run", "later"] ["run", "later"] (defScope s_is_apart) := ⟨rfl, rfl, rfl, by decide +kernel, rfl, by decide +kernel, by decide +kernel⟩
theorem sc_many_in : FnScope ["runs", "series", "low", "high"] ["runs"] (defScope s_many_in) := ⟨rfl, rfl, rfl, by decide +kernel, rfl, by decide +kernel, by decide +kernel⟩
theorem sc_both : FnScope ["one", "other", "found", "at", "beside", "series", "low", "high", "name", "start", "end"] ["one", "other"] (defScope s_both) := ⟨rfl, rfl, rfl, by decide +kernel, rfl, by decide +kernel, by decide +kernel⟩
theorem sc_less : FnScope ["one", "other", "found", "at", "run", "series", "low", "high"] ["one", "other"] (defScope s_less) := ⟨rfl, rfl, rfl, by decide +kernel, rfl, by decide +kernel, by decide +kernel⟩
theorem sc_what_is_left : FnScope ["run", "other", "at", "series", "low", "high", "left"] ["run", "other", "at"] (defScope s_what_is_left) := ⟨rfl, rfl, rfl, by decide +kernel, rfl, by decide +kernel, by decide +kernel⟩
theorem sc_is_within : FnScope ["one", "other"] ["one", "other"] (defScope s_is_within) := ⟨rfl, rfl, rfl, by decide +kernel, rfl, by decide +kernel, by decide +kernel⟩
theorem sc_is_bundling : FnScope ["thing", "run", "size", "spoilt", "stars"] ["thing"] (defScope s_is_bundling) := ⟨rfl, rfl, rfl, by decide +kernel, rfl, by decide +kernel, by decide +kernel⟩
theorem sc_laid : FnScope ["run", "size", "spoilt", "stars", "within", "lacking"] ["run", "size", "spoilt", "stars"] (defScope s_laid) := ⟨rfl, rfl, rfl, by decide +kernel, rfl, by decide +kernel, by decide +kernel⟩
theorem sc_lfeed : FnScope ["_law_script"] ["_law_script"] (defScope s_lfeed) := ⟨rfl, rfl, rfl, by decide +kernel, rfl, by decide +kernel, by decide +kernel⟩
theorem sc_ldraw : FnScope ["_law_feed_here", "_law_many_here", "_law_found", "_law_at", "_law_cell", "_law_first"] ["_law_feed_here", "_law_many_here"] (defScope s_ldraw) := ⟨rfl, rfl, rfl, by decide +kernel, rfl, by decide +kernel, by decide +kernel⟩
theorem sc_lnames : FnScope ["_law_feed_here", "_law_letters", "_law_way", "_law_base", "_law_many_here", "_law_ahead", "_law_k"] ["_law_feed_here"] (defScope s_lnames) := ⟨rfl, rfl, rfl, by decide +kernel, rfl, by decide +kernel, by decide +kernel⟩
theorem sc_lhas : FnScope ["_law_runs", "_law_series", "_law_number", "_law_one", "_law_first", "_law_end"] ["_law_runs", "_law_series", "_law_number"] (defScope s_lhas) := ⟨rfl, rfl, rfl, by decide +kernel, rfl, by decide +kernel, by decide +kernel⟩
theorem sc_lmade : FnScope ["_law_lots", "_law_rule", "_law_names_here", "_law_ends", "_law_lot_here", "_law_run", "_law_cuts", "_law_found", "_law_series", "_law_begin", "_law_end", "_law_truths", "_law_good"] ["_law_lots", "_law_rule"] (defScope s_lmade) := ⟨rfl, rfl, rfl, by decide +kernel, rfl, by decide +kernel, by decide +kernel⟩
theorem sc_lis_number : FnScope ["_law_thing", "_law_least", "_law_most"] ["_law_thing", "_law_least", "_law_most"] (defScope s_lis_number) := ⟨rfl, rfl, rfl, by decide +kernel, rfl, by decide +kernel, by decide +kernel⟩
theorem sc_lis_word : FnScope ["_law_thing", "_law_sign"] ["_law_thing"] (defScope s_lis_word) := ⟨rfl, rfl, rfl, by decide +kernel, rfl, by decide +kernel, by decide +kernel⟩
theorem sc_lis_run : FnScope ["_law_thing"] ["_law_thing"] (defScope s_lis_run) := ⟨rfl, rfl, rfl, by decide +kernel, rfl, by decide +kernel, by decide +kernel⟩
theorem sc_lis_runs : FnScope ["_law_thing", "_law_one", "_law_k", "_law_other"] ["_law_thing"] (defScope s_lis_runs) := ⟨rfl, rfl, rfl, by decide +kernel, rfl, by decide +kernel, by decide +kernel⟩
theorem sc_lalike : FnScope ["_law_found", "_law_due", "_law_one", "_law_other"] ["_law_found", "_law_due"] (defScope s_lalike) := ⟨rfl, rfl, rfl, by decide +kernel, rfl, by decide +kernel, by decide +kernel⟩
theorem sc_lodd : FnScope ["_law_feed_here", "_law_thing", "_law_way", "_law_at", "_law_by", "_law_twice", "_law_some", "_law_sign"] ["_law_feed_here", "_law_thing"] (defScope s_lodd) := ⟨rfl, rfl, rfl, by decide +kernel, rfl, by decide +kernel, by decide +kernel⟩
theorem sc_lbent : FnScope ["_law_feed_here", "_law_thing", "_law_at"] ["_law_feed_here", "_law_thing"] (defScope s_lbent) := ⟨rfl, rfl, rfl, by decide +kernel, rfl, by decide +kernel, by decide +kernel⟩
theorem sc_lspoilt : FnScope ["_law_feed_here", "_law_run", "_law_most", "_law_long", "_law_lot_here", "_law_k", "_law_first", "_law_more"] ["_law_feed_here", "_law_run", "_law_most"] (defScope s_lspoilt) := ⟨rfl, rfl, rfl, by decide +kernel, rfl, by decide +kernel, by decide +kernel⟩
theorem sc_lbundling : FnScope ["_law_feed_here", "_law_names_here", "_law_small", "_law_long", "_law_first", "_law_one", "_law_run", "_law_size", "_law_spoilt_here", "_law_many_here", "_law_series", "_law_begin", "_law_end", "_law_stars"] ["_law_feed_here", "_law_names_here", "_law_small"] (defScope s_lbundling) := ⟨rfl, rfl, rfl, by decide +kernel, rfl, by decide +kernel, by decide +kernel⟩
theorem sc_lmany : FnScope ["_law_runs", "_law_series", "_law_first", "_law_end"] ["_law_runs"] (defScope s_lmany) := ⟨rfl, rfl, rfl, by decide +kernel, rfl, by decide +kernel, by decide +kernel⟩
theorem sc_lis_bundling : FnScope ["_law_thing", "_law_run", "_law_size", "_law_spoilt_here", "_law_stars", "_law_one"] ["_law_thing"] (defScope s_lis_bundling) := ⟨rfl, rfl, rfl, by decide +kernel, rfl, by decide +kernel, by decide +kernel⟩
theorem sc_lmenu : FnScope ["_law_bundling_here", "_law_run", "_law_size", "_law_spoilt_here", "_law_stars", "_law_series", "_law_first", "_law_end", "_law_found", "_law_number", "_law_edges", "_law_long", "_law_edge", "_law_many_here", "_law_other", "_law_each_third", "_law_k", "_law_more"] ["_law_bundling_here"] (defScope s_lmenu) := ⟨rfl, rfl, rfl, by decide +kernel, rfl, by decide +kernel, by decide +kernel⟩
theorem sc_llaid : FnScope ["_law_run", "_law_size", "_law_spoilt_here", "_law_stars", "_law_found", "e", "_law_strange"] ["_law_run", "_law_size", "_law_spoilt_here", "_law_stars"] (defScope s_llaid) := ⟨rfl, rfl, rfl, by decide +kernel, rfl, by decide +kernel, by decide +kernel⟩
theorem sc_llot : FnScope ["_law_feed_here", "_law_bundling_here", "_law_names_here", "_law_run", "_law_lot_here", "_law_k", "_law_near", "_law_first"] ["_law_feed_here", "_law_bundling_here", "_law_names_here"] (defScope s_llot) := ⟨rfl, rfl, rfl, by decide +kernel, rfl, by decide +kernel, by decide +kernel⟩
theorem sc_lright : FnScope ["_law_feed_here", "_law_bundling_here", "_law_names_here", "_law_run", "_law_size", "_law_spoilt_here", "_law_stars", "_law_some", "_law_own", "_law_many_here", "_law_series", "_law_begin", "_law_other", "_law_lack", "_law_due", "_law_kept", "_law_turn"] ["_law_feed_here", "_law_bundling_here", "_law_names_here"] (defScope s_lright) := ⟨rfl, rfl, rfl, by decide +kernel, rfl, by decide +kernel, by decide +kernel⟩
theorem sc_law : FnScope ["_law_script", "_law_feed_here", "_law_names_here", "_law_small", "_law_bundling_here", "_law_things", "_law_k", "_law_bent_here", "_law_thing", "_law_kept", "_law_found"] ["_law_script"] (defScope s_law) := ⟨rfl, rfl, rfl, by decide +kernel, rfl, by decide +kernel, by decide +kernel⟩
abbrev s_NoStars : Stmt := (clsBody (top 3)).getD 0 (.Pass ⟨0, 0, 0, 0⟩)
theorem sc_NoStars : FnScope ["self", "many"] ["self", "many"] (defScope s_NoStars) := ⟨rfl, rfl, rfl, by decide +kernel, rfl, by decide +kernel, by decide +kernel⟩
structure Txt (K : PySem.W.Frag) (mg : Str → Option Value) (f_is_number f_is_from_to f_is_word f_is_tuple_of f_is_run f_is_runs f_is_apart f_many_in f_both f_less f_what_is_left f_is_within f_is_bundling f_laid f_lfeed f_ldraw f_lnames f_lhas f_lmade f_lis_number f_lis_word f_lis_run f_lis_runs f_lalike f_lodd f_lbent f_lspoilt f_lbundling f_lmany f_lis_bundling f_lmenu f_llaid f_llot f_lright f_law : Addr) : Prop where
  m_NoteError : mg "NoteError" = some (.ref (He.ga K "NoteError"))
  m_NoNumber : mg "NoNumber" = some (.ref (He.ga K "NoNumber"))
  m_NoStars : mg "NoStars" = some (.ref (He.ga K "NoStars"))
  m_NoRow : mg "NoRow" = some (.ref (He.ga K "NoRow"))
  m_NoPage : mg "NoPage" = some (.ref (He.ga K "NoPage"))
  m_NoPaper : mg "NoPaper" = some (.ref (He.ga K "NoPaper"))
  m_NoWorld : mg "NoWorld" = some (.ref (He.ga K "NoWorld"))
  m_NoBack : mg "NoBack" = some (.ref (He.ga K "NoBack"))
  m_NoText : mg "NoText" = some (.ref (He.ga K "NoText"))
  m_NoLine : mg "NoLine" = some (.ref (He.ga K "NoLine"))
  rf_NoStars : Rf K "NoStars" "many" "NoteError" ["NoNumber", "NoRow", "NoPage", "NoPaper", "NoWorld", "NoBack", "NoText", "NoLine"]
  m_is_number : mg "is_number" = some (.ref f_is_number)
  m_is_from_to : mg "is_from_to" = some (.ref f_is_from_to)
  m_is_word : mg "is_word" = some (.ref f_is_word)
  m_is_tuple_of : mg "is_tuple_of" = some (.ref f_is_tuple_of)
  m_is_run : mg "is_run" = some (.ref f_is_run)
  m_is_runs : mg "is_runs" = some (.ref f_is_runs)
  m_is_apart : mg "is_apart" = some (.ref f_is_apart)
  m_many_in : mg "many_in" = some (.ref f_many_in)
  m_both : mg "both" = some (.ref f_both)
  m_less : mg "less" = some (.ref f_less)
  m_what_is_left : mg "what_is_left" = some (.ref f_what_is_left)
  m_is_within : mg "is_within" = some (.ref f_is_within)
  m_is_bundling : mg "is_bundling" = some (.ref f_is_bundling)
  m_laid : mg "laid" = some (.ref f_laid)
  m_lfeed : mg "_law_feed" = some (.ref f_lfeed)
  m_ldraw : mg "_law_draw" = some (.ref f_ldraw)
  m_lnames : mg "_law_names" = some (.ref f_lnames)
  m_lhas : mg "_law_has" = some (.ref f_lhas)
  m_lmade : mg "_law_made" = some (.ref f_lmade)
  m_lis_number : mg "_law_is_number" = some (.ref f_lis_number)
  m_lis_word : mg "_law_is_word" = some (.ref f_lis_word)
  m_lis_run : mg "_law_is_run" = some (.ref f_lis_run)
  m_lis_runs : mg "_law_is_runs" = some (.ref f_lis_runs)
  m_lalike : mg "_law_alike" = some (.ref f_lalike)
  m_lodd : mg "_law_odd" = some (.ref f_lodd)
  m_lbent : mg "_law_bent" = some (.ref f_lbent)
  m_lspoilt : mg "_law_spoilt" = some (.ref f_lspoilt)
  m_lbundling : mg "_law_bundling" = some (.ref f_lbundling)
  m_lmany : mg "_law_many" = some (.ref f_lmany)
  m_lis_bundling : mg "_law_is_bundling" = some (.ref f_lis_bundling)
  m_lmenu : mg "_law_menu" = some (.ref f_lmenu)
  m_llaid : mg "_law_laid" = some (.ref f_llaid)
  m_llot : mg "_law_lot" = some (.ref f_llot)
  m_lright : mg "_law_right" = some (.ref f_lright)
  m_law : mg "law" = some (.ref f_law)
  len : mg "len" = none
  range : mg "range" = none
  sorted : mg "sorted" = none
  tuple : mg "tuple" = none
  list : mg "list" = none
  isinstance : mg "isinstance" = none
  repr : mg "repr" = none
  min : mg "min" = none
  max : mg "max" = none
  all : mg "all" = none
  any : mg "any" = none
  zip : mg "zip" = none
  int : mg "int" = none
  bool : mg "bool" = none
  str : mg "str" = none
  set : mg "set" = none
  sum : mg "sum" = none
  ValueError : mg "ValueError" = none
  c_NUMBERS : ∃ t, mg "NUMBERS" = some (.int 1000000000 t)
section
variable {P : Program} {w : World} {K : PySem.W.Frag} {mg : Str → Option Value} {base : Heap} {f_is_number f_is_from_to f_is_word f_is_tuple_of f_is_run f_is_runs f_is_apart f_many_in f_both f_less f_what_is_left f_is_within f_is_bundling f_laid f_lfeed f_ldraw f_lnames f_lhas f_lmade f_lis_number f_lis_word f_lis_run f_lis_runs f_lalike f_lodd f_lbent f_lspoilt f_lbundling f_lmany f_lis_bundling f_lmenu f_llaid f_llot f_lright f_law c_is_runs P_is_runs c_is_word P_is_word c_many_in P_many_in : Addr} {d_is_number d_is_from_to d_is_word d_is_tuple_of d_is_run d_is_runs d_is_apart d_many_in d_both d_less d_what_is_left d_is_within d_is_bundling d_laid d_lfeed d_ldraw d_lnames d_lhas d_lmade d_lis_number d_lis_word d_lis_run d_lis_runs d_lalike d_lodd d_lbent d_lspoilt d_lbundling d_lmany d_lis_bundling d_lmenu d_llaid d_llot d_lright d_law : FuncData}
theorem ok_is_number (F : Fun K "is_number" "is_number" s_is_number f_is_number d_is_number) (T : Txt K mg f_is_number f_is_from_to f_is_word f_is_tuple_of f_is_run f_is_runs f_is_apart f_many_in f_both f_less f_what_is_left f_is_within f_is_bundling f_laid f_lfeed f_ldraw f_lnames f_lhas f_lmade f_lis_number f_lis_word f_lis_run f_lis_runs f_lalike f_lodd f_lbent f_lspoilt f_lbundling f_lmany f_lis_bundling f_lmenu f_llaid f_llot f_lright f_law) :
    FnOk P w K mg base CX0 (1) f_is_number d_is_number ["thing"] spKNum := by
  refine F.ok sc_is_number (fun vs H Q E h => ?_) (fun cdv A outer s H vs Q E hr h => ?_)

  · obtain ⟨v, d, N, rfl, _⟩ := h
    rfl
  obtain ⟨v, d, N, rfl, hd, q⟩ := h
  refine ⟨_, (pss_one (ps_ret (pe_and (pe_callB call_isi (by rfl) T.isinstance (by decide +kernel) (pa_cons (pv 0) (pa_cons (pe_bltn (v := .ty "int") (by rfl) T.int (by decide +kernel) rfl) pa_nil))) (pe_one (pe_not (pe_callB call_isi (by rfl) T.isinstance (by decide +kernel) (pa_cons (pv 0) (pa_cons (pe_bltn (v := .ty "bool") (by rfl) T.bool (by decide +kernel) rfl) pa_nil)))))))), ?_⟩
  have z := q H (Same.refl _)
  cases hd with
  | non => exact ⟨_, rfl, _, _, _, _, _, rfl, .ty _, .base .non, k_NoneType_int, _, rfl, iteF z⟩
  | bl b => exact ⟨_, rfl, _, _, _, _, _, rfl, .ty _, .base (.bl b), k_bool_int, _, rfl, iteT ⟨_, rfl, _, _, _, _, _, rfl, .ty _, .base (.bl b), k_bool_bool, _, rfl, z⟩⟩
  | int i => exact ⟨_, rfl, _, _, _, _, _, rfl, .ty _, .base (.int i), k_int_int, _, rfl, iteT ⟨_, rfl, _, _, _, _, _, rfl, .ty _, .base (.int i), k_int_bool, _, rfl, z⟩⟩
  | str x => exact ⟨_, rfl, _, _, _, _, _, rfl, .ty _, .base (.str x), k_str_int, _, rfl, iteF z⟩
  | lst _ h _ => exact ⟨_, rfl, _, _, _, _, _, rfl, .ty _, .base (.lst h), k_list_int, _, rfl, iteF z⟩
  | tup h _ => exact ⟨_, rfl, _, _, _, _, _, rfl, .ty _, .base (.tup h), k_tuple_int, _, rfl, iteF z⟩

theorem ok_is_from_to (F : Fun K "is_from_to" "is_from_to" s_is_from_to f_is_from_to d_is_from_to) (T : Txt K mg f_is_number f_is_from_to f_is_word f_is_tuple_of f_is_run f_is_runs f_is_apart f_many_in f_both f_less f_what_is_left f_is_within f_is_bundling f_laid f_lfeed f_ldraw f_lnames f_lhas f_lmade f_lis_number f_lis_word f_lis_run f_lis_runs f_lalike f_lodd f_lbent f_lspoilt f_lbundling f_lmany f_lis_bundling f_lmenu f_llaid f_llot f_lright f_law)
    (F_is_number : Fun K "is_number" "is_number" s_is_number f_is_number d_is_number) (b_is_number : Binds K d_is_number ["thing"] []) (G_is_number : FnOk P w K mg base CX0 (1) f_is_number d_is_number ["thing"] spKNum) :
    FnOk P w K mg base CX0 (2) f_is_from_to d_is_from_to ["thing", "least", "most"] spKFrom := by
  refine F.ok sc_is_from_to (fun vs H Q E h => ?_) (fun cdv A outer s H vs Q E hr h => ?_)

  · obtain ⟨v, d, N, lo, hi, rfl, _⟩ := h
    rfl
  obtain ⟨v, d, N, lo, hi, rfl, hd, q⟩ := h
  refine ⟨_, (pss_one (ps_ret (pe_and (pe_call G_is_number hr (by rfl) T.m_is_number F_is_number.kp b_is_number .nil pass0 (pa_cons (pv 0) pa_nil)) (pe_one (pe_chain op_le op_le (pv 1) (pv 0) (pv 2)))))), ?_⟩
  refine ⟨_, rfl, v, d, N, rfl, hd, fun H1 S1 => ?_⟩
  refine ⟨_, rfl, ?_⟩
  by_cases c : intD d = true
  rotate_left
  · have z := q _ S1
    have e : numD d lo hi = false := by
      cases d with
      | int i => exact absurd rfl c
      | _ => rfl
    rw [Bool.eq_false_iff.mpr c]
    rw [e] at z
    exact iteF z
  rw [c]
  obtain ⟨i, rfl⟩ : ∃ i, d = .int i := by
    cases d with
    | int i => exact ⟨i, rfl⟩
    | _ => cases c
  cases hd
  refine iteT ?_
  refine ⟨_, rfl, _, rfl, _, _, rfl, rfl, _, rfl, ?_⟩
  refine ite2 (fun c1 => ?_) (fun c1 => ?_)
  · refine ⟨_, rfl, _, _, rfl, rfl, ?_⟩
    have z := q _ S1
    have e : numD (.int i) lo hi = decide (i ≤ hi) := by
      show (decide (lo ≤ i) && decide (i ≤ hi)) = _
      rw [c1, Bool.true_and]
    rw [e] at z
    exact z
  · have z := q _ S1
    have e : numD (.int i) lo hi = false := by
      show (decide (lo ≤ i) && decide (i ≤ hi)) = _
      rw [Bool.eq_false_iff.mpr c1, Bool.false_and]
    rw [e] at z
    exact z

theorem ok_is_word (F : Fun K "is_word" "is_word" s_is_word f_is_word d_is_word) (T : Txt K mg f_is_number f_is_from_to f_is_word f_is_tuple_of f_is_run f_is_runs f_is_apart f_many_in f_both f_less f_what_is_left f_is_within f_is_bundling f_laid f_lfeed f_ldraw f_lnames f_lhas f_lmade f_lis_number f_lis_word f_lis_run f_lis_runs f_lalike f_lodd f_lbent f_lspoilt f_lbundling f_lmany f_lis_bundling f_lmenu f_llaid f_llot f_lright f_law)
    (hc_is_word : d_is_word.code = .ref c_is_word) (TB_is_word : GxR.TabB base mg c_is_word P_is_word) :
    FnOk P w K mg base CX0 (2) f_is_word d_is_word ["thing"] (spKWord P_is_word) := by
  refine okT F hc_is_word sc_is_word (fun vs H Q E h => ?_) (fun A outer s H vs Q E hr h => ?_)

  · obtain ⟨v, d, N, rfl, _⟩ := h
    rfl
  obtain ⟨v, d, N, rfl, hd, dp, hP, q⟩ := h
  refine ⟨_, (pss_cons (ps_if (PW.pt (pw_or (pt_not (pt_val (pe_callB call_isi (by rfl) T.isinstance (by decide +kernel) (pa_cons (pv 0) (pa_cons (pe_bltn (v := .ty "str") (by rfl) T.str (by decide +kernel) rfl) pa_nil))))) (pw_or (pt_cmpR op_lt (pe_callB call_len_str (by rfl) T.len (by decide +kernel) (pa_cons (pv 0) pa_nil)) pe_int (nomark _)) (pw_or1 (pt_cmpR op_gt (pe_callB call_len_str (by rfl) T.len (by decide +kernel) (pa_cons (pv 0) pa_nil)) pe_int (nomark _))))))
  (pss_one (ps_ret pe_bl))
  pss_nil)
  (pss_one (ps_ret (pe_allG (own := [("sign", 1)]) (g := (gName 1)) hr (by rfl) T.all sc_is_word.nd TB_is_word rfl (pi_str (pv 0)) (blkOk_by (own := [("sign", 1)]) (N := ["thing", "sign"]) (sc := defScope s_is_word) (by decide +kernel)) (by decide +kernel) (fun _ _ _ _ _ => (pg_name (i := 1) sc_is_word.nd rfl (.inl rfl))) (fun _ _ _ _ _ => pts_nil) (fun _ _ _ _ _ => (pe_chain op_le_str op_le_str pe_str (pv 1) pe_str)))))), ?_⟩
  have z := q H (Same.refl _)
  have no : ∀ {R : Prop}, R → R := fun h => h
  cases hd with
  | non => exact ⟨_, rfl, _, _, _, _, _, rfl, .ty _, .base .non, k_NoneType_str, _, rfl, iteT z⟩
  | bl b => exact ⟨_, rfl, _, _, _, _, _, rfl, .ty _, .base (.bl b), k_bool_str, _, rfl, iteT z⟩
  | int i => exact ⟨_, rfl, _, _, _, _, _, rfl, .ty _, .base (.int i), k_int_str, _, rfl, iteT z⟩
  | lst _ h _ => exact ⟨_, rfl, _, _, _, _, _, rfl, .ty _, .base (.lst h), k_list_str, _, rfl, iteT z⟩
  | tup h _ => exact ⟨_, rfl, _, _, _, _, _, rfl, .ty _, .base (.tup h), k_tuple_str, _, rfl, iteT z⟩
  | str s0 =>
    refine ⟨_, rfl, _, _, _, _, _, rfl, .ty _, .base (.str s0), k_str_str, _, rfl, iteF ?_⟩
    refine ⟨_, rfl, s0, rfl, dp.str, _, _, rfl, rfl, _, rfl, ?_⟩
    refine ite2 (fun c1 => ?_) (fun c1 => ?_)
    · have e : wordD (.str s0) = false := by
        show (decide (1 ≤ s0.length) && _) = false
        have c1 := of_decide_eq_true c1
        rw [decide_eq_false (by omega), Bool.false_and]
      rw [e] at z
      exact z
    refine ⟨_, rfl, s0, rfl, dp.str, _, _, rfl, rfl, _, rfl, ?_⟩
    have c1 : 1 ≤ s0.length := by
      have z : ¬ (((s0.length : Nat) : Int) < 1) := fun k => c1 (decide_eq_true k)
      omega
    refine ite2 (fun c2 => ?_) (fun c2 => ?_)
    · have e : wordD (.str s0) = false := by
        show (decide (1 ≤ s0.length) && (decide (s0.length ≤ 8) && _)) = false
        have c2 := of_decide_eq_true c2
        rw [decide_eq_false (show ¬ s0.length ≤ 8 by omega), Bool.false_and, Bool.and_false]
      rw [e] at z
      exact z
    have c2 : s0.length ≤ 8 := by
      have z : ¬ (8 < ((s0.length : Nat) : Int)) := fun k => c2 (decide_eq_true k)
      omega
    clear z
    refine ⟨_, rfl, s0, rfl, hP, s0.cps.size, fun _ => true, (fun i => .bl (chAt s0 i)), (fun _ H' => Same H H'), gx_it (walk_str (z := s0)) (fun _ H' => Same H H') (Same.refl _) (fun _ _ _ _ => trivial) ?_ ?_⟩
    · rintro i x H1 H2 hi s ⟨rfl, c, hc, rfl⟩
      have hc : s0.cps[i]? = some c := hc
      have f : chAt s0 i = chB c := by
        unfold chAt
        rw [hc]
      refine ⟨rfl, rfl, ?_⟩
      refine ⟨_, rfl, _, _, rfl, rfl, _, rfl, ?_⟩
      rw [lt_a]
      refine ite2 (fun c1 => ?_) (fun c1 => ?_)
      · refine ⟨_, _, rfl, rfl, ?_, s⟩
        rw [lt_z, f]
        show V.bl (!!decide (c ≤ 122)) = V.bl (decide (97 ≤ c) && decide (c ≤ 122))
        have c1 : (!!decide (97 ≤ c)) = true := c1
        rw [Bool.not_not] at c1 ⊢
        rw [c1, Bool.true_and]
      · refine ⟨?_, s⟩
        rw [f]
        show V.bl false = V.bl (decide (97 ≤ c) && decide (c ≤ 122))
        have c1 : ¬ (!!decide (97 ≤ c)) = true := c1
        rw [Bool.not_not] at c1
        rw [Bool.eq_false_iff.mpr c1, Bool.false_and]
    · refine ⟨chAt s0, rfl, fun i H2 _ S2 => ?_⟩
      have z := q _ S2
      have e : wordD (.str s0) = (((List.range s0.cps.size).filter fun _ => true).all (chAt s0)) := by
        rw [ch_all]
        show (decide (1 ≤ s0.length) && (decide (s0.length ≤ 8) && _)) = _
        rw [decide_eq_true c1, decide_eq_true c2, Bool.true_and, Bool.true_and]
      rw [e] at z
      exact z

theorem ok_is_tuple_of (F : Fun K "is_tuple_of" "is_tuple_of" s_is_tuple_of f_is_tuple_of d_is_tuple_of) (T : Txt K mg f_is_number f_is_from_to f_is_word f_is_tuple_of f_is_run f_is_runs f_is_apart f_many_in f_both f_less f_what_is_left f_is_within f_is_bundling f_laid f_lfeed f_ldraw f_lnames f_lhas f_lmade f_lis_number f_lis_word f_lis_run f_lis_runs f_lalike f_lodd f_lbent f_lspoilt f_lbundling f_lmany f_lis_bundling f_lmenu f_llaid f_llot f_lright f_law) :
    FnOk P w K mg base CX0 (1) f_is_tuple_of d_is_tuple_of ["thing", "many"] spKTup := by
  refine F.ok sc_is_tuple_of (fun vs H Q E h => ?_) (fun cdv A outer s H vs Q E hr h => ?_)

  · obtain ⟨v, d, N, m, rfl, _⟩ := h
    rfl
  obtain ⟨v, d, N, m, rfl, hd, q⟩ := h
  refine ⟨_, (pss_one (ps_ret (pe_and (pe_callB call_isi (by rfl) T.isinstance (by decide +kernel) (pa_cons (pv 0) (pa_cons (pe_bltn (v := .ty "tuple") (by rfl) T.tuple (by decide +kernel) rfl) pa_nil))) (pe_one (pe_cmpR op_eq (pe_callB call_len_seq (by rfl) T.len (by decide +kernel) (pa_cons (pv 0) pa_nil)) (pv 1) (nomark _)))))), ?_⟩
  have z := q H (Same.refl _)
  cases hd with
  | non => exact ⟨_, rfl, _, _, _, _, _, rfl, .ty _, .base .non, k_NoneType_tuple, _, rfl, iteF z⟩
  | bl b => exact ⟨_, rfl, _, _, _, _, _, rfl, .ty _, .base (.bl b), k_bool_tuple, _, rfl, iteF z⟩
  | int i => exact ⟨_, rfl, _, _, _, _, _, rfl, .ty _, .base (.int i), k_int_tuple, _, rfl, iteF z⟩
  | str x => exact ⟨_, rfl, _, _, _, _, _, rfl, .ty _, .base (.str x), k_str_tuple, _, rfl, iteF z⟩
  | lst _ h _ => exact ⟨_, rfl, _, _, _, _, _, rfl, .ty _, .base (.lst h), k_list_tuple, _, rfl, iteF z⟩
  | tup h a =>
    refine ⟨_, rfl, _, _, _, _, _, rfl, .ty _, .base (.tup h), k_tuple_tuple, _, rfl, iteT ?_⟩
    refine ⟨_, rfl, _, _, rfl, .inr (SqT.of h), _, rfl, rfl, ?_⟩
    rw [DnAll.len a]
    have e : ∀ x y : Int, decide (V.int x = V.int y) = decide (x = y) := fun x y => by simp
    rw [e]
    exact z

theorem ok_is_run (F : Fun K "is_run" "is_run" s_is_run f_is_run d_is_run) (T : Txt K mg f_is_number f_is_from_to f_is_word f_is_tuple_of f_is_run f_is_runs f_is_apart f_many_in f_both f_less f_what_is_left f_is_within f_is_bundling f_laid f_lfeed f_ldraw f_lnames f_lhas f_lmade f_lis_number f_lis_word f_lis_run f_lis_runs f_lalike f_lodd f_lbent f_lspoilt f_lbundling f_lmany f_lis_bundling f_lmenu f_llaid f_llot f_lright f_law)
    (F_is_tuple_of : Fun K "is_tuple_of" "is_tuple_of" s_is_tuple_of f_is_tuple_of d_is_tuple_of) (b_is_tuple_of : Binds K d_is_tuple_of ["thing", "many"] []) (G_is_tuple_of : FnOk P w K mg base CX0 (3) f_is_tuple_of d_is_tuple_of ["thing", "many"] spKTup)
    (F_is_word : Fun K "is_word" "is_word" s_is_word f_is_word d_is_word) (b_is_word : Binds K d_is_word ["thing"] []) (G_is_word : FnOk P w K mg base CX0 (3) f_is_word d_is_word ["thing"] (spKWord P_is_word))
    (F_is_from_to : Fun K "is_from_to" "is_from_to" s_is_from_to f_is_from_to d_is_from_to) (b_is_from_to : Binds K d_is_from_to ["thing", "least", "most"] []) (G_is_from_to : FnOk P w K mg base CX0 (3) f_is_from_to d_is_from_to ["thing", "least", "most"] spKFrom) :
    FnOk P w K mg base CX0 (4) f_is_run d_is_run ["thing"] (spKRun P_is_word) := by
  refine F.ok sc_is_run (fun vs H Q E h => ?_) (fun cdv A outer s H vs Q E hr h => ?_)

  · obtain ⟨v, d, N, rfl, _⟩ := h
    rfl
  obtain ⟨v, d, N, rfl, hd, sm, hP, q⟩ := h
  refine ⟨_, (pss_cons (ps_if (pt_not (pt_val (pe_call G_is_tuple_of hr (by rfl) T.m_is_tuple_of F_is_tuple_of.kp b_is_tuple_of .nil pass0 (pa_cons (pv 0) (pa_cons pe_int pa_nil)))))
  (pss_one (ps_ret pe_bl))
  pss_nil)
  (pss_cons (ps_asg (pv 0) (pg_tup rfl (pgs_cons (pg_name (i := 1) sc_is_run.nd rfl (.inl rfl)) (pgs_cons (pg_name (i := 2) sc_is_run.nd rfl (.inl rfl)) (pgs_cons (pg_name (i := 3) sc_is_run.nd rfl (.inl rfl)) pgs_nil)))))
  (pss_one (ps_ret (pe_and (pe_call G_is_word hr (by rfl) T.m_is_word F_is_word.kp b_is_word .nil pass0 (pa_cons (pv 1) pa_nil)) (pe_and (pe_call G_is_from_to hr (by rfl) T.m_is_from_to F_is_from_to.kp b_is_from_to .nil pass0 (pa_cons (pv 2) (pa_cons pe_int (pa_cons (pe_op op_sub (pe_gint (by rfl) T.c_NUMBERS) pe_int) pa_nil)))) (pe_one (pe_call G_is_from_to hr (by rfl) T.m_is_from_to F_is_from_to.kp b_is_from_to .nil pass0 (pa_cons (pv 3) (pa_cons (pe_op op_add (pv 2) pe_int) (pa_cons (pe_gint (by rfl) T.c_NUMBERS) pa_nil))))))))))), ?_⟩
  refine ⟨_, rfl, v, d, N, 3, rfl, hd, fun H1 S1 => ?_⟩
  by_cases c : tupN d (3 : Nat) = true
  rotate_left
  · have z := q _ S1
    rw [runD_no c] at z
    refine ⟨false, congrArg V.bl (Bool.eq_false_iff.mpr c), ?_⟩
    exact z
  refine ⟨true, congrArg V.bl c, ?_⟩
  obtain ⟨t, xs, ds, rfl, ht, rfl, hx, l3⟩ := tupN_iff hd c
  obtain ⟨a, b, e, rfl⟩ : ∃ a b e, ds = [a, b, e] := by
    match ds, l3 with
    | [a, b, e], _ => exact ⟨a, b, e, rfl⟩
  match xs, hx with
  | [x, y, z], .cons h1 (.cons h2 (.cons h3 .nil)) =>
  have i1 : a ∈ [a, b, e] := List.mem_cons_self
  refine ⟨_, rfl, t, _, rfl, SqT.of (S1 _ _ ht), rfl, _, _, rfl, _, _, rfl, _, _, rfl, rfl, ?_⟩
  refine ⟨_, rfl, x, a, N, rfl, h1.same S1, sm.part i1, S1 _ _ hP, fun H2 S2 => ?_⟩
  have no : ∀ {Hx : Hp}, Same H Hx → runB a b e = false → Q (.bl false) Hx := fun S k => by
    have z := q _ S
    have k : runD (.tuple [a, b, e]) = false := k
    rw [k] at z
    exact z
  have S12 := S1.trans S2
  refine ⟨_, rfl, ?_⟩
  refine ite2 (fun c1 => ?_) (fun c1 => ?_)
  rotate_left
  · refine no S12 ?_
    exact runB_no (.inl (Bool.eq_false_iff.mpr c1))
  refine ⟨_, rfl, _, _, rfl, rfl, y, b, N, 0, _, rfl, h2.same S12, fun H3 S3 => ?_⟩
  have S13 := S12.trans S3
  refine ⟨_, rfl, ?_⟩
  refine ite2 (fun c2 => ?_) (fun c2 => ?_)
  rotate_left
  · refine no S13 ?_
    exact runB_no (.inr (.inl (Bool.eq_false_iff.mpr c2)))
  obtain ⟨i, rfl⟩ : ∃ i, b = .int i := by
    cases b with
    | int i => exact ⟨i, rfl⟩
    | _ => cases c2
  cases h2
  refine ⟨_, rfl, _, rfl, i, 1, rfl, rfl, z, e, N, i + 1, 1000000000, rfl, h3.same S13, fun H4 S4 => ?_⟩
  have z := q _ (S13.trans S4)
  have k : runD (.tuple [a, .int i, e]) = numD e (i + 1) 1000000000 := runB_yes c1 c2
  rw [k] at z
  exact z

theorem ok_is_apart (F : Fun K "is_apart" "is_apart" s_is_apart f_is_apart d_is_apart) (T : Txt K mg f_is_number f_is_from_to f_is_word f_is_tuple_of f_is_run f_is_runs f_is_apart f_many_in f_both f_less f_what_is_left f_is_within f_is_bundling f_laid f_lfeed f_ldraw f_lnames f_lhas f_lmade f_lis_number f_lis_word f_lis_run f_lis_runs f_lalike f_lodd f_lbent f_lspoilt f_lbundling f_lmany f_lis_bundling f_lmenu f_llaid f_llot f_lright f_law) :
    FnOk P w K mg base CX0 (1) f_is_apart d_is_apart ["run", "later"] spApart := by
  refine F.ok sc_is_apart (fun vs H Q E h => ?_) (fun cdv A outer s H vs Q E hr h => ?_)

  · obtain ⟨p, q, a, b, rfl, _⟩ := h
    rfl
  obtain ⟨p, q, a, b, rfl, h1, h2, z⟩ := h
  refine ⟨_, (pss_cons (ps_if (pt_cmpR op_eq (pe_ix ix_tup (pv 0) pe_int (fun _ _ => rfl)) (pe_ix ix_tup (pv 1) pe_int (fun _ _ => rfl)) (nomark _))
  (pss_one (ps_ret (pe_cmpR op_lt (pe_ix ix_tup (pv 0) pe_int (fun _ _ => rfl)) (pe_ix ix_tup (pv 1) pe_int (fun _ _ => rfl)) (nomark _))))
  pss_nil)
  (pss_one (ps_ret (pe_cmpR op_lt_str (pe_ix ix_tup (pv 0) pe_int (fun _ _ => rfl)) (pe_ix ix_tup (pv 1) pe_int (fun _ _ => rfl)) (nomark _))))), ?_⟩
  refine ⟨_, rfl, p, _, _, _, rfl, rfl, SqT.of h1, rfl, _, rfl, q, _, _, _, rfl, rfl, SqT.of h2, rfl, rfl, _, rfl, ?_⟩
  refine ite2 (fun c => ?_) (fun c => ?_)
  · have e : a.1 = b.1 := V.str.inj (of_decide_eq_true c)
    have z2 : Q (.bl (decide (a.2.2 < b.2.1))) H := by
      unfold apart at z
      rw [if_pos e] at z
      exact z
    exact ⟨_, rfl, p, _, _, _, rfl, rfl, SqT.of h1, rfl, _, rfl, q, _, _, _, rfl, rfl, SqT.of h2, rfl, _, _, rfl, rfl, z2⟩
  · have e : ¬ a.1 = b.1 := fun k => c (decide_eq_true (congrArg V.str k))
    have z2 : Q (.bl (decide (a.1.cps.toList < b.1.cps.toList))) H := by
      unfold apart at z
      rw [if_neg e] at z
      exact z
    exact ⟨_, rfl, p, _, _, _, rfl, rfl, SqT.of h1, rfl, _, rfl, q, _, _, _, rfl, rfl, SqT.of h2, rfl, _, _, rfl, rfl, z2⟩

theorem ok_is_runs (F : Fun K "is_runs" "is_runs" s_is_runs f_is_runs d_is_runs) (T : Txt K mg f_is_number f_is_from_to f_is_word f_is_tuple_of f_is_run f_is_runs f_is_apart f_many_in f_both f_less f_what_is_left f_is_within f_is_bundling f_laid f_lfeed f_ldraw f_lnames f_lhas f_lmade f_lis_number f_lis_word f_lis_run f_lis_runs f_lalike f_lodd f_lbent f_lspoilt f_lbundling f_lmany f_lis_bundling f_lmenu f_llaid f_llot f_lright f_law)
    (F_is_run : Fun K "is_run" "is_run" s_is_run f_is_run d_is_run) (b_is_run : Binds K d_is_run ["thing"] []) (G_is_run : FnOk P w K mg base CX0 (4) f_is_run d_is_run ["thing"] (spKRun P_is_word))
    (F_is_apart : Fun K "is_apart" "is_apart" s_is_apart f_is_apart d_is_apart) (b_is_apart : Binds K d_is_apart ["run", "later"] []) (G_is_apart : FnOk P w K mg base CX0 (4) f_is_apart d_is_apart ["run", "later"] spApart)
    (hc_is_runs : d_is_runs.code = .ref c_is_runs) (TB_is_runs : GxR.TabB base mg c_is_runs P_is_runs) :
    FnOk P w K mg base CX0 (6) f_is_runs d_is_runs ["thing"] (spKRuns P_is_runs P_is_word) := by
  refine okT F hc_is_runs sc_is_runs (fun vs H Q E h => ?_) (fun A outer s H vs Q E hr h => ?_)

  · obtain ⟨v, d, N, rfl, _⟩ := h
    rfl
  obtain ⟨v, d, N, rfl, hd, sm, hP1, hP2, q⟩ := h
  refine ⟨_, (pss_cons (ps_if (pt_not (pt_val (pe_callB call_isi (by rfl) T.isinstance (by decide +kernel) (pa_cons (pv 0) (pa_cons (pe_bltn (v := .ty "tuple") (by rfl) T.tuple (by decide +kernel) rfl) pa_nil)))))
  (pss_one (ps_ret pe_bl))
  pss_nil)
  (pss_cons (ps_if (pt_not (pt_val (pe_allG (own := [("run", 1)]) (g := (gName 1)) hr (by rfl) T.all sc_is_runs.nd TB_is_runs rfl (pi_tup (pv 0)) (blkOk_by (own := [("run", 1)]) (N := ["thing", "run", "at"]) (sc := defScope s_is_runs) (by decide +kernel)) (by decide +kernel) (fun _ _ _ _ _ => (pg_name (i := 1) sc_is_runs.nd rfl (.inl rfl))) (fun _ _ _ _ _ => pts_nil) (fun _ _ _ _ _ => (pe_call G_is_run ((room_gx hr).mono (by decide)) (by rfl) T.m_is_run F_is_run.kp b_is_run .nil pass0 (pa_cons (pv 1) pa_nil))))))
  (pss_one (ps_ret pe_bl))
  pss_nil)
  (pss_one (ps_ret (pe_allG (own := [("at", 2)]) (g := (gName 2)) hr (by rfl) T.all sc_is_runs.nd TB_is_runs rfl (pi_range2 (by rfl) T.range (pa_cons pe_int (pa_cons (pe_callB call_len_seq (by rfl) T.len (by decide +kernel) (pa_cons (pv 0) pa_nil)) pa_nil))) (blkOk_by (own := [("at", 2)]) (N := ["thing", "run", "at"]) (sc := defScope s_is_runs) (by decide +kernel)) (by decide +kernel) (fun _ _ _ _ _ => (pg_name (i := 2) sc_is_runs.nd rfl (.inl rfl))) (fun _ _ _ _ _ => pts_nil) (fun _ _ _ _ _ => (pe_call G_is_apart ((room_gx hr).mono (by decide)) (by rfl) T.m_is_apart F_is_apart.kp b_is_apart .nil pass0 (pa_cons (pe_ix (show IxR _ (rIxT K) from ix_tup) (pv 0) (pe_op op_sub (pv 2) pe_int) (fun _ _ => rfl)) (pa_cons (pe_ix (show IxR _ (rIxT K) from ix_tup) (pv 0) (pv 2) (fun _ _ => rfl)) pa_nil))))))))), ?_⟩
  rcases hd.cases with ⟨a, xs, ds, rfl, rfl, ha, hxs⟩ | nt
  rotate_left
  · obtain ⟨ty, n1, n2⟩ := noTup_of (K := K) hd.dp nt
    have z := q _ (Same.refl _)
    rw [runsD_no nt] at z
    refine ⟨_, rfl, _, _, _, _, _, rfl, .ty _, n1, n2, ?_⟩
    exact ⟨false, rfl, z⟩
  have ln := hxs.len
  have sl := sm.len
  refine ⟨_, rfl, _, _, _, _, _, rfl, .ty _, .base (.tup ha), k_tuple_tuple, ?_⟩
  refine ⟨true, rfl, ?_⟩
  refine ⟨_, rfl, a, rfl, ⟨_, SqT.of ha⟩, hP1, xs.length, fun _ => true, (fun i => .bl (atD runD ds i)), (fun _ H' => Same H H'), gx_it (walk_tup (K := K) (a := a) (xs := xs)) (fun _ H' => Same H H') (Same.refl _) (fun i H' _ s => SqT.of (s _ _ ha)) ?_ ?_⟩
  · rintro i x H1 H2 hi s ⟨rfl, hx⟩
    obtain ⟨d, d1, d2⟩ := hxs.get hx
    refine ⟨rfl, rfl, ?_⟩
    exact ⟨_, rfl, x, d, N, rfl, d2.same s, sm.part (List.mem_of_getElem? d1), s _ _ hP2, fun H3 S3 => ⟨by rw [atD_some d1], s.trans S3⟩⟩
  refine ⟨atD runD ds, rfl, fun i H1 _ S1 => ?_⟩
  rw [ln]
  by_cases c : (((List.range ds.length).filter fun _ => true).all (atD runD ds)) = true
  rotate_left
  · have z := q _ S1
    have e : runsD (.tuple ds) = false := by
      show (_ && _) = false
      rw [Bool.eq_false_iff.mpr c, Bool.false_and]
    rw [e] at z
    rw [Bool.eq_false_iff.mpr c]
    exact ⟨false, rfl, z⟩
  have all := at_all c
  rw [c]
  refine ⟨true, rfl, ?_⟩
  have e1 : (((xs.length : Nat) : Int) - 1).toNat = ds.length - 1 := by omega
  refine ⟨_, rfl, a, _, rfl, .inr (SqT.of (S1 _ _ ha)), 1, _, rfl, by omega, S1 _ _ hP1, (((xs.length : Nat) : Int) - 1).toNat, fun _ => true, (fun i => .bl (nextD ds i)), (fun _ H' => Same H H'), gx_it (walk_range (lo := 1) (n := (((xs.length : Nat) : Int) - 1).toNat)) (fun _ H' => Same H H') S1 (fun _ _ _ _ => trivial) ?_ ?_⟩
  · rintro i x H2 H3 hi s ⟨rfl, rfl⟩
    have h1 : i + 1 < xs.length := by omega
    obtain ⟨u, hu⟩ : ∃ u, xs[i]? = some u := ⟨_, List.getElem?_eq_getElem (by omega)⟩
    obtain ⟨v, hv⟩ : ∃ v, xs[i + 1]? = some v := ⟨_, List.getElem?_eq_getElem (by omega)⟩
    obtain ⟨du, hdu, du2⟩ := hxs.get hu
    obtain ⟨dv, hdv, dv2⟩ := hxs.get hv
    obtain ⟨r, rfl, _, _⟩ := runD_rn (all _ (List.mem_of_getElem? hdu))
    obtain ⟨r', rfl, _, _⟩ := runD_rn (all _ (List.mem_of_getElem? hdv))
    obtain ⟨pu, rfl, hpu⟩ := dn_rn du2
    obtain ⟨pv, rfl, hpv⟩ := dn_rn dv2
    have aa : atI xs (1 + (i : Int) - 1) = some (.ref pu) := by
      rw [show 1 + (i : Int) - 1 = (i : Nat) by omega]
      exact atI_nat hu
    have ab : atI xs (1 + (i : Int)) = some (.ref pv) := by
      rw [show 1 + (i : Int) = ((i + 1 : Nat) : Int) by omega]
      exact atI_nat hv
    have ha2 := s _ _ ha
    refine ⟨rfl, rfl, ?_⟩
    refine ⟨_, rfl, _, rfl, _, _, rfl, rfl, a, _, _, _, rfl, rfl, SqT.of ha2, aa, _, rfl, _, rfl, a, _, _, _, rfl, rfl, SqT.of ha2, ab, pu, pv, r, r', rfl, s _ _ hpu, s _ _ hpv, congrArg V.bl (nextD_some hdu hdv).symm, s⟩
  refine ⟨nextD ds, rfl, fun i H2 _ S2 => ?_⟩
  rw [e1]
  have z := q _ S2
  have e : runsD (.tuple ds) = (((List.range (ds.length - 1)).filter fun _ => true).all (nextD ds)) := by
    show (_ && _) = _
    rw [c, Bool.true_and]
  rw [e] at z
  exact z

theorem ok_many_in (F : Fun K "many_in" "many_in" s_many_in f_many_in d_many_in) (T : Txt K mg f_is_number f_is_from_to f_is_word f_is_tuple_of f_is_run f_is_runs f_is_apart f_many_in f_both f_less f_what_is_left f_is_within f_is_bundling f_laid f_lfeed f_ldraw f_lnames f_lhas f_lmade f_lis_number f_lis_word f_lis_run f_lis_runs f_lalike f_lodd f_lbent f_lspoilt f_lbundling f_lmany f_lis_bundling f_lmenu f_llaid f_llot f_lright f_law)
    (hc_many_in : d_many_in.code = .ref c_many_in) (TB_many_in : GxR.TabB base mg c_many_in P_many_in) :
    FnOk P w K mg base CX0 (2) f_many_in d_many_in ["runs"] (spMany K P_many_in) := by
  refine okT F hc_many_in sc_many_in (fun vs H Q E h => ?_) (fun A outer s H vs Q E hr h => ?_)

  · obtain ⟨a, rs, rfl, _⟩ := h
    rfl
  obtain ⟨a, rs, rfl, ⟨qs, ha, hp⟩, hl, ok, ht, q⟩ := h
  refine ⟨_, (pss_one (ps_ret (pe_sumG (own := [("series", 1), ("low", 2), ("high", 3)]) (g := (gTup K 3 (gCons (gName 1) (gCons (gName 2) (gCons (gName 3) gNil))))) hr (by rfl) T.sum sc_many_in.nd TB_many_in rfl (pi_tup (pv 0)) (blkOk_by (own := [("series", 1), ("low", 2), ("high", 3)]) (N := ["runs", "series", "low", "high"]) (sc := defScope s_many_in) (by decide +kernel)) (by decide +kernel) (fun _ _ _ _ _ => (pg_tup rfl (pgs_cons (pg_name (i := 1) sc_many_in.nd rfl (.inl rfl)) (pgs_cons (pg_name (i := 2) sc_many_in.nd rfl (.inl rfl)) (pgs_cons (pg_name (i := 3) sc_many_in.nd rfl (.inl rfl)) pgs_nil))))) (fun _ _ _ _ _ => pts_nil) (fun _ _ _ _ _ => (pe_op op_sub (pv 3) (pv 2)))))), ?_⟩
  have el : (qs.map V.ref).length = rs.length := by rw [List.length_map, hp.len]
  refine ⟨_, rfl, a, rfl, ⟨_, ha⟩, ht, (qs.map V.ref).length, fun _ => true, (fun i => .int ((rs[i]?).elim 0 cnt)), (fun _ H' => Same H H'), gx_it (walk_tup (K := K) (a := a) (xs := qs.map V.ref)) _ (Same.refl _) (fun i H' _ s => SqT.sm s ha) ?_ ⟨fun i => (rs[i]?).elim 0 cnt, 1000000000, rfl, ?_, fun i _ => ?_, fun H' s => ?_⟩⟩
  · rintro i x H1 H2 hi s ⟨rfl, hx⟩
    obtain ⟨u, hu, rfl⟩ : ∃ u, qs[i]? = some u ∧ x = V.ref u := by
      rw [List.getElem?_map] at hx
      cases e : qs[i]? with
      | none => rw [e] at hx; cases hx
      | some p => rw [e] at hx; exact ⟨p, rfl, (Option.some.inj hx).symm⟩
    obtain ⟨r, hr, hr2⟩ := Prd.get hp hu
    refine ⟨u, _, rfl, SqT.of (s _ _ hr2), rfl, _, _, rfl, _, _, rfl, _, _, rfl, rfl, rfl, rfl, ?_⟩
    refine ⟨_, rfl, _, rfl, _, _, rfl, rfl, ?_, s⟩
    rw [hr]
    rfl
  · rw [el]
    omega
  · show ((rs[i]?).elim 0 cnt).natAbs ≤ 1000000000
    cases e : rs[i]? with
    | none => exact Nat.zero_le _
    | some r =>
      obtain ⟨o1, o2, o3⟩ := ok r (List.mem_of_getElem? e)
      show (cnt r).natAbs ≤ 1000000000
      unfold cnt
      omega
  · have e : (((List.range (qs.map V.ref).length).filter fun _ => true).map fun i => (rs[i]?).elim 0 cnt).sum = cntL rs := by
      rw [el]
      exact range_sum cnt rs
    rw [e]
    exact q H' s

theorem ok_both (F : Fun K "both" "both" s_both f_both d_both) (T : Txt K mg f_is_number f_is_from_to f_is_word f_is_tuple_of f_is_run f_is_runs f_is_apart f_many_in f_both f_less f_what_is_left f_is_within f_is_bundling f_laid f_lfeed f_ldraw f_lnames f_lhas f_lmade f_lis_number f_lis_word f_lis_run f_lis_runs f_lalike f_lodd f_lbent f_lspoilt f_lbundling f_lmany f_lis_bundling f_lmenu f_llaid f_llot f_lright f_law) :
    FnOk P w K mg base CX0 (1) f_both d_both ["one", "other"] (spTwo K bothL) := by
  refine F.ok sc_both (fun vs H Q E h => ?_) (fun cdv A outer s H vs Q E hr h => ?_)

  · obtain ⟨a, b, rs, ts, rfl, _⟩ := h
    rfl
  obtain ⟨a, b, rs, ts, rfl, ⟨qs, h1, h2⟩, ⟨ps, k1, k2⟩, l1, l2, q⟩ := h
  refine ⟨_, (pss_cons (ps_set (i := 2) sc_both.nd rfl (.inl rfl) (pe_lst pa_nil))
  (pss_cons (ps_set (i := 3) sc_both.nd rfl (.inl rfl) pe_int)
  (pss_cons (ps_set (i := 4) sc_both.nd rfl (.inl rfl) pe_int)
  (pss_cons (ps_while PassesOwn.never (PW.pt (pw_and (pt_cmpR op_lt (pv 3) (pe_callB call_len_seq (by rfl) T.len (by decide +kernel) (pa_cons (pv 0) pa_nil)) (nomark _)) (pw_and1 (pt_cmpR op_lt (pv 4) (pe_callB call_len_seq (by rfl) T.len (by decide +kernel) (pa_cons (pv 1) pa_nil)) (nomark _)))))
  (pss_cons (ps_asg (pe_ix ix_tup (pv 0) (pv 3) (fun _ _ => rfl)) (pg_tup rfl (pgs_cons (pg_name (i := 5) sc_both.nd rfl (.inl rfl)) (pgs_cons (pg_name (i := 6) sc_both.nd rfl (.inl rfl)) (pgs_cons (pg_name (i := 7) sc_both.nd rfl (.inl rfl)) pgs_nil)))))
  (pss_cons (ps_asg (pe_ix ix_tup (pv 1) (pv 4) (fun _ _ => rfl)) (pg_tup rfl (pgs_cons (pg_name (i := 8) sc_both.nd rfl (.inl rfl)) (pgs_cons (pg_name (i := 9) sc_both.nd rfl (.inl rfl)) (pgs_cons (pg_name (i := 10) sc_both.nd rfl (.inl rfl)) pgs_nil)))))
  (C8.pss_cut (ps_if (PW.pt (pw_and (pt_cmpR op_eq (pv 5) (pv 8) (nomark _)) (pw_and1 (pt_cmpR op_lt (pe_callB (call_max2 rfl) (by rfl) T.max (by decide +kernel) (pa_cons (pv 6) (pa_cons (pv 9) pa_nil))) (pe_callB (call_min2 rfl) (by rfl) T.min (by decide +kernel) (pa_cons (pv 7) (pa_cons (pv 10) pa_nil))) (nomark _)))))
  (pss_one (ps_expr (pe_bm PySem.F.plainAttrs_list PySem.F.slot_list_append PySem.F.type_list_append mt_append (pv 2) (pa_cons (pe_tup (pa_cons (pv 5) (pa_cons (pe_callB (call_max2 rfl) (by rfl) T.max (by decide +kernel) (pa_cons (pv 6) (pa_cons (pv 9) pa_nil))) (pa_cons (pe_callB (call_min2 rfl) (by rfl) T.min (by decide +kernel) (pa_cons (pv 7) (pa_cons (pv 10) pa_nil))) pa_nil)))) pa_nil))))
  pss_nil)
  (pss_one (ps_if (pt_cmpR (op_leP hr) (pe_tup (pa_cons (pv 5) (pa_cons (pv 7) pa_nil))) (pe_tup (pa_cons (pv 8) (pa_cons (pv 10) pa_nil))) (nomark _))
  (pss_one (ps_aug (i := 3) sc_both.nd rfl (.inl rfl) pe_int ip_add))
  (pss_one (ps_aug (i := 4) sc_both.nd rfl (.inl rfl) pe_int ip_add))))))))
  (pss_one (ps_ret (pe_callTy call_tuple_of (by rfl) T.tuple (by decide +kernel) (pa_cons (pv 2) pa_nil)))))))), ?_⟩
  have e1 := h2.len
  have e2 := k2.len
  have bl := both_len rs ts
  refine ⟨(show 0 ≤ sizeLine by decide), fun F hF => ?_⟩
  refine ⟨fun m σ H' => ∃ (i j : Nat) (fs : List Addr) (M : List Rn) (v5 v6 v7 v8 v9 v10 : Option V), σ = [some (.ref a), some (.ref b), some (.ref F), some (.int i), some (.int j), v5, v6, v7, v8, v9, v10] ∧ m = (rs.length - i) + (ts.length - j) ∧ Same H H' ∧ H' F = some (.lst (fs.map V.ref)) ∧ Prd H' fs M ∧ M ++ bothL (rs.drop i) (ts.drop j) = bothL rs ts,
    ⟨_, 0, 0, [], [], _, _, _, _, _, _, rfl, rfl, same_new hF _, upd_same, .nil, rfl⟩, ?_⟩
  rintro m σ H1 ⟨i, j, fs, M, v5, v6, v7, v8, v9, v10, rfl, rfl, S1, hF1, hp1, eM⟩
  have fin : ∀ L : List Rn, bothL (rs.drop i) (ts.drop j) = [] → ∀ t, H1 t = none → Q (.ref t) (upd H1 t (.tup (fs.map V.ref))) := fun _ e t ht => by
    rw [e, List.append_nil] at eM
    exact q t fs _ (S1.trans (same_new ht _)) (S1.free ht) upd_same (by rw [← eM]; exact Prd.same (same_new ht _) hp1)
  have q1 := SqT.sm S1 h1
  have q2 := SqT.sm S1 k1
  refine ⟨_, rfl, _, rfl, a, _, rfl, .inr q1, _, _, rfl, rfl, _, rfl, ?_⟩
  refine ite2 (fun c1 => ?_) (fun c1 => ?_)
  · have c1 := of_decide_eq_true c1
    rw [List.length_map, e1] at c1
    refine ⟨_, rfl, _, rfl, b, _, rfl, .inr q2, _, _, rfl, rfl, _, rfl, ?_⟩
    refine ite2 (fun c2 => ?_) (fun c2 => ?_)
    · have c2 := of_decide_eq_true c2
      rw [List.length_map, e2] at c2
      obtain ⟨p, x, at1, ex, hx⟩ := tp_at h2 (k := i) (by omega)
      obtain ⟨p', y, at2, ey, hy⟩ := tp_at k2 (k := j) (by omega)
      have d1 := drop_at ex
      have d2 := drop_at ey
      rw [d1, d2, both_cons] at eM
      refine ⟨fun σ' H' => ∃ m', m' < (rs.length - i) + (ts.length - j) ∧ ∃ (i j : Nat) (fs : List Addr) (M : List Rn) (v5 v6 v7 v8 v9 v10 : Option V), σ' = [some (.ref a), some (.ref b), some (.ref F), some (.int i), some (.int j), v5, v6, v7, v8, v9, v10] ∧ m' = (rs.length - i) + (ts.length - j) ∧ Same H H' ∧ H' F = some (.lst (fs.map V.ref)) ∧ Prd H' fs M ∧ M ++ bothL (rs.drop i) (ts.drop j) = bothL rs ts, fun σ' H' h => h, ?_⟩
      refine ⟨_, rfl, _, rfl, a, _, _, _, rfl, rfl, q1, at1, p, _, rfl, SqT.of (S1 _ _ hx), rfl, _, _, rfl, _, _, rfl, _, _, rfl, rfl, ?_⟩
      refine ⟨_, rfl, _, rfl, b, _, _, _, rfl, rfl, q2, at2, p', _, rfl, SqT.of (S1 _ _ hy), rfl, _, _, rfl, _, _, rfl, _, _, rfl, rfl, ?_⟩
      refine ⟨fun σ' H' => ∃ fs : List Addr, σ' = [some (.ref a), some (.ref b), some (.ref F), some (.int i), some (.int j), some (.str x.1), some (.int x.2.1), some (.int x.2.2), some (.str y.1), some (.int y.2.1), some (.int y.2.2)] ∧ Same H H' ∧ H' F = some (.lst (fs.map V.ref)) ∧ Prd H' fs (M ++ meet x y), ?_, ?_⟩
      · have none_ : ¬ (x.1 = y.1 ∧ mx x.2.1 y.2.1 < mn x.2.2 y.2.2) → Prd H1 fs (M ++ meet x y) := fun c => by
          have e : meet x y = [] := if_neg c
          rw [e, List.append_nil]
          exact hp1
        refine ⟨_, rfl, _, rfl, rfl, _, rfl, ?_⟩
        refine ite2 (fun c3 => ?_) (fun c3 => ?_)
        · refine ⟨_, rfl, _, rfl, _, _, rfl, _, rfl, _, rfl, _, _, rfl, _, _, rfl, rfl, _, rfl, ?_⟩
          refine ite2 (fun c4 => ?_) (fun c4 => ?_)
          · have c5 : x.1 = y.1 ∧ mx x.2.1 y.2.1 < mn x.2.2 y.2.2 := ⟨V.str.inj (of_decide_eq_true c3), of_decide_eq_true c4⟩
            have e : meet x y = [(x.1, mx x.2.1 y.2.1, mn x.2.2 y.2.2)] := if_pos c5
            refine ⟨_, rfl, .inl ⟨rfl, _, SqL.of hF1⟩, _, rfl, _, rfl, _, rfl, _, _, rfl, _, rfl, _, rfl, _, _, rfl, (show 3 ≤ sizeLine by decide), fun t ht => ?_⟩
            have nx := same_new ht (.tup (rnV (x.1, mx x.2.1 y.2.1, mn x.2.2 y.2.2)))
            refine ⟨F, _, _, rfl, rfl, nx _ _ hF1, ?_, fs ++ [t], rfl, same_mut (S1.trans nx) hF, ?_, ?_⟩
            · rw [List.length_map, hp1.len]
              have z := congrArg List.length eM
              rw [List.length_append] at z
              exact Nat.lt_of_le_of_lt (show _ ≤ 10000 by omega) (by decide)
            · rw [upd_same, List.map_append]
              rfl
            · rw [e]
              exact Prd.put (nx _ _ hF1) (Prd.app (Prd.same nx hp1) (Prd.one upd_same))
          · exact ⟨fs, rfl, S1, hF1, none_ fun z => c4 (decide_eq_true z.2)⟩
        · exact ⟨fs, rfl, S1, hF1, none_ fun z => c3 (decide_eq_true (congrArg V.str z.1))⟩
      · rintro σ' H2 ⟨gs, rfl, S2, hF2, hp2⟩
        refine ⟨_, rfl, _, rfl, (show 2 ≤ sizeLine by decide), fun t1 n1 => ⟨_, rfl, _, rfl, (show 2 ≤ sizeLine by decide), fun t2 n2 => ?_⟩⟩
        have N1 := same_new n1 (.tup [.str x.1, .int x.2.2])
        have N2 := same_new n2 (.tup [.str y.1, .int y.2.2])
        have N := N1.trans N2
        refine ⟨t1, t2, _, _, _, _, rfl, rfl, SqT.of (N2 _ _ upd_same), SqT.of upd_same, _, rfl, ?_⟩
        refine ite2 (fun c3 => ?_) (fun c3 => ?_)
        · rw [if_pos c3] at eM
          refine ⟨_, rfl, _, _, rfl, rfl, _, ?_, i + 1, j, gs, M ++ meet x y, _, _, _, _, _, _, rfl, rfl, S2.trans N, N _ _ hF2, Prd.same N hp2, ?_⟩
          · omega
          · rw [d2, List.append_assoc]
            exact eM
        · rw [if_neg c3] at eM
          refine ⟨_, rfl, _, _, rfl, rfl, _, ?_, i, j + 1, gs, M ++ meet x y, _, _, _, _, _, _, rfl, rfl, S2.trans N, N _ _ hF2, Prd.same N hp2, ?_⟩
          · omega
          · rw [d1, List.append_assoc]
            exact eM
    · have c3 : ts.length ≤ j := by
        rw [decide_eq_true_eq, List.length_map, e2] at c2
        omega
      refine ⟨_, rfl, F, _, rfl, .inl ⟨SqL.of hF1, fin [] (by rw [drop_end c3, both_nil2])⟩⟩
  · have c3 : rs.length ≤ i := by
      rw [decide_eq_true_eq, List.length_map, e1] at c1
      omega
    refine ⟨_, rfl, F, _, rfl, .inl ⟨SqL.of hF1, fin [] (by rw [drop_end c3, both_nil])⟩⟩

theorem ok_what_is_left (F : Fun K "what_is_left" "what_is_left" s_what_is_left f_what_is_left d_what_is_left) (T : Txt K mg f_is_number f_is_from_to f_is_word f_is_tuple_of f_is_run f_is_runs f_is_apart f_many_in f_both f_less f_what_is_left f_is_within f_is_bundling f_laid f_lfeed f_ldraw f_lnames f_lhas f_lmade f_lis_number f_lis_word f_lis_run f_lis_runs f_lalike f_lodd f_lbent f_lspoilt f_lbundling f_lmany f_lis_bundling f_lmenu f_llaid f_llot f_lright f_law) :
    FnOk P w K mg base CX0 (1) f_what_is_left d_what_is_left ["run", "other", "at"] (spLeft K) := by
  refine F.ok sc_what_is_left (fun vs H Q E h => ?_) (fun cdv A outer s H vs Q E hr h => ?_)

  · obtain ⟨x, b, k, r, ts, rfl, _⟩ := h
    rfl
  obtain ⟨x, b, k, r, ts, rfl, hx, ⟨ps, k1, k2⟩, l2, kl, q⟩ := h
  refine ⟨_, (pss_cons (ps_asg (pv 0) (pg_tup rfl (pgs_cons (pg_name (i := 3) sc_what_is_left.nd rfl (.inl rfl)) (pgs_cons (pg_name (i := 4) sc_what_is_left.nd rfl (.inl rfl)) (pgs_cons (pg_name (i := 5) sc_what_is_left.nd rfl (.inl rfl)) pgs_nil)))))
  (pss_cons (ps_set (i := 6) sc_what_is_left.nd rfl (.inl rfl) (pe_lst pa_nil))
  (C8.pss_cut (ps_while PassesOwn.never (PW.pt (pw_and (pt_cmpR op_lt (pv 2) (pe_callB call_len_seq (by rfl) T.len (by decide +kernel) (pa_cons (pv 1) pa_nil)) (nomark _)) (pw_and (pt_cmpR op_eq (pe_ix ix_tup (pe_ix ix_tup (pv 1) (pv 2) (fun _ _ => rfl)) pe_int (fun _ _ => rfl)) (pv 3) (nomark _)) (pw_and1 (pt_cmpR op_lt (pe_ix ix_tup (pe_ix ix_tup (pv 1) (pv 2) (fun _ _ => rfl)) pe_int (fun _ _ => rfl)) (pv 5) (nomark _))))))
  (C8.pss_cut (ps_if (pt_cmpR op_lt (pv 4) (pe_ix ix_tup (pe_ix ix_tup (pv 1) (pv 2) (fun _ _ => rfl)) pe_int (fun _ _ => rfl)) (nomark _))
  (pss_one (ps_expr (pe_bm PySem.F.plainAttrs_list PySem.F.slot_list_append PySem.F.type_list_append mt_append (pv 6) (pa_cons (pe_tup (pa_cons (pv 3) (pa_cons (pv 4) (pa_cons (pe_ix ix_tup (pe_ix ix_tup (pv 1) (pv 2) (fun _ _ => rfl)) pe_int (fun _ _ => rfl)) pa_nil)))) pa_nil))))
  pss_nil)
  (pss_cons (ps_set (i := 4) sc_what_is_left.nd rfl (.inl rfl) (pe_ix ix_tup (pe_ix ix_tup (pv 1) (pv 2) (fun _ _ => rfl)) pe_int (fun _ _ => rfl)))
  (pss_one (ps_aug (i := 2) sc_what_is_left.nd rfl (.inl rfl) pe_int ip_add)))))
  (pss_cons (ps_if (pt_cmpR op_lt (pv 4) (pv 5) (nomark _))
  (pss_one (ps_expr (pe_bm PySem.F.plainAttrs_list PySem.F.slot_list_append PySem.F.type_list_append mt_append (pv 6) (pa_cons (pe_tup (pa_cons (pv 3) (pa_cons (pv 4) (pa_cons (pv 5) pa_nil)))) pa_nil))))
  pss_nil)
  (pss_one (ps_ret (pv 6))))))), ?_⟩
  have e2 := k2.len
  refine ⟨_, rfl, x, _, rfl, SqT.of hx, rfl, _, _, rfl, _, _, rfl, _, _, rfl, rfl, ?_⟩
  refine ⟨(show 0 ≤ sizeLine by decide), fun F hF => ?_⟩
  have ll := left_len r.1 r.2.2 (ts.drop k) r.2.1
  rw [List.length_drop] at ll
  refine ⟨fun σ H' => ∃ (j : Nat) (lo : Int) (fs : List Addr) (M : List Rn), σ = [some (.ref x), some (.ref b), some (.int j), some (.str r.1), some (.int lo), some (.int r.2.2), some (.ref F)] ∧ Same H H' ∧ H' F = some (.lst (fs.map V.ref)) ∧ Prd H' fs M ∧ M ++ tailL r.1 lo r.2.2 = leftL r.1 r.2.2 r.2.1 (ts.drop k), ?_, ?_⟩
  · refine ⟨fun m σ H' => ∃ (j : Nat) (lo : Int) (fs : List Addr) (M : List Rn), σ = [some (.ref x), some (.ref b), some (.int j), some (.str r.1), some (.int lo), some (.int r.2.2), some (.ref F)] ∧ m = ts.length - j ∧ Same H H' ∧ H' F = some (.lst (fs.map V.ref)) ∧ Prd H' fs M ∧ M ++ leftL r.1 r.2.2 lo (ts.drop j) = leftL r.1 r.2.2 r.2.1 (ts.drop k),
      ⟨_, k, r.2.1, [], [], rfl, rfl, same_new hF _, upd_same, .nil, rfl⟩, ?_⟩
    rintro m σ H1 ⟨j, lo, fs, M, rfl, rfl, S1, hF1, hp1, eM⟩
    have q2 := SqT.sm S1 k1
    have flen2 : (fs.map V.ref).length < sizeLine := by
      have z := congrArg List.length eM
      rw [List.length_append] at z
      rw [List.length_map, hp1.len]
      exact Nat.lt_trans (show _ < 10000 by omega) (by decide)
    refine ⟨_, rfl, _, rfl, b, _, rfl, .inr q2, _, _, rfl, rfl, _, rfl, ?_⟩
    refine ite2 (fun c1 => ?_) (fun c1 => ?_)
    · have c1 := of_decide_eq_true c1
      rw [List.length_map, e2] at c1
      obtain ⟨p, o, at1, eo, ho⟩ := tp_at k2 (k := j) (by omega)
      have ho1 := SqT.of (K := K) (S1 _ _ ho)
      have d1 := drop_at eo
      rw [d1] at eM
      refine ⟨_, rfl, _, rfl, b, _, _, _, rfl, rfl, q2, at1, p, _, _, _, rfl, rfl, ho1, rfl, _, rfl, rfl, _, rfl, ?_⟩
      refine ite2 (fun c2 => ?_) (fun c2 => ?_)
      · refine ⟨_, rfl, _, rfl, b, _, _, _, rfl, rfl, q2, at1, p, _, _, _, rfl, rfl, ho1, rfl, _, rfl, _, _, rfl, rfl, _, rfl, ?_⟩
        refine ite2 (fun c3 => ?_) (fun c3 => ?_)
        · have c4 : o.1 = r.1 ∧ o.2.1 < r.2.2 := ⟨V.str.inj (of_decide_eq_true c2), of_decide_eq_true c3⟩
          have el : leftL r.1 r.2.2 lo (o :: ts.drop (j + 1)) = tailL r.1 lo o.2.1 ++ leftL r.1 r.2.2 o.2.2 (ts.drop (j + 1)) := if_pos c4
          rw [el] at eM
          refine ⟨fun σ' H' => ∃ m', m' < ts.length - j ∧ ∃ (j : Nat) (lo : Int) (fs : List Addr) (M : List Rn), σ' = [some (.ref x), some (.ref b), some (.int j), some (.str r.1), some (.int lo), some (.int r.2.2), some (.ref F)] ∧ m' = ts.length - j ∧ Same H H' ∧ H' F = some (.lst (fs.map V.ref)) ∧ Prd H' fs M ∧ M ++ leftL r.1 r.2.2 lo (ts.drop j) = leftL r.1 r.2.2 r.2.1 (ts.drop k), fun σ' H' h => h, ?_⟩
          refine ⟨fun σ' H' => ∃ fs : List Addr, σ' = [some (.ref x), some (.ref b), some (.int j), some (.str r.1), some (.int lo), some (.int r.2.2), some (.ref F)] ∧ Same H H' ∧ H' F = some (.lst (fs.map V.ref)) ∧ Prd H' fs (M ++ tailL r.1 lo o.2.1) ∧ H' p = some (.tup (rnV o)) ∧ SqT K H' b (ps.map V.ref), ?_, ?_⟩
          · refine ⟨_, rfl, _, rfl, _, rfl, b, _, _, _, rfl, rfl, q2, at1, p, _, _, _, rfl, rfl, ho1, rfl, _, _, rfl, rfl, _, rfl, ?_⟩
            refine ite2 (fun c5 => ?_) (fun c5 => ?_)
            · have e : tailL r.1 lo o.2.1 = [(r.1, lo, o.2.1)] := if_pos (of_decide_eq_true c5)
              refine ⟨_, rfl, .inl ⟨rfl, _, SqL.of hF1⟩, _, rfl, _, rfl, _, rfl, _, rfl, b, _, _, _, rfl, rfl, q2, at1, p, _, _, _, rfl, rfl, ho1, rfl, (show 3 ≤ sizeLine by decide), fun t ht => ?_⟩
              have nx := same_new ht (.tup (rnV (r.1, lo, o.2.1)))
              refine ⟨F, _, _, rfl, rfl, nx _ _ hF1, flen2, fs ++ [t], rfl, same_mut (S1.trans nx) hF, ?_, ?_, ?_, SqT.sm (same_mut (S1.trans nx) hF) k1⟩
              · rw [upd_same, List.map_append]
                rfl
              · rw [e]
                exact Prd.put (nx _ _ hF1) (Prd.app (Prd.same nx hp1) (Prd.one upd_same))
              · exact (same_mut (S1.trans nx) hF) _ _ ho
            · have e : tailL r.1 lo o.2.1 = [] := if_neg fun z => c5 (decide_eq_true z)
              exact ⟨fs, rfl, S1, hF1, by rw [e, List.append_nil]; exact hp1, S1 _ _ ho, q2⟩
          · rintro σ' H2 ⟨gs, rfl, S2, hF2, hp2, ho2, q3⟩
            refine ⟨_, rfl, _, rfl, b, _, _, _, rfl, rfl, q3, at1, p, _, _, _, rfl, rfl, SqT.of ho2, rfl, ?_⟩
            refine ⟨_, rfl, _, _, rfl, rfl, _, ?_, j + 1, o.2.2, gs, M ++ tailL r.1 lo o.2.1, rfl, rfl, S2, hF2, hp2, ?_⟩
            · omega
            · rw [List.append_assoc]
              exact eM
        · have el : leftL r.1 r.2.2 lo (o :: ts.drop (j + 1)) = tailL r.1 lo r.2.2 := if_neg fun z => c3 (decide_eq_true z.2)
          rw [el] at eM
          exact ⟨j, lo, fs, M, rfl, S1, hF1, hp1, eM⟩
      · have el : leftL r.1 r.2.2 lo (o :: ts.drop (j + 1)) = tailL r.1 lo r.2.2 := if_neg fun z => c2 (decide_eq_true (congrArg V.str z.1))
        rw [el] at eM
        exact ⟨j, lo, fs, M, rfl, S1, hF1, hp1, eM⟩
    · have c3 : ts.length ≤ j := by
        rw [decide_eq_true_eq, List.length_map, e2] at c1
        omega
      rw [drop_end c3] at eM
      exact ⟨j, lo, fs, M, rfl, S1, hF1, hp1, eM⟩
  · rintro σ H1 ⟨j, lo, fs, M, rfl, S1, hF1, hp1, eM⟩
    refine ⟨_, rfl, _, rfl, _, _, rfl, rfl, _, rfl, ?_⟩
    refine ite2 (fun c1 => ?_) (fun c1 => ?_)
    · have e : tailL r.1 lo r.2.2 = [(r.1, lo, r.2.2)] := if_pos (of_decide_eq_true c1)
      rw [e] at eM
      refine ⟨_, rfl, .inl ⟨rfl, _, SqL.of hF1⟩, _, rfl, _, rfl, _, rfl, (show 3 ≤ sizeLine by decide), fun t ht => ?_⟩
      have nx := same_new ht (.tup (rnV (r.1, lo, r.2.2)))
      refine ⟨F, _, _, rfl, rfl, nx _ _ hF1, ?_, _, rfl, ?_⟩
      · have z := congrArg List.length eM
        rw [List.length_append] at z
        rw [List.length_map, hp1.len]
        exact Nat.lt_trans (show _ < 10000 by omega) (by decide)
      · refine q F (fs ++ [t]) _ (same_mut (S1.trans nx) hF) hF ?_ ?_
        · rw [upd_same, List.map_append]
          rfl
        · rw [← eM]
          exact Prd.put (nx _ _ hF1) (Prd.app (Prd.same nx hp1) (Prd.one upd_same))
    · have e : tailL r.1 lo r.2.2 = [] := if_neg fun z => c1 (decide_eq_true z)
      rw [e, List.append_nil] at eM
      exact ⟨_, rfl, q F fs H1 S1 hF hF1 (by rw [← eM]; exact hp1)⟩

theorem ok_less (F : Fun K "less" "less" s_less f_less d_less) (T : Txt K mg f_is_number f_is_from_to f_is_word f_is_tuple_of f_is_run f_is_runs f_is_apart f_many_in f_both f_less f_what_is_left f_is_within f_is_bundling f_laid f_lfeed f_ldraw f_lnames f_lhas f_lmade f_lis_number f_lis_word f_lis_run f_lis_runs f_lalike f_lodd f_lbent f_lspoilt f_lbundling f_lmany f_lis_bundling f_lmenu f_llaid f_llot f_lright f_law)
    (F_what_is_left : Fun K "what_is_left" "what_is_left" s_what_is_left f_what_is_left d_what_is_left) (b_what_is_left : Binds K d_what_is_left ["run", "other", "at"] []) (G_what_is_left : FnOk P w K mg base CX0 (1) f_what_is_left d_what_is_left ["run", "other", "at"] (spLeft K)) :
    FnOk P w K mg base CX0 (2) f_less d_less ["one", "other"] (spTwo K lessL) := by
  refine F.ok sc_less (fun vs H Q E h => ?_) (fun cdv A outer s H vs Q E hr h => ?_)

  · obtain ⟨a, b, rs, ts, rfl, _⟩ := h
    rfl
  obtain ⟨a, b, rs, ts, rfl, ⟨qs, h1, h2⟩, ⟨ps, k1, k2⟩, l1, l2, q⟩ := h
  refine ⟨_, (pss_cons (ps_set (i := 2) sc_less.nd rfl (.inl rfl) (pe_lst pa_nil))
  (pss_cons (ps_set (i := 3) sc_less.nd rfl (.inl rfl) pe_int)
  (pss_cons (ps_for PassesOwn.never rfl (pi_tup (pv 0)) (pg_name (i := 4) sc_less.nd rfl (.inl rfl))
  (pss_cons (ps_asg (pv 4) (pg_tup rfl (pgs_cons (pg_name (i := 5) sc_less.nd rfl (.inl rfl)) (pgs_cons (pg_name (i := 6) sc_less.nd rfl (.inl rfl)) (pgs_cons (pg_name (i := 7) sc_less.nd rfl (.inl rfl)) pgs_nil)))))
  (C8.pss_cut (ps_while PassesOwn.never (PW.pt (pw_and (pt_cmpR op_lt (pv 3) (pe_callB call_len_seq (by rfl) T.len (by decide +kernel) (pa_cons (pv 1) pa_nil)) (nomark _)) (pw_and1 (pt_cmpR (op_leP hr) (pe_tup (pa_cons (pe_ix ix_tup (pe_ix ix_tup (pv 1) (pv 3) (fun _ _ => rfl)) pe_int (fun _ _ => rfl)) (pa_cons (pe_ix ix_tup (pe_ix ix_tup (pv 1) (pv 3) (fun _ _ => rfl)) pe_int (fun _ _ => rfl)) pa_nil))) (pe_tup (pa_cons (pv 5) (pa_cons (pv 6) pa_nil))) (nomark _)))))
  (pss_one (ps_aug (i := 3) sc_less.nd rfl (.inl rfl) pe_int ip_add)))
  (pss_one (ps_expr (pe_bm PySem.F.plainAttrs_list PySem.F.slot_list_extend PySem.F.type_list_extend mt_extend (pv 2) (pa_cons (pe_call G_what_is_left hr (by rfl) T.m_what_is_left F_what_is_left.kp b_what_is_left .nil pass0 (pa_cons (pv 4) (pa_cons (pv 1) (pa_cons (pv 3) pa_nil)))) pa_nil)))))))
  (pss_one (ps_ret (pe_callTy call_tuple_of (by rfl) T.tuple (by decide +kernel) (pa_cons (pv 2) pa_nil))))))), ?_⟩
  have e1 := h2.len
  have e2 := k2.len
  have ll := less_len rs ts
  have lm : rs.length * (ts.length + 1) ≤ 3000 * 3001 := Nat.mul_le_mul l1 (by omega)
  refine ⟨(show 0 ≤ sizeLine by decide), fun F hF => ?_⟩
  refine ⟨_, rfl, a, rfl, ⟨_, SqT.sm (same_new hF _) h1⟩, ?_⟩
  refine for_tup (K := K) (a := a) (xs := qs.map V.ref) (fun i σ H' => ∃ (k : Nat) (fs : List Addr) (M : List Rn) (v4 v5 v6 v7 : Option V), σ = [some (.ref a), some (.ref b), some (.ref F), some (.int k), v4, v5, v6, v7] ∧ Same H H' ∧ H' F = some (.lst (fs.map V.ref)) ∧ Prd H' fs M ∧ k ≤ ts.length ∧ M ++ lessL (rs.drop i) (ts.drop k) = lessL rs ts) ?_ ?_ ?_ ?_
  · exact ⟨0, [], [], _, _, _, _, rfl, same_new hF _, upd_same, .nil, Nat.zero_le _, rfl⟩
  · rintro i σ H' _ ⟨_, _, _, _, _, _, _, _, S, _⟩
    exact SqT.sm S h1
  · rintro i y σ H1 hy ⟨k, fs, M, v4, v5, v6, v7, rfl, S1, hF1, hp1, kl, eM⟩
    obtain ⟨u, hu, rfl⟩ : ∃ u, qs[i]? = some u ∧ y = V.ref u := by
      rw [List.getElem?_map] at hy
      cases e : qs[i]? with
      | none => rw [e] at hy; cases hy
      | some p => rw [e] at hy; exact ⟨p, rfl, (Option.some.inj hy).symm⟩
    obtain ⟨x, hx1, hx2⟩ := Prd.get h2 hu
    have d1 := drop_at hx1
    rw [d1] at eM
    have eM : M ++ (leftL x.1 x.2.2 x.2.1 (skipL x.1 x.2.1 (ts.drop k)) ++ lessL (rs.drop (i + 1)) (skipL x.1 x.2.1 (ts.drop k))) = lessL rs ts := eM
    refine ⟨_, rfl, u, _, rfl, SqT.of (S1 _ _ hx2), rfl, _, _, rfl, _, _, rfl, _, _, rfl, rfl, ?_⟩
    refine ⟨fun σ H' => ∃ k' : Nat, σ = [some (.ref a), some (.ref b), some (.ref F), some (.int k'), some (.ref u), some (.str x.1), some (.int x.2.1), some (.int x.2.2)] ∧ Same H1 H' ∧ k' ≤ ts.length ∧ ts.drop k' = skipL x.1 x.2.1 (ts.drop k), ?_, ?_⟩
    · refine ⟨fun m σ H' => ∃ k' : Nat, σ = [some (.ref a), some (.ref b), some (.ref F), some (.int k'), some (.ref u), some (.str x.1), some (.int x.2.1), some (.int x.2.2)] ∧ m = ts.length - k' ∧ Same H1 H' ∧ k' ≤ ts.length ∧ skipL x.1 x.2.1 (ts.drop k') = skipL x.1 x.2.1 (ts.drop k), ⟨_, k, rfl, rfl, Same.refl _, kl, rfl⟩, ?_⟩
      rintro m σ H2 ⟨j, rfl, rfl, S2, jl, eS⟩
      have q2 := SqT.sm (S1.trans S2) k1
      refine ⟨_, rfl, _, rfl, b, _, rfl, .inr q2, _, _, rfl, rfl, _, rfl, ?_⟩
      refine ite2 (fun c1 => ?_) (fun c1 => ?_)
      · have c1 := of_decide_eq_true c1
        rw [List.length_map, e2] at c1
        obtain ⟨p, o, at1, eo, ho⟩ := tp_at k2 (k := j) (by omega)
        have ho1 := (S1.trans S2) _ _ ho
        have d2 := drop_at eo
        refine ⟨_, rfl, _, rfl, b, _, _, _, rfl, rfl, q2, at1, p, _, _, _, rfl, rfl, SqT.of ho1, rfl, _, rfl, _, rfl, b, _, _, _, rfl, rfl, q2, at1, p, _, _, _, rfl, rfl, SqT.of ho1, rfl, (show 2 ≤ sizeLine by decide), fun t1 n1 => ⟨_, rfl, _, rfl, (show 2 ≤ sizeLine by decide), fun t2 n2 => ?_⟩⟩
        have N1 := same_new n1 (.tup [.str o.1, .int o.2.2])
        have N2 := same_new n2 (.tup [.str x.1, .int x.2.1])
        have N := N1.trans N2
        refine ⟨t1, t2, _, _, _, _, rfl, rfl, SqT.of (N2 _ _ upd_same), SqT.of upd_same, _, rfl, ?_⟩
        rw [d2] at eS
        refine ite2 (fun c3 => ?_) (fun c3 => ?_)
        · have es : skipL x.1 x.2.1 (o :: ts.drop (j + 1)) = skipL x.1 x.2.1 (ts.drop (j + 1)) := by
            unfold skipL
            rw [List.dropWhile_cons, if_pos c3]
          rw [es] at eS
          refine ⟨fun σ' H' => ∃ m', m' < ts.length - j ∧ ∃ k' : Nat, σ' = [some (.ref a), some (.ref b), some (.ref F), some (.int k'), some (.ref u), some (.str x.1), some (.int x.2.1), some (.int x.2.2)] ∧ m' = ts.length - k' ∧ Same H1 H' ∧ k' ≤ ts.length ∧ skipL x.1 x.2.1 (ts.drop k') = skipL x.1 x.2.1 (ts.drop k), fun σ' H' h => h, ?_⟩
          exact ⟨_, rfl, _, _, rfl, rfl, _, (show ts.length - (j + 1) < ts.length - j by omega), j + 1, rfl, rfl, S2.trans N, (by omega), eS⟩
        · have es : skipL x.1 x.2.1 (o :: ts.drop (j + 1)) = o :: ts.drop (j + 1) := by
            unfold skipL
            rw [List.dropWhile_cons, if_neg c3]
          rw [es, ← d2] at eS
          exact ⟨j, rfl, S2.trans N, jl, eS⟩
      · have c3 : ts.length ≤ j := by
          rw [decide_eq_true_eq, List.length_map, e2] at c1
          omega
        rw [drop_end c3] at eS
        exact ⟨j, rfl, S2, jl, by rw [drop_end c3]; exact eS⟩
    · rintro σ H2 ⟨j, rfl, S2, jl, eS⟩
      rw [← eS] at eM
      have S12 := S1.trans S2
      refine ⟨_, rfl, .inl ⟨rfl, _, SqL.of (S2 _ _ hF1)⟩, _, rfl, _, rfl, _, rfl, u, b, j, x, ts, rfl, S12 _ _ hx2, ⟨ps, SqT.sm S12 k1, Prd.same S12 k2⟩, l2, jl, fun t gs H3 S3 n3 h3 g3 => ?_⟩
      have hF3 := S3 _ _ (S2 _ _ hF1)
      have S23 := S2.trans S3
      refine ⟨F, t, _, _, rfl, rfl, hF3, h3, ?_, j, fs ++ gs, M ++ leftL x.1 x.2.2 x.2.1 (ts.drop j), _, _, _, _, rfl, same_mut (S1.trans S23) hF, ?_, ?_, jl, ?_⟩
      · rw [List.length_map, List.length_map, hp1.len, g3.len]
        have z := congrArg List.length eM
        rw [List.length_append, List.length_append] at z
        exact Nat.le_trans (show _ ≤ 10000000 by omega) (by decide)
      · rw [upd_same, List.map_append]
      · exact Prd.put hF3 (Prd.app (Prd.same S23 hp1) g3)
      · rw [List.append_assoc]
        exact eM
  · rintro σ H1 ⟨k, fs, M, v4, v5, v6, v7, rfl, S1, hF1, hp1, kl, eM⟩
    rw [List.length_map, e1, drop_end (Nat.le_refl _)] at eM
    have eM : M ++ [] = lessL rs ts := eM
    rw [List.append_nil] at eM
    refine ⟨_, rfl, F, _, rfl, .inl ⟨SqL.of hF1, fun t ht => ?_⟩⟩
    exact q t fs _ (S1.trans (same_new ht _)) (S1.free ht) upd_same (by rw [← eM]; exact Prd.same (same_new ht _) hp1)

theorem ok_is_within (F : Fun K "is_within" "is_within" s_is_within f_is_within d_is_within) (T : Txt K mg f_is_number f_is_from_to f_is_word f_is_tuple_of f_is_run f_is_runs f_is_apart f_many_in f_both f_less f_what_is_left f_is_within f_is_bundling f_laid f_lfeed f_ldraw f_lnames f_lhas f_lmade f_lis_number f_lis_word f_lis_run f_lis_runs f_lalike f_lodd f_lbent f_lspoilt f_lbundling f_lmany f_lis_bundling f_lmenu f_llaid f_llot f_lright f_law)
    (F_less : Fun K "less" "less" s_less f_less d_less) (b_less : Binds K d_less ["one", "other"] []) (G_less : FnOk P w K mg base CX0 (2) f_less d_less ["one", "other"] (spTwo K lessL)) :
    FnOk P w K mg base CX0 (3) f_is_within d_is_within ["one", "other"] (spWithin K) := by
  refine F.ok sc_is_within (fun vs H Q E h => ?_) (fun cdv A outer s H vs Q E hr h => ?_)

  · obtain ⟨a, b, rs, ts, rfl, _⟩ := h
    rfl
  obtain ⟨a, b, rs, ts, rfl, h1, h2, l1, l2, q⟩ := h
  refine ⟨_, (pss_one (ps_ret (pe_cmpR (op_eqP hr) (pe_call G_less hr (by rfl) T.m_less F_less.kp b_less .nil pass0 (pa_cons (pv 0) (pa_cons (pv 1) pa_nil))) (pe_tup pa_nil) (nomark _)))), ?_⟩
  refine ⟨_, rfl, _, rfl, a, b, rs, ts, rfl, h1, h2, l1, l2, fun t qs H1 S1 n1 ht hq => ?_⟩
  refine ⟨(show 0 ≤ sizeLine by decide), fun e ne => ?_⟩
  have N := same_new ne (.tup [])
  refine ⟨rnsD (lessL rs ts), rnsD [], prd_dp (N _ _ ht) (Prd.same N hq), .tup (SqT.of upd_same) .nil, rns_plain _, rns_plain _, rnsD_depth _, ?_⟩
  rw [rns_eqv, Bool.false_xor]
  exact q _ (S1.trans N)

theorem ok_is_bundling (F : Fun K "is_bundling" "is_bundling" s_is_bundling f_is_bundling d_is_bundling) (T : Txt K mg f_is_number f_is_from_to f_is_word f_is_tuple_of f_is_run f_is_runs f_is_apart f_many_in f_both f_less f_what_is_left f_is_within f_is_bundling f_laid f_lfeed f_ldraw f_lnames f_lhas f_lmade f_lis_number f_lis_word f_lis_run f_lis_runs f_lalike f_lodd f_lbent f_lspoilt f_lbundling f_lmany f_lis_bundling f_lmenu f_llaid f_llot f_lright f_law)
    (F_is_tuple_of : Fun K "is_tuple_of" "is_tuple_of" s_is_tuple_of f_is_tuple_of d_is_tuple_of) (b_is_tuple_of : Binds K d_is_tuple_of ["thing", "many"] []) (G_is_tuple_of : FnOk P w K mg base CX0 (6) f_is_tuple_of d_is_tuple_of ["thing", "many"] spKTup)
    (F_is_run : Fun K "is_run" "is_run" s_is_run f_is_run d_is_run) (b_is_run : Binds K d_is_run ["thing"] []) (G_is_run : FnOk P w K mg base CX0 (6) f_is_run d_is_run ["thing"] (spKRun P_is_word))
    (F_is_from_to : Fun K "is_from_to" "is_from_to" s_is_from_to f_is_from_to d_is_from_to) (b_is_from_to : Binds K d_is_from_to ["thing", "least", "most"] []) (G_is_from_to : FnOk P w K mg base CX0 (6) f_is_from_to d_is_from_to ["thing", "least", "most"] spKFrom)
    (F_is_runs : Fun K "is_runs" "is_runs" s_is_runs f_is_runs d_is_runs) (b_is_runs : Binds K d_is_runs ["thing"] []) (G_is_runs : FnOk P w K mg base CX0 (6) f_is_runs d_is_runs ["thing"] (spKRuns P_is_runs P_is_word))
    (F_is_within : Fun K "is_within" "is_within" s_is_within f_is_within d_is_within) (b_is_within : Binds K d_is_within ["one", "other"] []) (G_is_within : FnOk P w K mg base CX0 (6) f_is_within d_is_within ["one", "other"] (spWithin K))
    (F_many_in : Fun K "many_in" "many_in" s_many_in f_many_in d_many_in) (b_many_in : Binds K d_many_in ["runs"] []) (G_many_in : FnOk P w K mg base CX0 (6) f_many_in d_many_in ["runs"] (spMany K P_many_in)) :
    FnOk P w K mg base CX0 (7) f_is_bundling d_is_bundling ["thing"] (spKBund P_is_runs P_is_word P_many_in) := by
  refine F.ok sc_is_bundling (fun vs H Q E h => ?_) (fun cdv A outer s H vs Q E hr h => ?_)

  · obtain ⟨v, d, N, rfl, _⟩ := h
    rfl
  obtain ⟨v, d, N, rfl, hd, sm, co, hP1, hP2, hP3, q⟩ := h
  refine ⟨_, (pss_cons (ps_if (pt_not (pt_val (pe_call G_is_tuple_of hr (by rfl) T.m_is_tuple_of F_is_tuple_of.kp b_is_tuple_of .nil pass0 (pa_cons (pv 0) (pa_cons pe_int pa_nil)))))
  (pss_one (ps_ret pe_bl))
  pss_nil)
  (pss_cons (ps_asg (pv 0) (pg_tup rfl (pgs_cons (pg_name (i := 1) sc_is_bundling.nd rfl (.inl rfl)) (pgs_cons (pg_name (i := 2) sc_is_bundling.nd rfl (.inl rfl)) (pgs_cons (pg_name (i := 3) sc_is_bundling.nd rfl (.inl rfl)) (pgs_cons (pg_name (i := 4) sc_is_bundling.nd rfl (.inl rfl)) pgs_nil))))))
  (pss_cons (ps_if (pt_not (PW.pt (pw_and (pt_val (pe_call G_is_run hr (by rfl) T.m_is_run F_is_run.kp b_is_run .nil pass0 (pa_cons (pv 1) pa_nil))) (pw_and (pt_val (pe_call G_is_from_to hr (by rfl) T.m_is_from_to F_is_from_to.kp b_is_from_to .nil pass0 (pa_cons (pv 2) (pa_cons pe_int (pa_cons pe_int pa_nil))))) (pw_and (pt_val (pe_call G_is_runs hr (by rfl) T.m_is_runs F_is_runs.kp b_is_runs .nil pass0 (pa_cons (pv 3) pa_nil))) (pw_and1 (pt_val (pe_call G_is_run hr (by rfl) T.m_is_run F_is_run.kp b_is_run .nil pass0 (pa_cons (pv 4) pa_nil)))))))))
  (pss_one (ps_ret pe_bl))
  pss_nil)
  (pss_one (ps_ret (pe_and (pe_call G_is_within hr (by rfl) T.m_is_within F_is_within.kp b_is_within .nil pass0 (pa_cons (pv 3) (pa_cons (pe_tup (pa_cons (pv 1) pa_nil)) pa_nil))) (pe_and (pe_cmpR op_ne (pe_ix ix_tup (pv 4) pe_int (fun _ _ => rfl)) (pe_ix ix_tup (pv 1) pe_int (fun _ _ => rfl)) (nomark _)) (pe_one (pe_cmpR op_le (pe_call G_many_in hr (by rfl) T.m_many_in F_many_in.kp b_many_in .nil pass0 (pa_cons (pv 3) pa_nil)) (pe_call G_many_in hr (by rfl) T.m_many_in F_many_in.kp b_many_in .nil pass0 (pa_cons (pe_tup (pa_cons (pv 4) pa_nil)) pa_nil)) (nomark _)))))))))), ?_⟩
  refine ⟨_, rfl, v, d, N, 4, rfl, hd, fun H1 S1 => ?_⟩
  by_cases c : tupN d (4 : Nat) = true
  rotate_left
  · have z := q _ S1
    rw [bundD_no c] at z
    exact ⟨false, congrArg V.bl (Bool.eq_false_iff.mpr c), z⟩
  refine ⟨true, congrArg V.bl c, ?_⟩
  obtain ⟨t, xs, ds, rfl, ht, rfl, hx, l4⟩ := tupN_iff hd c
  obtain ⟨a, b, e, u, rfl⟩ : ∃ a b e u, ds = [a, b, e, u] := by
    match ds, l4 with
    | [a, b, e, u], _ => exact ⟨a, b, e, u, rfl⟩
  match xs, hx with
  | [x, y, z, w'], .cons h1 (.cons h2 (.cons h3 (.cons h4 .nil))) =>
  have i1 : a ∈ [a, b, e, u] := List.mem_cons_self
  have i3 : e ∈ [a, b, e, u] := by simp
  have i4 : u ∈ [a, b, e, u] := by simp
  have ce : cost e ≤ 8000000 := Nat.le_trans (by have := cost_part i3; omega) (Nat.le_trans (show costAll [a, b, e, u] ≤ cost (.tuple [a, b, e, u]) from Nat.le_add_right _ _) co)
  have no : ∀ {Hx : Hp}, Same H Hx → (runD a = false ∨ numD b 1 1000 = false ∨ runsD e = false ∨ runD u = false) → Q (.bl false) Hx := fun S k => by
    have z := q _ S
    have k2 : bundD (.tuple [a, b, e, u]) = false := by
      show ((runD a && runD u) && ((numD b 1 1000 && runsD e) && _)) = false
      rcases k with k | k | k | k <;> rw [k] <;> simp
    rw [k2] at z
    exact z
  refine ⟨_, rfl, t, _, rfl, SqT.of (S1 _ _ ht), rfl, _, _, rfl, _, _, rfl, _, _, rfl, _, _, rfl, rfl, ?_⟩
  refine ⟨_, rfl, x, a, N, rfl, h1.same S1, sm.part i1, S1 _ _ hP2, fun H2 S2 => ?_⟩
  have S12 := S1.trans S2
  refine ⟨_, rfl, ?_⟩
  refine ite2 (fun c1 => ?_) (fun c1 => no S12 (.inl (Bool.eq_false_iff.mpr c1)))
  refine ⟨_, rfl, y, b, N, 1, 1000, rfl, h2.same S12, fun H3 S3 => ?_⟩
  have S13 := S12.trans S3
  refine ⟨_, rfl, ?_⟩
  refine ite2 (fun c2 => ?_) (fun c2 => no S13 (.inr (.inl (Bool.eq_false_iff.mpr c2))))
  refine ⟨_, rfl, z, e, N, rfl, h3.same S13, sm.part i3, S13 _ _ hP1, S13 _ _ hP2, fun H4 S4 => ?_⟩
  have S14 := S13.trans S4
  refine ⟨_, rfl, ?_⟩
  refine ite2 (fun c3 => ?_) (fun c3 => no S14 (.inr (.inr (.inl (Bool.eq_false_iff.mpr c3)))))
  refine ⟨_, rfl, w', u, N, rfl, h4.same S14, sm.part i4, S14 _ _ hP2, fun H5 S5 => ?_⟩
  have S15 := S14.trans S5
  refine ⟨_, rfl, ?_⟩
  refine ite2 (fun c4 => no S15 (.inr (.inr (.inr (by cases e : runD u with | false => rfl | true => rw [e] at c4; cases c4))))) (fun c4 => ?_)
  have c4 : runD u = true := by
    cases e : runD u with
    | true => rfl
    | false => rw [e] at c4; exact absurd rfl c4
  obtain ⟨R, rfl, okR, _⟩ := runD_rn c1
  obtain ⟨T, rfl, okT, _⟩ := runD_rn c4
  obtain ⟨S, rfl, ca, okS⟩ := runsD_rns c3
  obtain ⟨r, rfl, hr⟩ := dn_rn h1
  obtain ⟨s, rfl, hs⟩ := dn_rns (K := K) h3
  obtain ⟨st, rfl, hst⟩ := dn_rn h4
  have few := rns_few ce
  have e0 : bundD (.tuple [rnD R, b, rnsD S, rnD T]) = partsB R S T := by
    show ((runD (rnD R) && runD (rnD T)) && ((numD b 1 1000 && runsD (rnsD S)) && partsB (rnOf (rnD R)) (rnsOf (rnsD S)) (rnOf (rnD T)))) = _
    rw [c1, c2, c3, c4, rnsOf_D]
    rfl
  have z := fun H' S' => q H' S'
  rw [e0] at z
  unfold partsB at z
  rw [← less_within ca okR.2.1] at z
  refine ⟨_, rfl, _, rfl, (show 1 ≤ sizeLine by decide), fun U nU => ?_⟩
  have N6 := S15.trans (same_new nU (.tup [V.ref r]))
  refine ⟨s, U, S, [R], rfl, hs.same N6, ⟨[r], SqT.of upd_same, .cons (N6 _ _ hr) .nil⟩, by omega, (show 1 ≤ 3000 by decide), fun H7 S7 => ?_⟩
  have N7 := N6.trans S7
  refine ⟨_, rfl, ?_⟩
  refine ite2 (fun k1 => ?_) (fun k1 => ?_)
  rotate_left
  · have y := z _ N7
    rw [Bool.eq_false_iff.mpr k1, Bool.false_and] at y
    exact y
  rw [k1, Bool.true_and] at z
  refine ⟨_, rfl, st, _, _, _, rfl, rfl, SqT.of (N7 _ _ hst), rfl, _, rfl, r, _, _, _, rfl, rfl, SqT.of (N7 _ _ hr), rfl, rfl, _, rfl, ?_⟩
  have ev : ∀ x y : Str, decide (V.str x = V.str y) = decide (x = y) := fun x y => by simp
  rw [ev]
  refine ite2 (fun k2 => ?_) (fun k2 => ?_)
  rotate_left
  · have y := z _ N7
    rw [Bool.eq_false_iff.mpr k2, Bool.false_and] at y
    exact y
  rw [k2, Bool.true_and] at z
  refine ⟨_, rfl, s, S, rfl, hs.same N7, by omega, fun x hx => (okS x hx).1, N7 _ _ hP3, fun H8 S8 => ?_⟩
  have N8 := N7.trans S8
  refine ⟨_, rfl, (show 1 ≤ sizeLine by decide), fun W nW => ?_⟩
  have N9 := N8.trans (same_new nW (.tup [V.ref st]))
  refine ⟨W, [T], rfl, ⟨[st], SqT.of upd_same, .cons (N9 _ _ hst) .nil⟩, (show 1 ≤ 3000 by decide), (fun x hx => by rw [List.mem_singleton.mp hx]; exact okT), N9 _ _ hP3, fun H10 S10 => ⟨_, _, rfl, rfl, ?_⟩⟩
  have c0 : cntL [] = 0 := rfl
  have c1' : cntL [T] = cnt T := by
    rw [cntL_cons, c0]
    omega
  rw [c1']
  exact z H10 (N9.trans S10)

theorem ok_laid (F : Fun K "laid" "laid" s_laid f_laid d_laid) (T : Txt K mg f_is_number f_is_from_to f_is_word f_is_tuple_of f_is_run f_is_runs f_is_apart f_many_in f_both f_less f_what_is_left f_is_within f_is_bundling f_laid f_lfeed f_ldraw f_lnames f_lhas f_lmade f_lis_number f_lis_word f_lis_run f_lis_runs f_lalike f_lodd f_lbent f_lspoilt f_lbundling f_lmany f_lis_bundling f_lmenu f_llaid f_llot f_lright f_law)
    (F_both : Fun K "both" "both" s_both f_both d_both) (b_both : Binds K d_both ["one", "other"] []) (G_both : FnOk P w K mg base CX0 (2) f_both d_both ["one", "other"] (spTwo K bothL))
    (F_many_in : Fun K "many_in" "many_in" s_many_in f_many_in d_many_in) (b_many_in : Binds K d_many_in ["runs"] []) (G_many_in : FnOk P w K mg base CX0 (2) f_many_in d_many_in ["runs"] (spMany K P_many_in)) {d_NoStars : FuncData} (G_NoStars : FnOk P w K mg base CX0 1 (He.ma K (He.ga K "NoStars") "__init__") d_NoStars ["self", "many"] (spIn (He.ga K "NoStars") "many")) (b_NoStars : Binds K d_NoStars ["self", "many"] []) :
    FnOk P w K mg base (L2.CX P w) (3) f_laid d_laid ["run", "size", "spoilt", "stars"] (spKLaid K P_many_in (He.ga K "NoStars")) := by
  refine F.okX sc_laid (fun vs H Q E h => ?_) (fun cdv A outer s H vs Q E hr h => ?_)

  · obtain ⟨r, s, t, n, R, Z, c, rfl, _⟩ := h
    rfl
  obtain ⟨r, s, t, n, R, Z, c, rfl, h2, hs, h4, okR, okZ, ca, lc, hP, q, qe⟩ := h
  refine ⟨_, (pss_cons (ps_set (i := 4) sc_laid.nd rfl (.inl rfl) (pe_call G_both hr (by rfl) T.m_both F_both.kp b_both .nil pass0 (pa_cons (pv 2) (pa_cons (pe_tup (pa_cons (pv 0) pa_nil)) pa_nil))))
  (pss_cons (ps_set (i := 5) sc_laid.nd rfl (.inl rfl) (pe_op op_sub (pe_call G_many_in hr (by rfl) T.m_many_in F_many_in.kp b_many_in .nil pass0 (pa_cons (pv 4) pa_nil)) (pe_call G_many_in hr (by rfl) T.m_many_in F_many_in.kp b_many_in .nil pass0 (pa_cons (pe_tup (pa_cons (pv 3) pa_nil)) pa_nil))))
  (pss_cons (ps_if (pt_cmpR op_gt (pv 5) pe_int (nomark _))
  (pss_one (ps_raise rfl (takes_of rfl rfl rfl rfl) (pmk_oex T.rf_NoStars.o T.rf_NoStars.iC T.rf_NoStars.tI G_NoStars (hr.mono (by decide)) b_NoStars .nil pass0 (by rfl) T.m_NoStars (pa_cons (pv 5) pa_nil))))
  pss_nil)
  (pss_one (ps_ret (pe_tup (pa_cons (pv 0) (pa_cons (pv 1) (pa_cons (pv 4) (pa_cons (pv 3) pa_nil)))))))))), ?_⟩
  have bl := both_few c [R]
  have bok := both_rn ca okR
  refine ⟨_, rfl, _, rfl, (show 1 ≤ sizeLine by decide), fun U nU => ?_⟩
  have N1 := same_new nU (.tup [V.ref r])
  refine ⟨s, U, c, [R], rfl, hs.same N1, ⟨[r], SqT.of upd_same, .cons (N1 _ _ h2) .nil⟩, by omega, (show 1 ≤ 3000 by decide), fun w qs H2 S2 nw hw gw => ?_⟩
  generalize bothL c [R] = B at *
  have S02 := N1.trans S2
  have bl : B.length ≤ c.length + 1 := bl
  refine ⟨_, rfl, w, B, rfl, TpAt.of hw gw, by omega, fun x hx => (bok x hx).1, S02 _ _ hP, fun H3 S3 => ?_⟩
  have S03 := S02.trans S3
  refine ⟨_, rfl, (show 1 ≤ sizeLine by decide), fun W nW => ?_⟩
  have N4 := S03.trans (same_new nW (.tup [V.ref t]))
  refine ⟨W, [Z], rfl, ⟨[t], SqT.of upd_same, .cons (N4 _ _ h4) .nil⟩, (show 1 ≤ 3000 by decide), (fun x hx => by rw [List.mem_singleton.mp hx]; exact okZ), N4 _ _ hP, fun H5 S5 => ⟨_, _, rfl, rfl, ?_⟩⟩
  have S05 := N4.trans S5
  have c0 : cntL [] = 0 := rfl
  have c1 : cntL [Z] = cnt Z := by
    rw [cntL_cons, c0]
    omega
  rw [c1]
  refine ⟨_, rfl, _, _, rfl, rfl, _, rfl, ite2 (fun z => ?_) fun z => ?_⟩
  · have z := of_decide_eq_true z
    exact ⟨_, rfl, mk_read fun d H' hd s2 e2 => qe (by omega) d H' (S05.free hd) (S05.trans s2) e2⟩
  have z : ¬ 0 < cntL B - cnt Z := fun k => z (decide_eq_true k)
  refine ⟨_, rfl, _, rfl, _, rfl, _, rfl, (show 4 ≤ sizeLine by decide), fun x nx => ?_⟩
  have N6 := same_new nx (.tup [.ref r, .int n, .ref w, .ref t])
  have S26 := S3.trans ((same_new nW (.tup [V.ref t])).trans (S5.trans N6))
  exact q (by omega) x w _ (S05.trans N6) upd_same ((TpAt.of hw gw).same S26)

theorem ok_lfeed (F : Fun K "_law_feed" "_law_feed" s_lfeed f_lfeed d_lfeed) (T : Txt K mg f_is_number f_is_from_to f_is_word f_is_tuple_of f_is_run f_is_runs f_is_apart f_many_in f_both f_less f_what_is_left f_is_within f_is_bundling f_laid f_lfeed f_ldraw f_lnames f_lhas f_lmade f_lis_number f_lis_word f_lis_run f_lis_runs f_lalike f_lodd f_lbent f_lspoilt f_lbundling f_lmany f_lis_bundling f_lmenu f_llaid f_llot f_lright f_law) :
    FnOk P w K mg base CX0 (1) f_lfeed d_lfeed ["_law_script"] (spFeed K) := by
  refine F.ok sc_lfeed (fun vs H Q E h => ?_) (fun cdv A outer s H vs Q E hr h => ?_)

  · obtain ⟨a, ns, rfl, _⟩ := h
    rfl
  obtain ⟨a, ns, rfl, hs, q⟩ := h
  refine ⟨_, (pss_one (ps_ret (pe_lst (pa_cons (pe_slice sl_list (pv 0) po_none (po_some pe_int)) (pa_cons pe_int (pa_cons pe_int pa_nil)))))), ?_⟩
  refine ⟨_, rfl, _, rfl, a, _, rfl, hs, fun c hc => ?_⟩
  have e : cutV (ns.map V.int) none (some 63) = (ns.take 63).map V.int := (cut_take _ 63).trans (List.map_take).symm
  refine ⟨(show 3 ≤ sizeLine by decide), fun f hf => ?_⟩
  have hcf : c ≠ f := ne_of_none upd_same hf
  refine q f c _ (free_of hf) ((same_new hc _).trans (same_new hf _)) ⟨ns.take 63, 0, 0, upd_same, (upd_ne hcf).trans (by rw [upd_same, e]), List.length_take_le .., Int.le_refl _, Int.le_refl _⟩

theorem ok_ldraw (F : Fun K "_law_draw" "_law_draw" s_ldraw f_ldraw d_ldraw) (T : Txt K mg f_is_number f_is_from_to f_is_word f_is_tuple_of f_is_run f_is_runs f_is_apart f_many_in f_both f_less f_what_is_left f_is_within f_is_bundling f_laid f_lfeed f_ldraw f_lnames f_lhas f_lmade f_lis_number f_lis_word f_lis_run f_lis_runs f_lalike f_lodd f_lbent f_lspoilt f_lbundling f_lmany f_lis_bundling f_lmenu f_llaid f_llot f_lright f_law) :
    FnOk P w K mg base CX0 (1) f_ldraw d_ldraw ["_law_feed_here", "_law_many_here"] spDraw := by
  refine F.ok sc_ldraw (fun vs H Q E h => ?_) (fun cdv A outer s H vs Q E hr h => ?_)

  · obtain ⟨f, c, m, n, rfl, _⟩ := h
    rfl
  obtain ⟨f, c, m, n, rfl, ⟨cells, at_, g, hf, hc, h63, h0, hn⟩, hn2, hm0, hm1, q0⟩ := h
  refine ⟨_, (pss_cons (ps_if (pt_cmpR op_gt (pe_ix ix_list (pv 0) pe_int (fun _ _ => rfl)) pe_int (nomark _))
  (pss_cons (ps_set (i := 2) sc_ldraw.nd rfl (.inl rfl) (pe_op op_modN (pe_ix ix_list (pv 0) pe_int (fun _ _ => rfl)) (pv 1)))
  (pss_cons (ps_asg (pe_op op_fdivN (pe_ix ix_list (pv 0) pe_int (fun _ _ => rfl)) (pv 1)) (pg_sub (pv 0) pe_int set_list))
  (pss_one (ps_ret (pv 2)))))
  pss_nil)
  (pss_cons (ps_set (i := 3) sc_ldraw.nd rfl (.inl rfl) (pe_ix ix_list (pv 0) pe_int (fun _ _ => rfl)))
  (pss_cons (ps_asg (pe_op op_add (pv 3) pe_int) (pg_sub (pv 0) pe_int set_list))
  (pss_cons (ps_set (i := 4) sc_ldraw.nd rfl (.inl rfl) (pe_ifExp (pt_cmpR op_gt (pe_callB call_len_seq (by rfl) T.len (by decide +kernel) (pa_cons (pe_ix ix_list (pv 0) pe_int (fun _ _ => rfl)) pa_nil)) pe_int (nomark _)) (pe_ix ix_list (pe_ix ix_list (pv 0) pe_int (fun _ _ => rfl)) (pe_op op_modN (pv 3) (pe_callB call_len_seq (by rfl) T.len (by decide +kernel) (pa_cons (pe_ix ix_list (pv 0) pe_int (fun _ _ => rfl)) pa_nil))) (fun _ _ => rfl)) pe_int))
  (pss_cons (ps_if (PW.pt (pw_and (pt_cmpR op_ge (pv 4) (pe_op op_pow pe_int pe_int) (nomark _)) (pw_and1 (pt_cmpR op_lt (pv 3) (pe_callB call_len_seq (by rfl) T.len (by decide +kernel) (pa_cons (pe_ix ix_list (pv 0) pe_int (fun _ _ => rfl)) pa_nil)) (nomark _)))))
  (pss_cons (ps_asg (pe_op op_fdivN (pv 4) (pv 1)) (pg_sub (pv 0) pe_int set_list))
  (pss_one (ps_ret (pe_op op_modN (pv 4) (pv 1)))))
  pss_nil)
  (pss_cons (ps_set (i := 5) sc_ldraw.nd rfl (.inl rfl) (pe_op op_modN (pe_op op_mul (pe_op op_add (pe_op op_add (pe_op op_add (pe_op op_modN (pv 4) pe_int) (pe_op op_mul (pe_op op_mul pe_int (pv 3)) (pv 3))) (pe_op op_mul pe_int (pv 3))) pe_int) pe_int) pe_int))
  (pss_cons (ps_set (i := 5) sc_ldraw.nd rfl (.inl rfl) (pe_op op_modN (pe_op op_add (pe_op op_add (pe_op op_mul (pv 5) (pv 5)) (pe_op op_mul pe_int (pv 3))) pe_int) pe_int))
  (pss_one (ps_ret (pe_op op_modN (pe_op op_fdivN (pe_op op_modN (pe_op op_mul (pv 5) pe_int) pe_int) pe_int) (pv 1))))))))))), ?_⟩
  have hcf : c ≠ f := fd_ne hf hc
  have q : ∀ (d : Int) (o : HO), 0 ≤ d → d < m → Fd (upd H f o) f c (n + 1) → Q (.int d) (upd H f o) := fun d o h1 h2 h3 => q0 d _ h1 h2 h3 But.feed fun a ha => by
    rw [upd_ne (fun z => by rw [z, hf] at ha; cases ha)]
    exact ha
  have fdN : ∀ a' g', 0 ≤ a' → a' ≤ n + 1 → Fd (upd H f (.lst [.ref c, .int a', .int g'])) f c (n + 1) := fun a' g' h1 h2 => ⟨cells, a', g', upd_same, (upd_ne hcf).trans hc, h63, h1, h2⟩
  have hc1 : ∀ o, (upd H f o) c = some (.lst (cells.map V.int)) := fun o => (upd_ne hcf).trans hc
  refine ⟨_, rfl, f, _, _, _, rfl, rfl, SqL.of hf, rfl, _, _, rfl, rfl, _, rfl, ?_⟩
  refine ite2 (fun cg => ?_) (fun cg => ?_)
  · refine ⟨_, rfl, f, _, _, _, rfl, rfl, SqL.of hf, rfl, _, rfl, _, _, rfl, rfl, by omega, ?_⟩
    refine ⟨_, rfl, f, _, _, _, rfl, rfl, SqL.of hf, rfl, _, rfl, _, _, rfl, rfl, ⟨by omega, by omega⟩, ?_⟩
    refine ⟨_, rfl, f, _, _, 2, rfl, rfl, hf, rfl, ?_⟩
    refine ⟨_, rfl, ?_⟩
    exact q _ _ (mod_lo _ _ hm0) (mod_hi _ _ hm0) (fdN at_ _ h0 (by omega))
  refine ⟨_, rfl, f, _, _, _, rfl, rfl, SqL.of hf, rfl, ?_⟩
  refine ⟨_, rfl, _, _, rfl, rfl, ?_⟩
  refine ⟨_, rfl, f, _, _, 1, rfl, rfl, hf, rfl, ?_⟩
  refine ⟨_, rfl, f, _, _, _, rfl, rfl, SqL.of upd_same, rfl, c, _, rfl, .inl (SqL.of (hc1 _)), _, _, rfl, rfl, _, rfl, ?_⟩
  refine ite2 (fun c1 => ?_) (fun c1 => ?_)
  · have hl : 0 < cells.length := by
      have := of_decide_eq_true c1
      rw [List.length_map] at this
      omega
    obtain ⟨cell, hcell⟩ := at_mod at_ hl
    refine ⟨_, rfl, f, _, _, _, rfl, rfl, SqL.of upd_same, rfl, _, rfl, _, rfl, f, _, _, _, rfl, rfl, SqL.of upd_same, rfl, c, _, rfl, .inl (SqL.of (hc1 _)), _, _, rfl, rfl, ?_, c, _, _, _, rfl, rfl, SqL.of (hc1 _), hcell, ?_⟩
    · rw [List.length_map]
      omega
    refine ⟨_, rfl, _, _, rfl, rfl, ⟨by decide, by decide, by decide⟩, _, _, rfl, rfl, _, rfl, ?_⟩
    refine ite2 (fun c2 => ?_) (fun c2 => ?_)
    · refine ⟨_, rfl, _, rfl, f, _, _, _, rfl, rfl, SqL.of upd_same, rfl, c, _, rfl, .inl (SqL.of (hc1 _)), _, _, rfl, rfl, _, rfl, ?_⟩
      refine ite2 (fun c3 => ?_) (fun c3 => ?_)
      · refine ⟨_, rfl, _, rfl, _, _, rfl, rfl, ⟨by omega, by omega⟩, ?_⟩
        refine ⟨_, rfl, f, _, _, 2, rfl, rfl, upd_same, rfl, ?_⟩
        refine ⟨_, rfl, _, rfl, _, _, rfl, rfl, by omega, ?_⟩
        rw [upd_upd]
        exact q _ _ (mod_lo _ _ hm0) (mod_hi _ _ hm0) (fdN _ _ (by omega) (by omega))
      ·
        refine ⟨_, rfl, _, _, rfl, rfl, (by show (_ : Int) ≠ 0; decide), _, rfl, _, _, rfl, rfl, .inl ⟨by decide, by decide⟩, _, rfl, _, _, rfl, rfl, .inl ⟨by omega, by omega⟩, _, _, rfl, rfl, _, rfl, _, _, rfl, rfl, .inl ⟨by decide, by decide⟩, _, _, rfl, rfl, _, _, rfl, rfl, _, _, rfl, rfl, .inr ⟨by decide, by decide⟩, _, _, rfl, rfl, (by show (_ : Int) ≠ 0; decide), ?_⟩
        refine ⟨_, rfl, _, rfl, _, _, rfl, rfl, .inl ⟨Int.lt_of_lt_of_le (by decide) (mod_lo _ _ (by decide)), Int.lt_trans (mod_hi _ _ (by decide)) (by decide)⟩, _, rfl, _, _, rfl, rfl, .inl ⟨by decide, by decide⟩, _, _, rfl, rfl, _, _, rfl, rfl, _, _, rfl, rfl, (by show (_ : Int) ≠ 0; decide), ?_⟩
        refine ⟨_, rfl, _, _, rfl, rfl, .inr ⟨by decide, by decide⟩, _, _, rfl, rfl, (by show (_ : Int) ≠ 0; decide), _, _, rfl, rfl, ⟨by decide, by decide⟩, _, rfl, _, _, rfl, rfl, by omega, ?_⟩
        exact q _ _ (mod_lo _ _ hm0) (mod_hi _ _ hm0) (fdN _ _ (by omega) (by omega))
    ·
      refine ⟨_, rfl, _, _, rfl, rfl, (by show (_ : Int) ≠ 0; decide), _, rfl, _, _, rfl, rfl, .inl ⟨by decide, by decide⟩, _, rfl, _, _, rfl, rfl, .inl ⟨by omega, by omega⟩, _, _, rfl, rfl, _, rfl, _, _, rfl, rfl, .inl ⟨by decide, by decide⟩, _, _, rfl, rfl, _, _, rfl, rfl, _, _, rfl, rfl, .inr ⟨by decide, by decide⟩, _, _, rfl, rfl, (by show (_ : Int) ≠ 0; decide), ?_⟩
      refine ⟨_, rfl, _, rfl, _, _, rfl, rfl, .inl ⟨Int.lt_of_lt_of_le (by decide) (mod_lo _ _ (by decide)), Int.lt_trans (mod_hi _ _ (by decide)) (by decide)⟩, _, rfl, _, _, rfl, rfl, .inl ⟨by decide, by decide⟩, _, _, rfl, rfl, _, _, rfl, rfl, _, _, rfl, rfl, (by show (_ : Int) ≠ 0; decide), ?_⟩
      refine ⟨_, rfl, _, _, rfl, rfl, .inr ⟨by decide, by decide⟩, _, _, rfl, rfl, (by show (_ : Int) ≠ 0; decide), _, _, rfl, rfl, ⟨by decide, by decide⟩, _, rfl, _, _, rfl, rfl, by omega, ?_⟩
      exact q _ _ (mod_lo _ _ hm0) (mod_hi _ _ hm0) (fdN _ _ (by omega) (by omega))
  ·
    refine ⟨_, rfl, _, _, rfl, rfl, ⟨by decide, by decide, by decide⟩, _, _, rfl, rfl, _, rfl, ?_⟩
    refine ite2 (fun c2 => ?_) (fun c2 => ?_)
    · refine ⟨_, rfl, _, rfl, f, _, _, _, rfl, rfl, SqL.of upd_same, rfl, c, _, rfl, .inl (SqL.of (hc1 _)), _, _, rfl, rfl, _, rfl, ?_⟩
      refine ite2 (fun c3 => ?_) (fun c3 => ?_)
      · refine ⟨_, rfl, _, rfl, _, _, rfl, rfl, ⟨by omega, by omega⟩, ?_⟩
        refine ⟨_, rfl, f, _, _, 2, rfl, rfl, upd_same, rfl, ?_⟩
        refine ⟨_, rfl, _, rfl, _, _, rfl, rfl, by omega, ?_⟩
        rw [upd_upd]
        exact q _ _ (mod_lo _ _ hm0) (mod_hi _ _ hm0) (fdN _ _ (by omega) (by omega))
      ·
        refine ⟨_, rfl, _, _, rfl, rfl, (by show (_ : Int) ≠ 0; decide), _, rfl, _, _, rfl, rfl, .inl ⟨by decide, by decide⟩, _, rfl, _, _, rfl, rfl, .inl ⟨by omega, by omega⟩, _, _, rfl, rfl, _, rfl, _, _, rfl, rfl, .inl ⟨by decide, by decide⟩, _, _, rfl, rfl, _, _, rfl, rfl, _, _, rfl, rfl, .inr ⟨by decide, by decide⟩, _, _, rfl, rfl, (by show (_ : Int) ≠ 0; decide), ?_⟩
        refine ⟨_, rfl, _, rfl, _, _, rfl, rfl, .inl ⟨Int.lt_of_lt_of_le (by decide) (mod_lo _ _ (by decide)), Int.lt_trans (mod_hi _ _ (by decide)) (by decide)⟩, _, rfl, _, _, rfl, rfl, .inl ⟨by decide, by decide⟩, _, _, rfl, rfl, _, _, rfl, rfl, _, _, rfl, rfl, (by show (_ : Int) ≠ 0; decide), ?_⟩
        refine ⟨_, rfl, _, _, rfl, rfl, .inr ⟨by decide, by decide⟩, _, _, rfl, rfl, (by show (_ : Int) ≠ 0; decide), _, _, rfl, rfl, ⟨by decide, by decide⟩, _, rfl, _, _, rfl, rfl, by omega, ?_⟩
        exact q _ _ (mod_lo _ _ hm0) (mod_hi _ _ hm0) (fdN _ _ (by omega) (by omega))
    ·
      refine ⟨_, rfl, _, _, rfl, rfl, (by show (_ : Int) ≠ 0; decide), _, rfl, _, _, rfl, rfl, .inl ⟨by decide, by decide⟩, _, rfl, _, _, rfl, rfl, .inl ⟨by omega, by omega⟩, _, _, rfl, rfl, _, rfl, _, _, rfl, rfl, .inl ⟨by decide, by decide⟩, _, _, rfl, rfl, _, _, rfl, rfl, _, _, rfl, rfl, .inr ⟨by decide, by decide⟩, _, _, rfl, rfl, (by show (_ : Int) ≠ 0; decide), ?_⟩
      refine ⟨_, rfl, _, rfl, _, _, rfl, rfl, .inl ⟨Int.lt_of_lt_of_le (by decide) (mod_lo _ _ (by decide)), Int.lt_trans (mod_hi _ _ (by decide)) (by decide)⟩, _, rfl, _, _, rfl, rfl, .inl ⟨by decide, by decide⟩, _, _, rfl, rfl, _, _, rfl, rfl, _, _, rfl, rfl, (by show (_ : Int) ≠ 0; decide), ?_⟩
      refine ⟨_, rfl, _, _, rfl, rfl, .inr ⟨by decide, by decide⟩, _, _, rfl, rfl, (by show (_ : Int) ≠ 0; decide), _, _, rfl, rfl, ⟨by decide, by decide⟩, _, rfl, _, _, rfl, rfl, by omega, ?_⟩
      exact q _ _ (mod_lo _ _ hm0) (mod_hi _ _ hm0) (fdN _ _ (by omega) (by omega))

theorem ok_lnames (F : Fun K "_law_names" "_law_names" s_lnames f_lnames d_lnames) (T : Txt K mg f_is_number f_is_from_to f_is_word f_is_tuple_of f_is_run f_is_runs f_is_apart f_many_in f_both f_less f_what_is_left f_is_within f_is_bundling f_laid f_lfeed f_ldraw f_lnames f_lhas f_lmade f_lis_number f_lis_word f_lis_run f_lis_runs f_lalike f_lodd f_lbent f_lspoilt f_lbundling f_lmany f_lis_bundling f_lmenu f_llaid f_llot f_lright f_law)
    (F_ldraw : Fun K "_law_draw" "_law_draw" s_ldraw f_ldraw d_ldraw) (b_ldraw : Binds K d_ldraw ["_law_feed_here", "_law_many_here"] []) (G_ldraw : FnOk P w K mg base CX0 (1) f_ldraw d_ldraw ["_law_feed_here", "_law_many_here"] spDraw) :
    FnOk P w K mg base CX0 (2) f_lnames d_lnames ["_law_feed_here"] spNamesD := by
  refine F.ok sc_lnames (fun vs H Q E h => ?_) (fun cdv A outer s H vs Q E hr h => ?_)

  · obtain ⟨f, c, n, rfl, _⟩ := h
    rfl
  obtain ⟨f, c, n, rfl, hf, hn, q⟩ := h
  refine ⟨_, (pss_cons (ps_set (i := 1) sc_lnames.nd rfl (.inr rfl) pe_str)
  (pss_cons (ps_asg (pe_tup (pa_cons (pe_call G_ldraw hr (by rfl) T.m_ldraw F_ldraw.kp b_ldraw .nil pass0 (pa_cons (pv 0) (pa_cons pe_int pa_nil))) (pa_cons (pe_call G_ldraw hr (by rfl) T.m_ldraw F_ldraw.kp b_ldraw .nil pass0 (pa_cons (pv 0) (pa_cons pe_int pa_nil))) pa_nil))) (pg_tup rfl (pgs_cons (pg_name (i := 2) sc_lnames.nd rfl (.inl rfl)) (pgs_cons (pg_name (i := 3) sc_lnames.nd rfl (.inr rfl)) pgs_nil))))
  (pss_cons (ps_if (pt_cmpR op_eq (pv 2) pe_int (nomark _))
  (pss_one (ps_ret (pe_lc (own := [("_law_many_here", 4)]) (g := (gName 4)) (by rfl) sc_lnames.nd (pi_tup (pe_tup (pa_cons pe_int (pa_cons pe_int (pa_cons pe_int (pa_cons pe_int pa_nil)))))) (blkOk_by (own := [("_law_many_here", 4)]) (N := ["_law_feed_here", "_law_letters", "_law_way", "_law_base", "_law_many_here", "_law_ahead", "_law_k"]) (sc := defScope s_lnames) (by decide +kernel)) (fun _ _ _ _ _ => (pg_name (i := 4) sc_lnames.nd rfl (.inl rfl))) (fun _ _ _ _ _ => pts_nil) (fun _ _ _ _ _ => (pe_op op_repS (pe_ix ix_str (pv 1) (pv 3) (fun _ _ => rfl)) (pv 4))))))
  pss_nil)
  (pss_cons (ps_if (pt_cmpR op_eq (pv 2) pe_int (nomark _))
  (pss_cons (ps_set (i := 5) sc_lnames.nd rfl (.inr rfl) (pe_op op_repS (pe_ix ix_str (pv 1) (pe_call G_ldraw hr (by rfl) T.m_ldraw F_ldraw.kp b_ldraw .nil pass0 (pa_cons (pv 0) (pa_cons pe_int pa_nil))) (fun _ _ => rfl)) (pe_call G_ldraw hr (by rfl) T.m_ldraw F_ldraw.kp b_ldraw .nil pass0 (pa_cons (pv 0) (pa_cons pe_int pa_nil)))))
  (pss_one (ps_ret (pe_lc (own := [("_law_k", 6)]) (g := (gName 6)) (by rfl) sc_lnames.nd (pi_range1 (by rfl) T.range (pa_cons pe_int pa_nil)) (blkOk_by (own := [("_law_k", 6)]) (N := ["_law_feed_here", "_law_letters", "_law_way", "_law_base", "_law_many_here", "_law_ahead", "_law_k"]) (sc := defScope s_lnames) (by decide +kernel)) (fun _ _ _ _ _ => (pg_name (i := 6) sc_lnames.nd rfl (.inl rfl))) (fun _ _ _ _ _ => pts_nil) (fun _ _ _ _ _ => (pe_op op_add_str (pv 5) (pe_ix ix_str (pv 1) (pe_op op_modN (pe_op op_add (pv 3) (pe_op op_mul pe_int (pv 6))) pe_int) (fun _ _ => rfl))))))))
  pss_nil)
  (pss_one (ps_ret (pe_lst (pa_cons pe_str (pa_cons pe_str (pa_cons (pe_op op_add_str (pe_ix ix_str (pv 1) (pv 3) (fun _ _ => rfl)) pe_str) (pa_cons pe_str pa_nil))))))))))), ?_⟩
  refine ⟨_, rfl, f, c, 3, n, rfl, hf, by omega, by decide, by decide, fun w Hw w0 w1 hfw bw _ => ?_⟩
  refine ⟨_, rfl, f, c, 26, n + 1, rfl, hfw, by omega, by decide, by decide, fun d Hd d0 d1 hfd bd _ => ?_⟩
  refine ⟨(show 2 ≤ sizeLine by decide), fun tp htp => ⟨tp, _, rfl, SqT.of upd_same, rfl, _, _, rfl, _, _, rfl, rfl, ?_⟩⟩
  have fd1 := hfd.new (o := .tup [.int w, .int d]) htp
  have B1 : But f H (upd Hd tp (.tup [.int w, .int d])) := (bw.trans bd).trans (But.new htp)
  generalize hH1 : upd Hd tp (.tup [.int w, .int d]) = H1 at *
  obtain ⟨ch, hch, hch2⟩ := abc_at d d0 d1
  refine ⟨_, rfl, rfl, _, rfl, ?_⟩
  refine ite2 (fun c0 => ?_) (fun c0 => ?_)
  · refine ⟨(show 4 ≤ sizeLine by decide), fun tt htt => ⟨tt, rfl, ⟨_, SqT.of upd_same⟩, fun D hD => ?_⟩⟩
    have fd2 := fd1.new (o := .tup [.int 1, .int 2, .int 3, .int 8]) htt
    have neD := fd2.ne hD
    have ft : H1 D = none := free_of hD
    refine lc_tup (K := K) (a := tt) (xs := [(1 : Int), 2, 3, 8].map V.int) (fun i H' => Same (upd H1 tt (.tup [.int 1, .int 2, .int 3, .int 8])) H' ∧ H' D = some (.lst ((([(1 : Int), 2, 3, 8].take i).map fun k => Txt.mul ⟨#[ch]⟩ k).map V.str))) ⟨same_new hD _, upd_same⟩ (fun i H' _ h => SqT.of (h.1 _ _ upd_same)) ?_ ?_
    · rintro i x H2 hx ⟨S2, hD2⟩
      obtain ⟨k, hk, rfl⟩ : ∃ k, [(1 : Int), 2, 3, 8][i]? = some k ∧ x = V.int k := by
        rw [List.getElem?_map] at hx
        cases e : [(1 : Int), 2, 3, 8][i]? with
        | none => rw [e] at hx; cases hx
        | some p => rw [e] at hx; exact ⟨p, rfl, (Option.some.inj hx).symm⟩
      obtain ⟨hi, ek⟩ := List.getElem?_eq_some_iff.mp hk
      have kk : 0 ≤ k ∧ k < 100 := by
        have hm := List.mem_of_getElem? hk
        simp only [List.mem_cons, List.not_mem_nil, or_false] at hm
        omega
      refine ⟨rfl, _, rfl, _, rfl, abc, _, ch, rfl, rfl, (by decide +kernel), hch, _, rfl, _, _, rfl, rfl, mulk_ok ch k kk.1 kk.2, _, hD2, ?_, same_mut S2 hD, ?_⟩
      · rw [List.length_map, List.length_map, List.length_take]
        exact Nat.lt_of_le_of_lt (show _ ≤ 4 from Nat.min_le_right _ _) (by decide)
      · rw [upd_same, List.take_succ_eq_append_getElem hi, List.map_append, List.map_append, ek]
        rfl
    · rintro H2 ⟨S2, hD2⟩
      refine q D _ H2 (((fd1.new htt).same S2).mono (by omega)) ((B1.trans (But.new htt)).trans (But.of_same S2)) neD.1 neD.2 (B1.back fd1 ft) hD2 rfl (fun x hx => ?_) ?_
      · obtain ⟨k, hk, rfl⟩ := List.mem_map.mp hx
        have hk := List.mem_of_mem_take hk
        simp only [List.mem_cons, List.not_mem_nil, or_false] at hk
        exact mulk_nm k hch2 (by omega)
      · exact unl_len (a := 1) (b := 2) (c := 3) (d := 8) (by simp [len_mulk]) (by decide)
  refine ⟨_, rfl, rfl, _, rfl, ?_⟩
  refine ite2 (fun c1 => ?_) (fun c1 => ?_)
  · refine ⟨_, rfl, _, rfl, f, c, 26, n + 1 + 1, rfl, fd1, by omega, by decide, by decide, fun e He e0 e1 hfe be _ => ?_⟩
    obtain ⟨cg, hcg, hcg2⟩ := abc_at e e0 e1
    refine ⟨abc, _, cg, rfl, rfl, (by decide +kernel), hcg, ?_⟩
    refine ⟨_, rfl, f, c, 8, n + 1 + 1 + 1, rfl, hfe, by omega, by decide, by decide, fun k Hk k0 k1 hfk bk _ => ?_⟩
    refine ⟨_, _, rfl, rfl, mulk_ok cg k k0 (by omega), ?_⟩
    have B2 : But f H Hk := B1.trans (be.trans bk)
    refine ⟨4, rfl, by decide, by decide, fun D hD => ?_⟩
    have neD := hfk.ne hD
    refine lc_range (lo := 0) (n := 4) (fun i H' => ∃ xs : List Str, Same Hk H' ∧ H' D = some (.lst (xs.map V.str)) ∧ xs.length = i ∧ (∀ x ∈ xs, NmOk x) ∧ ∀ (j : Nat) (x : Str), xs[j]? = some x → ∃ c : Nat, x.cps.toList.getLast? = some c ∧ (c : Int) = 97 + (d + 3 * (0 + (j : Int))).fmod 26) ⟨[], same_new hD _, upd_same, rfl, (fun _ h => nomatch h), fun _ _ h => nomatch h⟩ ?_ ?_
    · rintro i H2 hi ⟨xs, S2, hD2, len, ok, las⟩
      have m0 := mod_lo (d + 3 * (0 + (i : Int))) 26 (by decide)
      have m1 := mod_hi (d + 3 * (0 + (i : Int))) 26 (by decide)
      obtain ⟨cc, hcc, hcc2, cc3⟩ := abc_atD _ m0 m1
      refine ⟨rfl, _, rfl, _, rfl, _, rfl, _, rfl, _, _, rfl, rfl, .inl ⟨by decide, by decide⟩, _, _, rfl, rfl, _, _, rfl, rfl, (by show (26 : Int) ≠ 0; decide), abc, _, cc, rfl, rfl, (by decide +kernel), hcc, ?_⟩
      have a1 : (Txt.mul ⟨#[cg]⟩ k).length ≤ 7 ∧ ((Txt.mul ⟨#[cg]⟩ k).cps.toList.all fun c => decide (c < 16 ^ 8)) = true := ⟨len_mul_one rfl (show k ≤ ((7 : Nat) : Int) by omega), mul_chr k hcg2⟩
      have a2 := nm_sign hcc2
      refine ⟨_, _, rfl, rfl, Nat.le_trans (Nat.add_le_add a1.1 a2.1) (by decide), _, hD2, ?_, xs ++ [Txt.mul ⟨#[cg]⟩ k ++ ⟨#[cc]⟩], same_mut S2 hD, ?_, ?_, fun y hy => ?_, fun j y hy => ?_⟩
      · rw [List.length_map, len]
        exact Nat.lt_trans hi (by decide)
      · rw [upd_same, List.map_append]
        rfl
      · rw [List.length_append, List.length_singleton, len]
      · rcases List.mem_append.mp hy with hy | hy
        · exact ok y hy
        · rw [List.mem_singleton.mp hy]
          exact nm_app a1 a2 (by decide)
      · by_cases c : j < xs.length
        · rw [List.getElem?_append_left c] at hy
          exact las j y hy
        · rw [List.getElem?_append_right (by omega)] at hy
          have z : j - xs.length = 0 := by
            have := (List.getElem?_eq_some_iff.mp hy).1
            rw [List.length_singleton] at this
            omega
          rw [z] at hy
          cases hy
          have ej : j = i := by omega
          subst ej
          exact ⟨cc, app_last _ _, cc3⟩
    · rintro H2 ⟨xs, S2, hD2, len, ok, las⟩
      exact q D xs H2 ((hfk.same S2).mono (by omega)) (B2.trans (But.of_same S2)) neD.1 neD.2 (B2.back hfk hD) hD2 len ok (unl_last las (Nat.le_of_eq len))
  · have a2 := nm_sign hch2
    have a3 : ((("a" : String) : Str)).length ≤ 1 ∧ ((("a" : String) : Str).cps.toList.all fun c => decide (c < 16 ^ 8)) = true := ⟨by decide +kernel, by decide +kernel⟩
    refine ⟨_, rfl, _, rfl, abc, _, ch, rfl, rfl, (by decide +kernel), hch, _, _, rfl, rfl, Nat.le_trans (Nat.add_le_add a2.1 a3.1) (by decide), (show 4 ≤ sizeLine by decide), fun l hl => ?_⟩
    have nel := fd1.ne hl
    refine q l [("none" : String), ("row" : String), ⟨#[ch]⟩ ++ (("a" : String) : Str), ("zzzzzzzz" : String)] _ ((fd1.new hl).mono (by omega)) (B1.trans (But.new hl)) nel.1 nel.2 (B1.back fd1 hl) upd_same rfl (fun y hy => ?_) (unl_len (a := 4) (b := 3) (c := 2) (d := 8) (by rfl) (by decide))
    simp only [List.mem_cons, List.not_mem_nil, or_false] at hy
    rcases hy with rfl | rfl | rfl | rfl
    · exact ⟨by decide +kernel, by decide +kernel⟩
    · exact ⟨by decide +kernel, by decide +kernel⟩
    · exact nm_app a2 a3 (by decide)
    · exact ⟨by decide +kernel, by decide +kernel⟩

theorem ok_lhas (F : Fun K "_law_has" "_law_has" s_lhas f_lhas d_lhas) (T : Txt K mg f_is_number f_is_from_to f_is_word f_is_tuple_of f_is_run f_is_runs f_is_apart f_many_in f_both f_less f_what_is_left f_is_within f_is_bundling f_laid f_lfeed f_ldraw f_lnames f_lhas f_lmade f_lis_number f_lis_word f_lis_run f_lis_runs f_lalike f_lodd f_lbent f_lspoilt f_lbundling f_lmany f_lis_bundling f_lmenu f_llaid f_llot f_lright f_law) :
    FnOk P w K mg base CX0 (1) f_lhas d_lhas ["_law_runs", "_law_series", "_law_number"] (spHas K) := by
  refine F.ok sc_lhas (fun vs H Q E h => ?_) (fun cdv A outer s H vs Q E hr h => ?_)

  · obtain ⟨b, a, s, n, ps, rs, rfl, _⟩ := h
    rfl
  obtain ⟨b, a, s, n, ps, rs, rfl, hs, hp, hz, q⟩ := h
  refine ⟨_, (pss_one (ps_ret (pe_callB (cr_any rfl) (by rfl) T.any (by decide +kernel) (pa_cons (pe_lc (own := [("_law_one", 3), ("_law_first", 4), ("_law_end", 5)]) (g := (gTup K 3 (gCons (gName 3) (gCons (gName 4) (gCons (gName 5) gNil))))) (by rfl) sc_lhas.nd (pi_seq (pv 0)) (blkOk_by (own := [("_law_one", 3), ("_law_first", 4), ("_law_end", 5)]) (N := ["_law_runs", "_law_series", "_law_number", "_law_one", "_law_first", "_law_end"]) (sc := defScope s_lhas) (by decide +kernel)) (fun _ _ _ _ _ => (pg_tup rfl (pgs_cons (pg_name (i := 3) sc_lhas.nd rfl (.inl rfl)) (pgs_cons (pg_name (i := 4) sc_lhas.nd rfl (.inl rfl)) (pgs_cons (pg_name (i := 5) sc_lhas.nd rfl (.inl rfl)) pgs_nil))))) (fun _ _ _ _ _ => pts_nil) (fun _ _ _ _ _ => (pe_and (pe_cmpR op_eq (pv 3) (pv 1) (nomark _)) (pe_one (pe_chain op_le op_lt (pv 4) (pv 2) (pv 5)))))) pa_nil)))), ?_⟩
  refine ⟨b, _, rfl, a, rfl, ⟨_, hs⟩, fun D hD => ?_⟩
  refine lc_it (walk_seq (b := b) (K := K) (a := a) (xs := ps.map V.ref)) (fun i H' => Same H H' ∧ H' D = some (.lst (((rs.take i).map fun r => decide (r.1 = s) && (decide (r.2.1 ≤ n) && decide (n < r.2.2))).map V.bl))) ⟨same_new hD _, upd_same⟩ (fun i H' _ h => SqB.sm h.1 hs) ?_ ?_
  · rintro i x H1 H2 hi ⟨S1, hD1⟩ ⟨rfl, hx⟩
    obtain ⟨u, hu, rfl⟩ : ∃ u, ps[i]? = some u ∧ x = V.ref u := by
      rw [List.getElem?_map] at hx
      cases e : ps[i]? with
      | none => rw [e] at hx; cases hx
      | some p => rw [e] at hx; exact ⟨p, rfl, (Option.some.inj hx).symm⟩
    obtain ⟨r, hr1, hr2⟩ := Prd.get hp hu
    obtain ⟨hi2, ek⟩ := List.getElem?_eq_some_iff.mp hr1
    refine ⟨u, _, rfl, SqT.of (S1 _ _ hr2), rfl, _, _, rfl, _, _, rfl, _, _, rfl, rfl, rfl, ?_⟩
    refine ⟨_, rfl, _, rfl, rfl, _, rfl, ?_⟩
    have lt : (((rs.take i).map fun r => decide (r.1 = s) && (decide (r.2.1 ≤ n) && decide (n < r.2.2))).map V.bl).length < sizeLine := by
      rw [List.length_map, List.length_map, List.length_take]
      exact Nat.lt_of_le_of_lt (Nat.le_trans (Nat.min_le_right _ _) hz) (by decide)
    have fin : ∀ b : Bool, b = (decide (r.1 = s) && (decide (r.2.1 ≤ n) && decide (n < r.2.2))) → Same H (upd H2 D (.lst ((((rs.take i).map fun r => decide (r.1 = s) && (decide (r.2.1 ≤ n) && decide (n < r.2.2))).map V.bl) ++ [.bl b]))) ∧ upd H2 D (.lst ((((rs.take i).map fun r => decide (r.1 = s) && (decide (r.2.1 ≤ n) && decide (n < r.2.2))).map V.bl) ++ [.bl b])) D = some (.lst (((rs.take (i + 1)).map fun r => decide (r.1 = s) && (decide (r.2.1 ≤ n) && decide (n < r.2.2))).map V.bl)) := fun b hb => by
      refine ⟨same_mut S1 hD, ?_⟩
      rw [upd_same, List.take_succ_eq_append_getElem hi2, List.map_append, List.map_append, ek, hb]
      rfl
    refine ite2 (fun c1 => ?_) (fun c1 => ?_)
    · have e1 : decide (r.1 = s) = true := decide_eq_true (V.str.inj (of_decide_eq_true c1))
      refine ⟨_, rfl, _, rfl, _, _, rfl, rfl, _, rfl, ?_⟩
      refine ite2 (fun c2 => ?_) (fun c2 => ?_)
      · refine ⟨_, rfl, _, _, rfl, rfl, _, hD1, lt, fin _ ?_⟩
        rw [e1, c2]
        rfl
      · refine ⟨_, hD1, lt, fin _ ?_⟩
        rw [e1, Bool.eq_false_iff.mpr c2]
        rfl
    · have e1 : decide (r.1 = s) = false := decide_eq_false fun z => c1 (decide_eq_true (congrArg V.str z))
      refine ⟨_, hD1, lt, fin _ ?_⟩
      rw [e1]
      rfl
  · rintro H1 ⟨S1, hD1⟩
    rw [List.length_map, hp.len, List.take_length] at hD1
    refine ⟨D, _, rfl, SqL.of hD1, ?_⟩
    have e : ((rs.map fun r => decide (r.1 = s) && (decide (r.2.1 ≤ n) && decide (n < r.2.2))).any _root_.id) = hasB rs s n := by
      unfold hasB
      rw [List.any_map]
      rfl
    rw [e]
    exact q H1 S1

theorem ok_lmade (F : Fun K "_law_made" "_law_made" s_lmade f_lmade d_lmade) (T : Txt K mg f_is_number f_is_from_to f_is_word f_is_tuple_of f_is_run f_is_runs f_is_apart f_many_in f_both f_less f_what_is_left f_is_within f_is_bundling f_laid f_lfeed f_ldraw f_lnames f_lhas f_lmade f_lis_number f_lis_word f_lis_run f_lis_runs f_lalike f_lodd f_lbent f_lspoilt f_lbundling f_lmany f_lis_bundling f_lmenu f_llaid f_llot f_lright f_law)
    (F_lhas : Fun K "_law_has" "_law_has" s_lhas f_lhas d_lhas) (b_lhas : Binds K d_lhas ["_law_runs", "_law_series", "_law_number"] []) (G_lhas : FnOk P w K mg base CX0 (1) f_lhas d_lhas ["_law_runs", "_law_series", "_law_number"] (spHas K)) :
    FnOk P w K mg base CX0 (2) f_lmade d_lmade ["_law_lots", "_law_rule"] (spMade K) := by
  refine F.ok sc_lmade (fun vs H Q E h => ?_) (fun cdv A outer s H vs Q E hr h => ?_)

  · obtain ⟨l, ls, rfl, _⟩ := h
    rfl
  obtain ⟨l, ls, rfl, hs, hls, ls0, ls3, full, q⟩ := h
  refine ⟨_, (pss_cons (ps_set (i := 2) sc_lmade.nd rfl (.inl rfl) (pe_lst pa_nil))
  (pss_cons (ps_set (i := 3) sc_lmade.nd rfl (.inl rfl) (pe_lst pa_nil))
  (pss_cons (ps_for PassesOwn.never rfl (pi_list (pv 0)) (pg_name (i := 4) sc_lmade.nd rfl (.inl rfl))
  (pss_cons (ps_expr (pe_bm PySem.F.plainAttrs_list PySem.F.slot_list_extend PySem.F.type_list_extend mt_extend (pv 2) (pa_cons (pe_lc (own := [("_law_run", 5)]) (g := (gName 5)) (by rfl) sc_lmade.nd (pi_seq (pv 4)) (blkOk_by (own := [("_law_run", 5)]) (N := ["_law_lots", "_law_rule", "_law_names_here", "_law_ends", "_law_lot_here", "_law_run", "_law_cuts", "_law_found", "_law_series", "_law_begin", "_law_end", "_law_truths", "_law_good"]) (sc := defScope s_lmade) (by decide +kernel)) (fun _ _ _ _ _ => (pg_name (i := 5) sc_lmade.nd rfl (.inl rfl))) (fun _ _ _ _ _ => pts_nil) (fun _ _ _ _ _ => (pe_ix (show IxR _ (rIxT K) from ix_tup) (pv 5) pe_int (fun _ _ => rfl)))) pa_nil)))
  (pss_one (ps_for PassesOwn.never rfl (pi_seq (pv 4)) (pg_name (i := 5) sc_lmade.nd rfl (.inl rfl))
  (pss_one (ps_expr (pe_bm PySem.F.plainAttrs_list PySem.F.slot_list_extend PySem.F.type_list_extend mt_extend (pv 3) (pa_cons (pe_lst (pa_cons (pe_ix ix_tup (pv 5) pe_int (fun _ _ => rfl)) (pa_cons (pe_ix ix_tup (pv 5) pe_int (fun _ _ => rfl)) pa_nil))) pa_nil))))))))
  (pss_cons (ps_set (i := 6) sc_lmade.nd rfl (.inl rfl) (pe_callB (cr_sortSI hr rfl) (by rfl) T.sorted (by decide +kernel) (pa_cons (pe_callTy (cr_setOf rfl) (by rfl) T.set (by decide +kernel) (pa_cons (pv 3) pa_nil)) pa_nil)))
  (pss_cons (ps_set (i := 7) sc_lmade.nd rfl (.inl rfl) (pe_lst pa_nil))
  (pss_cons (ps_for PassesOwn.never rfl (pi_list (pe_callB (cr_sortSS hr rfl) (by rfl) T.sorted (by decide +kernel) (pa_cons (pe_callTy (cr_setOf rfl) (by rfl) T.set (by decide +kernel) (pa_cons (pv 2) pa_nil)) pa_nil))) (pg_name (i := 8) sc_lmade.nd rfl (.inr rfl))
  (pss_one (ps_for PassesOwn.never rfl (RZ.pi_zipA (by rfl) T.zip (pa_cons (pv 6) (pa_cons (pe_slice sl_list (pv 6) (po_some pe_int) po_none) pa_nil))) (pg_tup rfl (pgs_cons (pg_name (i := 9) sc_lmade.nd rfl (.inr rfl)) (pgs_cons (pg_name (i := 10) sc_lmade.nd rfl (.inl rfl)) pgs_nil)))
  (pss_cons (ps_setLc (i := 11) (own := [("_law_lot_here", 4)]) (g := (gName 4)) (by rfl) sc_lmade.nd rfl rfl (sw_true rfl rfl rfl (by decide +kernel)) (pi_list (pv 0)) (blkOk_by (own := [("_law_lot_here", 4)]) (N := ["_law_lots", "_law_rule", "_law_names_here", "_law_ends", "_law_lot_here", "_law_run", "_law_cuts", "_law_found", "_law_series", "_law_begin", "_law_end", "_law_truths", "_law_good"]) (sc := defScope s_lmade) (by decide +kernel)) (fun _ _ _ _ _ => (pg_name (i := 4) sc_lmade.nd rfl (.inl rfl))) (fun _ _ _ _ _ => pts_nil) (fun _ _ _ _ _ => (pe_call G_lhas hr (by rfl) T.m_lhas F_lhas.kp b_lhas .nil pass0 (pa_cons (pv 4) (pa_cons (pv 8) (pa_cons (pv 9) pa_nil))))))
  (C8.pss_cut (ps_set (i := 12) sc_lmade.nd rfl (.inl rfl) (pe_dget (hu_of hr) (pe_disp (pps_cons pe_str (pe_callB (cr_any rfl) (by rfl) T.any (by decide +kernel) (pa_cons (pv 11) pa_nil)) (pps_cons pe_str (pe_callB (cr_all rfl) (by rfl) T.all (by decide +kernel) (pa_cons (pv 11) pa_nil)) (pps_cons pe_str (pe_and (pe_ix ix_list (pv 11) pe_int (fun _ _ => rfl)) (pe_one (pe_not (pe_callB (cr_any rfl) (by rfl) T.any (by decide +kernel) (pa_cons (pe_slice sl_list (pv 11) (po_some pe_int) po_none) pa_nil))))) pps_nil))) (by rfl) (by rfl) (fun z => by cases z) (by decide)) (pv 1) (fun _ _ => rfl)))
  (pss_one (ps_if (PW.pt (pw_and (pt_val (pv 12)) (pw_and (pt_cmpR op_gt (pe_callB call_len_seq (by rfl) T.len (by decide +kernel) (pa_cons (pv 7) pa_nil)) pe_int (nomark _)) (pw_and (pt_cmpR op_eq (pe_ix ix_tup (pe_ix ix_list (pv 7) (pe_un un_neg pe_int) (fun _ _ => rfl)) pe_int (fun _ _ => rfl)) (pv 8) (nomark _)) (pw_and1 (pt_cmpR op_eq (pe_ix ix_tup (pe_ix ix_list (pv 7) (pe_un un_neg pe_int) (fun _ _ => rfl)) pe_int (fun _ _ => rfl)) (pv 9) (nomark _)))))))
  (pss_one (ps_asg (pe_tup (pa_cons (pv 8) (pa_cons (pe_ix ix_tup (pe_ix ix_list (pv 7) (pe_un un_neg pe_int) (fun _ _ => rfl)) pe_int (fun _ _ => rfl)) (pa_cons (pv 10) pa_nil)))) (pg_sub (pv 7) (pe_un un_neg pe_int) set_list)))
  (pss_one (ps_if (pt_val (pv 12))
  (pss_one (ps_expr (pe_bm PySem.F.plainAttrs_list PySem.F.slot_list_append PySem.F.type_list_append mt_append (pv 7) (pa_cons (pe_tup (pa_cons (pv 8) (pa_cons (pv 9) (pa_cons (pv 10) pa_nil)))) pa_nil))))
  pss_nil)))))))))
  (pss_one (ps_ret (pe_callTy call_tuple_of (by rfl) T.tuple (by decide +kernel) (pa_cons (pv 7) pa_nil)))))))))), ?_⟩
  refine ⟨(show 0 ≤ sizeLine by decide), fun N hN => ⟨(show 0 ≤ sizeLine by decide), fun E1 hE => ?_⟩⟩
  have NE : N ≠ E1 := ne_of_none upd_same hE
  have S0 := (same_new hN (.lst [])).trans (same_new hE (.lst []))
  have hE0 : H E1 = none := free_of hE
  have len3 := allR_len hls
  have lt5 : ∀ n, n ≤ 5000 → n < sizeLine := fun n h => Nat.lt_of_le_of_lt h (by decide)
  refine ⟨_, rfl, l, rfl, ⟨_, SqL.sm S0 hs⟩, for_list (K := K) (a := l) (xs := ls.map fun x => V.ref x.a) (fun i σ H' => ∃ v4 v5 : Option V, σ = [some (.ref l), some (.str (("some" : String) : Str)), some (.ref N), some (.ref E1), v4, v5, none, none, none, none, none, none, none] ∧ Same H H' ∧ H' N = some (.lst (((allR (ls.take i)).map (·.1)).map V.str)) ∧ H' E1 = some (.lst ((endsOf (allR (ls.take i))).map V.int))) ?_ ?_ ?_ ?_⟩
  · exact ⟨none, none, rfl, S0, (upd_ne NE).trans upd_same, upd_same⟩
  · rintro i σ H' _ ⟨_, _, _, S, _⟩
    exact SqL.sm S hs
  · rintro i x σ H1 hx ⟨v4, v5, rfl, S1, hN1, hE1⟩
    obtain ⟨y, hy, rfl⟩ : ∃ y, ls[i]? = some y ∧ x = V.ref y.a := by
      rw [List.getElem?_map] at hx
      cases e : ls[i]? with
      | none => rw [e] at hx; cases hx
      | some p => rw [e] at hx; exact ⟨p, rfl, (Option.some.inj hx).symm⟩
    have iny := List.mem_of_getElem? hy
    have ily := (List.getElem?_eq_some_iff.mp hy).1
    obtain ⟨y1, y2, y3⟩ := hls y iny
    have lenI : (allR (ls.take i)).length ≤ 600 := by
      have z := allR_len (ls := ls.take i) fun x hx => hls x (List.mem_of_mem_take hx)
      rw [List.length_take] at z
      omega
    have more := allR_more hy
    refine ⟨_, rfl, .inl ⟨rfl, _, SqL.of hN1⟩, y.b, _, rfl, y.a, rfl, ⟨_, SqB.sm S1 y1⟩, fun D hD => ?_⟩
    have DN' : N ≠ D := ne_of_none hN1 hD
    have DE' : E1 ≠ D := ne_of_none hE1 hD
    have hD0 := S1.free hD
    refine lc_it (walk_seq (b := y.b) (K := K) (a := y.a) (xs := y.ps.map V.ref)) (fun j H' => Same H1 H' ∧ H' D = some (.lst (((y.rs.take j).map (·.1)).map V.str))) ⟨same_new hD _, upd_same⟩ (fun j H' _ h => SqB.sm (S1.trans h.1) y1) ?_ ?_
    · rintro i x H2 H2' hi ⟨S2, hD2⟩ ⟨rfl, hx⟩
      obtain ⟨u, hu, rfl⟩ : ∃ u, y.ps[i]? = some u ∧ x = V.ref u := by
        rw [List.getElem?_map] at hx
        cases e : y.ps[i]? with
        | none => rw [e] at hx; cases hx
        | some p => rw [e] at hx; exact ⟨p, rfl, (Option.some.inj hx).symm⟩
      obtain ⟨r, hr1, hr2⟩ := Prd.get y2 hu
      obtain ⟨hi2, ek⟩ := List.getElem?_eq_some_iff.mp hr1
      refine ⟨rfl, _, rfl, u, _, _, _, rfl, rfl, SqT.of ((S1.trans S2) _ _ hr2), rfl, _, hD2, ?_, same_mut S2 hD, ?_⟩
      · rw [List.length_map, List.length_map, List.length_take]
        exact lt5 _ (by omega)
      · rw [upd_same, List.take_succ_eq_append_getElem hi2, List.map_append, List.map_append, ek]
        rfl
    rintro H2 ⟨S2, hD2⟩
    rw [List.length_map, y2.len, List.take_length] at hD2
    refine ⟨N, D, _, _, rfl, rfl, S2 _ _ hN1, hD2, ?_, ?_⟩
    · rw [List.length_map, List.length_map, List.length_map, List.length_map]
      exact Nat.le_of_lt (lt5 _ (by omega))
    rw [← List.map_append, ← List.map_append, ← more]
    have S3 : Same H (upd H2 N (.lst (((allR (ls.take (i + 1))).map (·.1)).map V.str))) := same_mut (S1.trans S2) hN
    have hN3 : (upd H2 N (.lst (((allR (ls.take (i + 1))).map (·.1)).map V.str))) N = _ := upd_same
    have hE3 : (upd H2 N (.lst (((allR (ls.take (i + 1))).map (·.1)).map V.str))) E1 = some (.lst ((endsOf (allR (ls.take i))).map V.int)) := (upd_ne (Ne.symm NE)).trans (S2 _ _ hE1)
    generalize upd H2 N (.lst (((allR (ls.take (i + 1))).map (·.1)).map V.str)) = H3 at *
    refine ⟨y.b, _, rfl, y.a, rfl, ⟨_, SqB.sm S3 y1⟩, ?_⟩
    refine for_it (walk_seq (b := y.b) (K := K) (a := y.a) (xs := y.ps.map V.ref)) (fun j σ H' => ∃ v5 : Option V, σ = [some (.ref l), some (.str (("some" : String) : Str)), some (.ref N), some (.ref E1), some (.ref y.a), v5, none, none, none, none, none, none, none] ∧ Same H H' ∧ H' N = some (.lst (((allR (ls.take (i + 1))).map (·.1)).map V.str)) ∧ H' E1 = some (.lst ((endsOf (allR (ls.take i) ++ y.rs.take j)).map V.int))) ?_ ?_ ?_ ?_
    · refine ⟨v5, rfl, S3, hN3, ?_⟩
      rw [List.take_zero, List.append_nil]
      exact hE3
    · rintro j σ H' _ ⟨_, _, S, _⟩
      exact SqB.sm S y1
    · rintro i x σ H4 H4' hi ⟨v5, rfl, S4, hN4, hE4⟩ ⟨rfl, hx⟩
      obtain ⟨u, hu, rfl⟩ : ∃ u, y.ps[i]? = some u ∧ x = V.ref u := by
        rw [List.getElem?_map] at hx
        cases e : y.ps[i]? with
        | none => rw [e] at hx; cases hx
        | some p => rw [e] at hx; exact ⟨p, rfl, (Option.some.inj hx).symm⟩
      obtain ⟨r, hr1, hr2⟩ := Prd.get y2 hu
      obtain ⟨hi2, ek⟩ := List.getElem?_eq_some_iff.mp hr1
      have hu4 := S4 _ _ hr2
      refine ⟨_, rfl, .inl ⟨rfl, _, SqL.of hE4⟩, _, rfl, u, _, _, _, rfl, rfl, SqT.of hu4, rfl, _, rfl, u, _, _, _, rfl, rfl, SqT.of hu4, rfl, (show 2 ≤ sizeLine by decide), fun w hw => ?_⟩
      have N5 := same_new hw (.lst [.int r.2.1, .int r.2.2])
      refine ⟨E1, w, _, _, rfl, rfl, N5 _ _ hE4, upd_same, ?_, _, rfl, same_mut (S4.trans N5) hE0, ?_, ?_⟩
      · rw [List.length_map, endsOf_len, List.length_append, List.length_take]
        exact Nat.le_of_lt (lt5 _ (by show 2 * _ + 2 ≤ _; omega))
      · rw [upd_ne NE]
        exact N5 _ _ hN4
      · rw [upd_same, List.take_succ_eq_append_getElem hi2, ← List.append_assoc, endsOf_app (allR _ ++ _), List.map_append (f := V.int), ek]
        rfl
    · rintro σ H4 ⟨v5, rfl, S4, hN4, hE4⟩
      rw [List.length_map, y2.len, List.take_length, ← more] at hE4
      exact ⟨_, _, rfl, S4, hN4, hE4⟩
  rintro σ H1 ⟨v4, v5, rfl, S1, hN1, hE1⟩
  rw [List.length_map, List.take_length] at hN1 hE1
  generalize hR : allR ls = rs at *
  have rl : rs.length ≤ 600 := by omega
  refine ⟨_, rfl, E1, (endsOf rs).map Sum.inl, rfl, by rw [List.map_map]; exact SqL.of hE1, by rw [List.length_map, endsOf_len]; omega, fun p1 c1 o1 hp1 hc1 ho1 => ?_⟩
  rw [List.length_map, endsOf_len] at hc1
  refine ⟨p1, _, c1, o1, rfl, upd_same, ho1, fun k hk => by obtain ⟨j, _, rfl⟩ := List.mem_map.mp hk; exact ⟨j, rfl⟩, by omega, fun cs C ups mem clen hC => ?_⟩
  have T1 := (same_new hp1 o1).trans (same_new hC (.lst (cs.map V.int)))
  have mem1 : ∀ i, i ∈ cs ↔ i ∈ endsOf rs := fun i => by
    rw [mem]
    exact ⟨fun z => by obtain ⟨j, z1, z2⟩ := List.mem_map.mp z; cases z2; exact z1, fun z => List.mem_map.mpr ⟨i, z, rfl⟩⟩
  have hC2 : (upd (upd H1 p1 o1) C (.lst (cs.map V.int))) C = _ := upd_same
  generalize hH2 : upd (upd H1 p1 o1) C (.lst (cs.map V.int)) = H2 at *
  refine ⟨(show 0 ≤ sizeLine by decide), fun F hF => ?_⟩
  have T2 : Same H1 (upd H2 F (.lst [])) := T1.trans (same_new hF (.lst []))
  have hF0 : H F = none := S1.free (T1.free hF)
  have hC3 : upd H2 F (.lst []) C = some (.lst (cs.map V.int)) := (same_new hF (.lst [])) _ _ hC2
  have hF3 : upd H2 F (.lst []) F = some (.lst []) := upd_same
  have CF : C ≠ F := ne_of_none hC2 hF
  generalize hH3 : upd H2 F (.lst []) = H3 at *
  refine ⟨_, rfl, N, (rs.map (·.1)).map Sum.inr, rfl, by rw [List.map_map]; exact SqL.of (T2 _ _ hN1), by rw [List.length_map, List.length_map]; omega, fun p2 c2 o2 hp2 hc2 ho2 => ?_⟩
  rw [List.length_map, List.length_map] at hc2
  refine ⟨p2, _, c2, o2, rfl, upd_same, ho2, fun k hk => by obtain ⟨j, _, rfl⟩ := List.mem_map.mp hk; exact ⟨j, rfl⟩, by omega, fun ss Z upz memz slen hZ => ?_⟩
  have memz1 : ∀ i, i ∈ ss ↔ i ∈ rs.map (·.1) := fun i => by
    rw [memz]
    exact ⟨fun z => by obtain ⟨j, z1, z2⟩ := List.mem_map.mp z; cases z2; exact z1, fun z => List.mem_map.mpr ⟨i, z, rfl⟩⟩
  have T3 := (same_new hp2 o2).trans (same_new hZ (.lst (ss.map V.str)))
  have hZ0 : H3 Z = none := free_of hZ
  have ends := ends_of memz1 mem1
  have fin := mades_runs full ends upz ups
  refine ⟨Z, rfl, ⟨_, SqL.of upd_same⟩, ?_⟩
  have small : ∀ i j, i ≤ ss.length → j ≤ (pcs cs).length → ∀ s, (((ss.take i).flatMap fun s => goods (hasB rs) s (pcs cs)) ++ goods (hasB rs) s ((pcs cs).take j)).length ≤ 2000000 := fun i j hi hj s => by
    have z1 := flat_goods_len (P := hasB rs) (pcs cs) (ss.take i)
    have z2 := goods_len (P := hasB rs) (s := s) ((pcs cs).take j)
    have z3 := pcs_len cs
    rw [List.length_take] at z1 z2
    have z4 : min i ss.length * (pcs cs).length ≤ 600 * 1200 := Nat.mul_le_mul (by omega) (by omega)
    rw [List.length_append]
    omega
  have bigl : ∀ n, n ≤ 2000000 → n < sizeLine := fun n h => Nat.lt_of_le_of_lt h (by decide)
  refine for_list (K := K) (a := Z) (xs := ss.map V.str) (fun i σ H' => ∃ (fs : List Addr) (u4 u5 u8 u9 u10 u11 u12 : Option V), σ = [some (.ref l), some (.str (("some" : String) : Str)), some (.ref N), some (.ref E1), u4, u5, some (.ref C), some (.ref F), u8, u9, u10, u11, u12] ∧
    Same H H' ∧ H' Z = some (.lst (ss.map V.str)) ∧ H' C = some (.lst (cs.map V.int)) ∧ H' F = some (.lst (fs.map V.ref)) ∧ Prd H' fs (((ss.take i).flatMap fun s => goods (hasB rs) s (pcs cs)).foldl join [])) ?_ ?_ ?_ ?_
  · exact ⟨[], _, _, _, _, _, _, _, rfl, S1.trans (T2.trans T3), upd_same, T3 _ _ hC3, T3 _ _ hF3, .nil⟩
  · rintro i σ H' _ ⟨_, _, _, _, _, _, _, _, _, _, e, _⟩
    exact SqL.of e
  · rintro i x σ H4 hx ⟨fs, u4, u5, u8, u9, u10, u11, u12, rfl, S4, hZ4, hC4, hF4, hp4⟩
    obtain ⟨s, hs1, rfl⟩ : ∃ s, ss[i]? = some s ∧ x = V.str s := by
      rw [List.getElem?_map] at hx
      cases e : ss[i]? with
      | none => rw [e] at hx; cases hx
      | some p => rw [e] at hx; exact ⟨p, rfl, (Option.some.inj hx).symm⟩
    obtain ⟨hi1, es⟩ := List.getElem?_eq_some_iff.mp hs1
    refine ⟨_, rfl, _, rfl, 1, rfl, C, _, rfl, SqL.of hC4, fun C2 hC2' => ?_⟩
    rw [cut_tail, ← List.map_tail]
    have N5 := same_new hC2' (.lst (cs.tail.map V.int))
    have cl : (pcs cs).length = min (cs.map V.int).length (cs.tail.map V.int).length := by
      unfold pcs
      rw [List.length_zip, List.length_map, List.length_map]
    have ZF : Z ≠ F := Ne.symm (ne_of_none hF3 hZ0)
    have C2F : C2 ≠ F := Ne.symm (ne_of_none hF4 hC2')
    refine ⟨C, C2, _, _, rfl, .inl ⟨SqL.of (N5 _ _ hC4), SqL.of upd_same, ?_⟩⟩
    refine for_it (walk_zip (K := K) (a := C) (b := C2) cl) (fun j σ H' => ∃ (fs : List Addr) (u4 u5 u9 u10 u11 u12 : Option V), σ = [some (.ref l), some (.str (("some" : String) : Str)), some (.ref N), some (.ref E1), u4, u5, some (.ref C), some (.ref F), some (.str s), u9, u10, u11, u12] ∧
      Same H H' ∧ H' Z = some (.lst (ss.map V.str)) ∧ H' C = some (.lst (cs.map V.int)) ∧ H' C2 = some (.lst (cs.tail.map V.int)) ∧ H' F = some (.lst (fs.map V.ref)) ∧ Prd H' fs ((((ss.take i).flatMap fun s => goods (hasB rs) s (pcs cs)) ++ goods (hasB rs) s ((pcs cs).take j)).foldl join [])) ?_ ?_ ?_ ?_
    · refine ⟨fs, _, _, _, _, _, _, rfl, S4.trans N5, N5 _ _ hZ4, N5 _ _ hC4, upd_same, N5 _ _ hF4, ?_⟩
      have e0 : goods (hasB rs) s ((pcs cs).take 0) = [] := rfl
      rw [e0, List.append_nil]
      exact Prd.same N5 hp4
    · rintro j σ H' _ ⟨_, _, _, _, _, _, _, _, _, _, e1, e2, _⟩
      exact ⟨SqL.of e1, SqL.of e2⟩
    · rintro j x σ H5 H5' hj ⟨fs, u4, u5, u9, u10, u11, u12, rfl, S5, hZ5, hC5, hC25, hF5, hp5⟩ ⟨tp, b0, e0, rfl, htp, rfl, hb, he⟩
      have hb : (cs.map V.int)[j]? = some b0 := hb
      have he : (cs.tail.map V.int)[j]? = some e0 := he
      obtain ⟨b, hb1, rfl⟩ : ∃ b, cs[j]? = some b ∧ b0 = V.int b := by
        rw [List.getElem?_map] at hb
        cases e : cs[j]? with
        | none => rw [e] at hb; cases hb
        | some p => rw [e] at hb; exact ⟨p, rfl, (Option.some.inj hb).symm⟩
      obtain ⟨e, he1, rfl⟩ : ∃ b, cs.tail[j]? = some b ∧ e0 = V.int b := by
        rw [List.getElem?_map] at he
        cases e : cs.tail[j]? with
        | none => rw [e] at he; cases he
        | some p => rw [e] at he; exact ⟨p, rfl, (Option.some.inj he).symm⟩
      have pj := pcs_get hb1 he1
      have gm := goods_more (P := hasB rs) (s := s) pj
      have N6 := same_new htp (.tup [.int b, .int e])
      refine ⟨tp, _, rfl, SqT.of upd_same, rfl, _, _, rfl, _, _, rfl, rfl, ?_⟩
      refine ⟨_, rfl, l, rfl, ⟨_, SqL.sm (S5.trans N6) hs⟩, fun D hD => ?_⟩
      have hD5 := N6.free hD
      refine lc_list (K := K) (a := l) (xs := ls.map fun x => V.ref x.a) (fun i H' => Same (upd H5 tp (.tup [.int b, .int e])) H' ∧ H' D = some (.lst (((ls.take i).map fun x => hasB x.rs s b).map V.bl))) ⟨same_new hD _, upd_same⟩ (fun i H' _ h => SqL.sm ((S5.trans N6).trans h.1) hs) ?_ ?_
      · rintro i x H6 hx ⟨S6, hD6⟩
        obtain ⟨y, hy, rfl⟩ : ∃ y, ls[i]? = some y ∧ x = V.ref y.a := by
          rw [List.getElem?_map] at hx
          cases e : ls[i]? with
          | none => rw [e] at hx; cases hx
          | some p => rw [e] at hx; exact ⟨p, rfl, (Option.some.inj hx).symm⟩
        obtain ⟨hi2, ey⟩ := List.getElem?_eq_some_iff.mp hy
        obtain ⟨y1, y2, y3⟩ := hls y (List.mem_of_getElem? hy)
        have Sx := (S5.trans N6).trans S6
        refine ⟨rfl, _, rfl, _, rfl, _, rfl, y.b, y.a, s, b, y.ps, y.rs, rfl, SqB.sm Sx y1, Prd.same Sx y2, by omega, fun H7 S7 => ?_⟩
        refine ⟨_, S7 _ _ hD6, ?_, same_mut (S6.trans S7) hD, ?_⟩
        · rw [List.length_map, List.length_map, List.length_take]
          exact lt5 _ (by omega)
        · rw [upd_same, List.take_succ_eq_append_getElem hi2, List.map_append, List.map_append, ey]
          rfl
      rintro H6 ⟨S6, hD6⟩
      rw [List.length_map, List.take_length] at hD6
      have S56 : Same H5 H6 := N6.trans S6
      have hany := hasB_all ls s b
      rw [hR] at hany
      generalize hbs : (ls.map fun x => hasB x.rs s b) = bs at *
      have bl : bs.length = ls.length := by rw [← hbs, List.length_map]
      refine ⟨fun σ H' => ∃ (v11 : Option V), σ = [some (.ref l), some (.str (("some" : String) : Str)), some (.ref N), some (.ref E1), u4, u5, some (.ref C), some (.ref F), some (.str s), some (.int b), some (.int e), v11, some (.bl (hasB rs s b))] ∧ Same H5 H', ?_, ?_⟩
      · intro d hd
        have hd6 : ∀ o, (upd H6 d o) D = some (.lst (bs.map V.bl)) := fun o => (same_new hd o) _ _ hD6
        obtain ⟨b0, br, eb⟩ : ∃ b0 br, bs = b0 :: br := by
          cases bs with
          | nil => exact absurd (show 0 = ls.length from bl) (by omega)
          | cons x r => exact ⟨x, r, rfl⟩
        have at0 : atI (bs.map V.bl) 0 = some (.bl b0) := by
          rw [eb]
          exact atI_nat (j := 0) rfl
        refine ⟨_, rfl, D, bs, rfl, SqL.of (hd6 _), _, rfl, D, bs, rfl, SqL.of (hd6 _), _, rfl, D, _, _, _, rfl, rfl, SqL.of (hd6 _), at0, _, rfl, ?_⟩
        have last : ∀ (Hx : Hp) (c3 : Bool), Same (upd H6 d (.dK [])) Hx → Hx d = some (.dK []) ∧ Same H5 (upd Hx d (.dK (dictM (bs.any _root_.id) (bs.all _root_.id) c3))) ∧ DGet (upd Hx d (.dK (dictM (bs.any _root_.id) (bs.all _root_.id) c3))) d (.str (("some" : String) : Str)) (some (.bl (hasB rs s b))) := fun Hx c3 sx => by
          refine ⟨sx _ _ upd_same, same_mut (S56.trans ((same_new hd _).trans sx)) (S56.free hd), ?_⟩
          have z := DGet.k (k := Sum.inr (("some" : String) : Str)) (upd_same (H := Hx) (a := d) (o := .dK (dictM (bs.any _root_.id) (bs.all _root_.id) c3)))
          have e : valV (dictM (bs.any _root_.id) (bs.all _root_.id) c3) (Sum.inr (("some" : String) : Str)) = some (.bl (hasB rs s b)) := by
            rw [← hany]
            rfl
          rw [e] at z
          exact z
        refine ite2 (fun c1 => ?_) (fun c1 => ?_)
        · refine ⟨_, rfl, 1, rfl, D, _, rfl, SqL.of (hd6 _), fun l2 n2 => ?_⟩
          rw [cut_tail, ← List.map_tail]
          refine ⟨l2, bs.tail, rfl, SqL.of upd_same, _, rfl, ?_⟩
          obtain ⟨k1, k2, k3⟩ := last _ (!(bs.tail.any _root_.id)) (same_new n2 _)
          exact ⟨k1, dictM (bs.any _root_.id) (bs.all _root_.id) (!(bs.tail.any _root_.id)), rfl, (show 3 ≤ 15 by decide), _, rfl, d, _, rfl, k3, _, rfl, k2⟩
        · obtain ⟨k1, k2, k3⟩ := last _ false (Same.refl _)
          exact ⟨k1, dictM (bs.any _root_.id) (bs.all _root_.id) false, rfl, (show 3 ≤ 15 by decide), _, rfl, d, _, rfl, k3, _, rfl, k2⟩
      · rintro σ H7 ⟨v11, rfl, S7⟩
        have hF7 := S7 _ _ hF5
        have hp7 := Prd.same S7 hp5
        have K7 : ∀ (Hx : Hp) (fs' : List Addr), Same H7 Hx → Prd Hx fs' ((((ss.take i).flatMap fun s => goods (hasB rs) s (pcs cs)) ++ goods (hasB rs) s ((pcs cs).take (j + 1))).foldl join []) → ∃ (fs : List Addr) (w4 w5 w9 w10 w11 w12 : Option V), [some (.ref l), some (.str (("some" : String) : Str)), some (.ref N), some (.ref E1), u4, u5, some (.ref C), some (.ref F), some (.str s), some (.int b), some (.int e), v11, some (.bl (hasB rs s b))] = [some (.ref l), some (.str (("some" : String) : Str)), some (.ref N), some (.ref E1), w4, w5, some (.ref C), some (.ref F), some (.str s), w9, w10, w11, w12] ∧
            Same H (upd Hx F (.lst (fs'.map V.ref))) ∧ (upd Hx F (.lst (fs'.map V.ref))) Z = some (.lst (ss.map V.str)) ∧ (upd Hx F (.lst (fs'.map V.ref))) C = some (.lst (cs.map V.int)) ∧ (upd Hx F (.lst (fs'.map V.ref))) C2 = some (.lst (cs.tail.map V.int)) ∧ (upd Hx F (.lst (fs'.map V.ref))) F = some (.lst (fs.map V.ref)) ∧ Prd (upd Hx F (.lst (fs'.map V.ref))) fs ((((ss.take i).flatMap fun s => goods (hasB rs) s (pcs cs)) ++ goods (hasB rs) s ((pcs cs).take (j + 1))).foldl join []) := fun Hx fs' sx hh => by
          have sy := S7.trans sx
          refine ⟨fs', _, _, _, _, _, _, rfl, same_mut (S5.trans sy) hF0, ?_, ?_, ?_, upd_same, Prd.put (sx _ _ hF7) hh⟩
          · rw [upd_ne ZF]
            exact sy _ _ hZ5
          · rw [upd_ne CF]
            exact sy _ _ hC5
          · rw [upd_ne C2F]
            exact sy _ _ hC25
        cases hP : hasB rs s b with
        | false =>
          rw [hP, if_neg (by decide), List.append_nil] at gm
          refine ⟨_, rfl, _, rfl, iteF ?_⟩
          refine ⟨_, rfl, _, rfl, iteF ?_⟩
          exact ⟨fs, _, _, _, _, _, _, rfl, S5.trans S7, S7 _ _ hZ5, S7 _ _ hC5, S7 _ _ hC25, hF7, by rw [gm]; exact hp7⟩
        | true =>
          rw [hP] at K7
          rw [hP, if_pos rfl] at gm
          have step : (((ss.take i).flatMap fun s => goods (hasB rs) s (pcs cs)) ++ goods (hasB rs) s ((pcs cs).take (j + 1))).foldl join [] = join ((((ss.take i).flatMap fun s => goods (hasB rs) s (pcs cs)) ++ goods (hasB rs) s ((pcs cs).take j)).foldl join []) (s, b, e) := by
            rw [gm, ← List.append_assoc, List.foldl_append]
            rfl
          have flen : (fs.map V.ref).length < sizeLine := by
            rw [List.length_map, hp7.len]
            refine bigl _ (Nat.le_trans (fold_join_len _ _) ?_)
            rw [List.length_nil, Nat.zero_add]
            exact small i j (by omega) (by omega) s
          generalize (((ss.take i).flatMap fun s => goods (hasB rs) s (pcs cs)) ++ goods (hasB rs) s ((pcs cs).take j)).foldl join [] = X at *
          refine ⟨_, rfl, _, rfl, iteT ?_⟩
          refine ⟨_, rfl, F, _, rfl, .inl (SqL.of hF7), _, _, rfl, rfl, _, rfl, ?_⟩
          rcases nil_or_snoc fs with rfl | ⟨fi, la, rfl⟩
          · have eX : X = [] := List.eq_nil_of_length_eq_zero (by rw [← hp7.len]; rfl)
            refine ite2 (fun z => absurd (of_decide_eq_true z) (by simp)) (fun _ => ?_)
            refine ⟨_, rfl, _, rfl, iteT ?_⟩
            refine ⟨_, rfl, .inl ⟨rfl, _, SqL.of hF7⟩, _, rfl, _, rfl, _, rfl, (show 3 ≤ sizeLine by decide), fun t ht => ?_⟩
            have nx := same_new ht (.tup (rnV (s, b, e)))
            refine ⟨F, _, _, rfl, rfl, nx _ _ hF7, flen, ?_⟩
            have z := K7 _ ([] ++ [t]) nx (by rw [step, eX, show join [] (s, b, e) = [] ++ [(s, b, e)] from rfl]; exact Prd.app Paired.nil (Prd.one upd_same))
            rw [List.map_append] at z
            exact z
          · obtain ⟨ts, lr, e2, hi2, hla⟩ := Prd.snoc hp7
            have hF8 : H7 F = some (.lst (fi.map V.ref ++ [V.ref la])) := by
              rw [hF7, List.map_append]
              rfl
            refine ite2 (fun _ => ?_) (fun z => absurd z (by simp))
            refine ⟨_, rfl, 1, rfl, F, _, _, _, rfl, rfl, SqL.of hF8, atI_last _ _, la, _, _, _, rfl, rfl, SqT.of hla, rfl, _, rfl, rfl, _, rfl, ?_⟩
            refine ite2 (fun c2 => ?_) (fun c2 => ?_)
            · have d2 : lr.1 = s := V.str.inj (of_decide_eq_true c2)
              refine ⟨_, rfl, 1, rfl, F, _, _, _, rfl, rfl, SqL.of hF8, atI_last _ _, la, _, _, _, rfl, rfl, SqT.of hla, rfl, _, rfl, rfl, _, rfl, ?_⟩
              refine ite2 (fun c3 => ?_) (fun c3 => ?_)
              · have d3 : lr.2.2 = b := V.int.inj (of_decide_eq_true c3)
                have jn : join X (s, b, e) = ts ++ [(s, lr.2.1, e)] := by
                  rw [e2, join_snoc, if_pos ⟨d2, d3⟩]
                refine ⟨_, rfl, _, rfl, 1, rfl, F, _, _, _, rfl, rfl, SqL.of hF8, atI_last _ _, la, _, _, _, rfl, rfl, SqT.of hla, rfl, _, rfl, (show 3 ≤ sizeLine by decide), fun t ht => ?_⟩
                have nx := same_new ht (.tup (rnV (s, lr.2.1, e)))
                refine ⟨_, rfl, 1, rfl, F, _, _, fi.length, rfl, rfl, nx _ _ hF8, ?_, ?_⟩
                · rw [List.length_append, List.length_map, List.length_singleton]
                  exact ix_last _
                · have e3 : (fi.map V.ref ++ [V.ref la]).set fi.length (.ref t) = (fi ++ [t]).map V.ref := by
                    rw [List.set_append_right _ _ (by rw [List.length_map]; exact Nat.le_refl _), List.length_map, Nat.sub_self, List.map_append]
                    rfl
                  rw [e3]
                  exact K7 _ (fi ++ [t]) nx (by rw [step, jn]; exact Prd.app (Prd.same nx hi2) (Prd.one upd_same))
              · have jn : join X (s, b, e) = X ++ [(s, b, e)] := by
                  rw [e2, join_snoc, if_neg (fun z => c3 (decide_eq_true (congrArg V.int z.2)))]
                refine ⟨_, rfl, _, rfl, iteT ?_⟩
                refine ⟨_, rfl, .inl ⟨rfl, _, SqL.of hF7⟩, _, rfl, _, rfl, _, rfl, (show 3 ≤ sizeLine by decide), fun t ht => ?_⟩
                have nx := same_new ht (.tup (rnV (s, b, e)))
                refine ⟨F, _, _, rfl, rfl, nx _ _ hF7, flen, ?_⟩
                have z := K7 _ (fi ++ [la] ++ [t]) nx (by rw [step, jn]; exact Prd.app (Prd.same nx hp7) (Prd.one upd_same))
                rw [List.map_append] at z
                exact z
            · have jn : join X (s, b, e) = X ++ [(s, b, e)] := by
                rw [e2, join_snoc, if_neg (fun z => c2 (decide_eq_true (congrArg V.str z.1)))]
              refine ⟨_, rfl, _, rfl, iteT ?_⟩
              refine ⟨_, rfl, .inl ⟨rfl, _, SqL.of hF7⟩, _, rfl, _, rfl, _, rfl, (show 3 ≤ sizeLine by decide), fun t ht => ?_⟩
              have nx := same_new ht (.tup (rnV (s, b, e)))
              refine ⟨F, _, _, rfl, rfl, nx _ _ hF7, flen, ?_⟩
              have z := K7 _ (fi ++ [la] ++ [t]) nx (by rw [step, jn]; exact Prd.app (Prd.same nx hp7) (Prd.one upd_same))
              rw [List.map_append] at z
              exact z
    · rintro σ H5 ⟨fs, u4, u5, u9, u10, u11, u12, rfl, S5, hZ5, hC5, hC25, hF5, hp5⟩
      refine ⟨fs, _, _, _, _, _, _, _, rfl, S5, hZ5, hC5, hF5, ?_⟩
      rw [List.take_length] at hp5
      rw [List.take_succ_eq_append_getElem hi1, List.flatMap_append, es, List.flatMap_singleton]
      exact hp5
  · rintro σ H4 ⟨fs, u4, u5, u8, u9, u10, u11, u12, rfl, S4, hZ4, hC4, hF4, hp4⟩
    rw [List.length_map, List.take_length] at hp4
    have e : (ss.flatMap fun s => goods (hasB rs) s (pcs cs)).foldl join [] = runsOf rs := fin
    rw [e] at hp4
    refine ⟨_, rfl, F, _, rfl, .inl ⟨SqL.of hF4, fun t ht => ?_⟩⟩
    exact q t fs _ (S4.trans (same_new ht _)) (S4.free ht) upd_same (Prd.same (same_new ht _) hp4)

theorem ok_lmadeA (F : Fun K "_law_made" "_law_made" s_lmade f_lmade d_lmade) (T : Txt K mg f_is_number f_is_from_to f_is_word f_is_tuple_of f_is_run f_is_runs f_is_apart f_many_in f_both f_less f_what_is_left f_is_within f_is_bundling f_laid f_lfeed f_ldraw f_lnames f_lhas f_lmade f_lis_number f_lis_word f_lis_run f_lis_runs f_lalike f_lodd f_lbent f_lspoilt f_lbundling f_lmany f_lis_bundling f_lmenu f_llaid f_llot f_lright f_law)
    (F_lhas : Fun K "_law_has" "_law_has" s_lhas f_lhas d_lhas) (b_lhas : Binds K d_lhas ["_law_runs", "_law_series", "_law_number"] []) (G_lhas : FnOk P w K mg base CX0 (1) f_lhas d_lhas ["_law_runs", "_law_series", "_law_number"] (spHas K)) :
    FnOk P w K mg base CX0 (2) f_lmade d_lmade ["_law_lots", "_law_rule"] (spMadeA K) := by
  refine F.ok sc_lmade (fun vs H Q E h => ?_) (fun cdv A outer s H vs Q E hr h => ?_)

  · obtain ⟨l, x0, x1, rfl, _⟩ := h
    rfl
  obtain ⟨l, x0, x1, rfl, hs, lt0, lt1, ca0, ca1, q⟩ := h
  obtain ⟨ls, els⟩ : ∃ ls, ls = [x0, x1] := ⟨_, rfl⟩
  have hs : SqL K H l (ls.map fun x => V.ref x.a) := by rw [els]; exact hs
  have hls : ∀ x ∈ ls, LtAt K H x := fun x hx => by
    rw [els] at hx
    simp only [List.mem_cons, List.not_mem_nil, or_false] at hx
    rcases hx with rfl | rfl
    · exact lt0
    · exact lt1
  have ls0 : 0 < ls.length := by rw [els]; exact Nat.succ_pos _
  have ls3 : ls.length ≤ 3 := by rw [els]; show 2 ≤ 3; decide
  have eR : allR ls = x0.rs ++ x1.rs := by
    rw [els]
    show x0.rs ++ (x1.rs ++ []) = _
    rw [List.append_nil]
  have full : Full (allR ls) := fun r hr => by
    rw [eR] at hr
    rcases List.mem_append.mp hr with z | z
    · exact ca0.2 r z
    · exact ca1.2 r z
  have hall := fun s b => all_Pq x0 x1 s b
  rw [← els] at hall
  refine ⟨_, (pss_cons (ps_set (i := 2) sc_lmade.nd rfl (.inl rfl) (pe_lst pa_nil))
  (pss_cons (ps_set (i := 3) sc_lmade.nd rfl (.inl rfl) (pe_lst pa_nil))
  (pss_cons (ps_for PassesOwn.never rfl (pi_list (pv 0)) (pg_name (i := 4) sc_lmade.nd rfl (.inl rfl))
  (pss_cons (ps_expr (pe_bm PySem.F.plainAttrs_list PySem.F.slot_list_extend PySem.F.type_list_extend mt_extend (pv 2) (pa_cons (pe_lc (own := [("_law_run", 5)]) (g := (gName 5)) (by rfl) sc_lmade.nd (pi_seq (pv 4)) (blkOk_by (own := [("_law_run", 5)]) (N := ["_law_lots", "_law_rule", "_law_names_here", "_law_ends", "_law_lot_here", "_law_run", "_law_cuts", "_law_found", "_law_series", "_law_begin", "_law_end", "_law_truths", "_law_good"]) (sc := defScope s_lmade) (by decide +kernel)) (fun _ _ _ _ _ => (pg_name (i := 5) sc_lmade.nd rfl (.inl rfl))) (fun _ _ _ _ _ => pts_nil) (fun _ _ _ _ _ => (pe_ix (show IxR _ (rIxT K) from ix_tup) (pv 5) pe_int (fun _ _ => rfl)))) pa_nil)))
  (pss_one (ps_for PassesOwn.never rfl (pi_seq (pv 4)) (pg_name (i := 5) sc_lmade.nd rfl (.inl rfl))
  (pss_one (ps_expr (pe_bm PySem.F.plainAttrs_list PySem.F.slot_list_extend PySem.F.type_list_extend mt_extend (pv 3) (pa_cons (pe_lst (pa_cons (pe_ix ix_tup (pv 5) pe_int (fun _ _ => rfl)) (pa_cons (pe_ix ix_tup (pv 5) pe_int (fun _ _ => rfl)) pa_nil))) pa_nil))))))))
  (pss_cons (ps_set (i := 6) sc_lmade.nd rfl (.inl rfl) (pe_callB (cr_sortSI hr rfl) (by rfl) T.sorted (by decide +kernel) (pa_cons (pe_callTy (cr_setOf rfl) (by rfl) T.set (by decide +kernel) (pa_cons (pv 3) pa_nil)) pa_nil)))
  (pss_cons (ps_set (i := 7) sc_lmade.nd rfl (.inl rfl) (pe_lst pa_nil))
  (pss_cons (ps_for PassesOwn.never rfl (pi_list (pe_callB (cr_sortSS hr rfl) (by rfl) T.sorted (by decide +kernel) (pa_cons (pe_callTy (cr_setOf rfl) (by rfl) T.set (by decide +kernel) (pa_cons (pv 2) pa_nil)) pa_nil))) (pg_name (i := 8) sc_lmade.nd rfl (.inr rfl))
  (pss_one (ps_for PassesOwn.never rfl (RZ.pi_zipA (by rfl) T.zip (pa_cons (pv 6) (pa_cons (pe_slice sl_list (pv 6) (po_some pe_int) po_none) pa_nil))) (pg_tup rfl (pgs_cons (pg_name (i := 9) sc_lmade.nd rfl (.inr rfl)) (pgs_cons (pg_name (i := 10) sc_lmade.nd rfl (.inl rfl)) pgs_nil)))
  (pss_cons (ps_setLc (i := 11) (own := [("_law_lot_here", 4)]) (g := (gName 4)) (by rfl) sc_lmade.nd rfl rfl (sw_true rfl rfl rfl (by decide +kernel)) (pi_list (pv 0)) (blkOk_by (own := [("_law_lot_here", 4)]) (N := ["_law_lots", "_law_rule", "_law_names_here", "_law_ends", "_law_lot_here", "_law_run", "_law_cuts", "_law_found", "_law_series", "_law_begin", "_law_end", "_law_truths", "_law_good"]) (sc := defScope s_lmade) (by decide +kernel)) (fun _ _ _ _ _ => (pg_name (i := 4) sc_lmade.nd rfl (.inl rfl))) (fun _ _ _ _ _ => pts_nil) (fun _ _ _ _ _ => (pe_call G_lhas hr (by rfl) T.m_lhas F_lhas.kp b_lhas .nil pass0 (pa_cons (pv 4) (pa_cons (pv 8) (pa_cons (pv 9) pa_nil))))))
  (C8.pss_cut (ps_set (i := 12) sc_lmade.nd rfl (.inl rfl) (pe_dget (hu_of hr) (pe_disp (pps_cons pe_str (pe_callB (cr_any rfl) (by rfl) T.any (by decide +kernel) (pa_cons (pv 11) pa_nil)) (pps_cons pe_str (pe_callB (cr_all rfl) (by rfl) T.all (by decide +kernel) (pa_cons (pv 11) pa_nil)) (pps_cons pe_str (pe_and (pe_ix ix_list (pv 11) pe_int (fun _ _ => rfl)) (pe_one (pe_not (pe_callB (cr_any rfl) (by rfl) T.any (by decide +kernel) (pa_cons (pe_slice sl_list (pv 11) (po_some pe_int) po_none) pa_nil))))) pps_nil))) (by rfl) (by rfl) (fun z => by cases z) (by decide)) (pv 1) (fun _ _ => rfl)))
  (pss_one (ps_if (PW.pt (pw_and (pt_val (pv 12)) (pw_and (pt_cmpR op_gt (pe_callB call_len_seq (by rfl) T.len (by decide +kernel) (pa_cons (pv 7) pa_nil)) pe_int (nomark _)) (pw_and (pt_cmpR op_eq (pe_ix ix_tup (pe_ix ix_list (pv 7) (pe_un un_neg pe_int) (fun _ _ => rfl)) pe_int (fun _ _ => rfl)) (pv 8) (nomark _)) (pw_and1 (pt_cmpR op_eq (pe_ix ix_tup (pe_ix ix_list (pv 7) (pe_un un_neg pe_int) (fun _ _ => rfl)) pe_int (fun _ _ => rfl)) (pv 9) (nomark _)))))))
  (pss_one (ps_asg (pe_tup (pa_cons (pv 8) (pa_cons (pe_ix ix_tup (pe_ix ix_list (pv 7) (pe_un un_neg pe_int) (fun _ _ => rfl)) pe_int (fun _ _ => rfl)) (pa_cons (pv 10) pa_nil)))) (pg_sub (pv 7) (pe_un un_neg pe_int) set_list)))
  (pss_one (ps_if (pt_val (pv 12))
  (pss_one (ps_expr (pe_bm PySem.F.plainAttrs_list PySem.F.slot_list_append PySem.F.type_list_append mt_append (pv 7) (pa_cons (pe_tup (pa_cons (pv 8) (pa_cons (pv 9) (pa_cons (pv 10) pa_nil)))) pa_nil))))
  pss_nil)))))))))
  (pss_one (ps_ret (pe_callTy call_tuple_of (by rfl) T.tuple (by decide +kernel) (pa_cons (pv 7) pa_nil)))))))))), ?_⟩
  refine ⟨(show 0 ≤ sizeLine by decide), fun N hN => ⟨(show 0 ≤ sizeLine by decide), fun E1 hE => ?_⟩⟩
  have NE : N ≠ E1 := ne_of_none upd_same hE
  have S0 := (same_new hN (.lst [])).trans (same_new hE (.lst []))
  have hE0 : H E1 = none := free_of hE
  have len3 := allR_len hls
  have lt5 : ∀ n, n ≤ 5000 → n < sizeLine := fun n h => Nat.lt_of_le_of_lt h (by decide)
  refine ⟨_, rfl, l, rfl, ⟨_, SqL.sm S0 hs⟩, for_list (K := K) (a := l) (xs := ls.map fun x => V.ref x.a) (fun i σ H' => ∃ v4 v5 : Option V, σ = [some (.ref l), some (.str (("all" : String) : Str)), some (.ref N), some (.ref E1), v4, v5, none, none, none, none, none, none, none] ∧ Same H H' ∧ H' N = some (.lst (((allR (ls.take i)).map (·.1)).map V.str)) ∧ H' E1 = some (.lst ((endsOf (allR (ls.take i))).map V.int))) ?_ ?_ ?_ ?_⟩
  · exact ⟨none, none, rfl, S0, (upd_ne NE).trans upd_same, upd_same⟩
  · rintro i σ H' _ ⟨_, _, _, S, _⟩
    exact SqL.sm S hs
  · rintro i x σ H1 hx ⟨v4, v5, rfl, S1, hN1, hE1⟩
    obtain ⟨y, hy, rfl⟩ : ∃ y, ls[i]? = some y ∧ x = V.ref y.a := by
      rw [List.getElem?_map] at hx
      cases e : ls[i]? with
      | none => rw [e] at hx; cases hx
      | some p => rw [e] at hx; exact ⟨p, rfl, (Option.some.inj hx).symm⟩
    have iny := List.mem_of_getElem? hy
    have ily := (List.getElem?_eq_some_iff.mp hy).1
    obtain ⟨y1, y2, y3⟩ := hls y iny
    have lenI : (allR (ls.take i)).length ≤ 600 := by
      have z := allR_len (ls := ls.take i) fun x hx => hls x (List.mem_of_mem_take hx)
      rw [List.length_take] at z
      omega
    have more := allR_more hy
    refine ⟨_, rfl, .inl ⟨rfl, _, SqL.of hN1⟩, y.b, _, rfl, y.a, rfl, ⟨_, SqB.sm S1 y1⟩, fun D hD => ?_⟩
    have DN' : N ≠ D := ne_of_none hN1 hD
    have DE' : E1 ≠ D := ne_of_none hE1 hD
    have hD0 := S1.free hD
    refine lc_it (walk_seq (b := y.b) (K := K) (a := y.a) (xs := y.ps.map V.ref)) (fun j H' => Same H1 H' ∧ H' D = some (.lst (((y.rs.take j).map (·.1)).map V.str))) ⟨same_new hD _, upd_same⟩ (fun j H' _ h => SqB.sm (S1.trans h.1) y1) ?_ ?_
    · rintro i x H2 H2' hi ⟨S2, hD2⟩ ⟨rfl, hx⟩
      obtain ⟨u, hu, rfl⟩ : ∃ u, y.ps[i]? = some u ∧ x = V.ref u := by
        rw [List.getElem?_map] at hx
        cases e : y.ps[i]? with
        | none => rw [e] at hx; cases hx
        | some p => rw [e] at hx; exact ⟨p, rfl, (Option.some.inj hx).symm⟩
      obtain ⟨r, hr1, hr2⟩ := Prd.get y2 hu
      obtain ⟨hi2, ek⟩ := List.getElem?_eq_some_iff.mp hr1
      refine ⟨rfl, _, rfl, u, _, _, _, rfl, rfl, SqT.of ((S1.trans S2) _ _ hr2), rfl, _, hD2, ?_, same_mut S2 hD, ?_⟩
      · rw [List.length_map, List.length_map, List.length_take]
        exact lt5 _ (by omega)
      · rw [upd_same, List.take_succ_eq_append_getElem hi2, List.map_append, List.map_append, ek]
        rfl
    rintro H2 ⟨S2, hD2⟩
    rw [List.length_map, y2.len, List.take_length] at hD2
    refine ⟨N, D, _, _, rfl, rfl, S2 _ _ hN1, hD2, ?_, ?_⟩
    · rw [List.length_map, List.length_map, List.length_map, List.length_map]
      exact Nat.le_of_lt (lt5 _ (by omega))
    rw [← List.map_append, ← List.map_append, ← more]
    have S3 : Same H (upd H2 N (.lst (((allR (ls.take (i + 1))).map (·.1)).map V.str))) := same_mut (S1.trans S2) hN
    have hN3 : (upd H2 N (.lst (((allR (ls.take (i + 1))).map (·.1)).map V.str))) N = _ := upd_same
    have hE3 : (upd H2 N (.lst (((allR (ls.take (i + 1))).map (·.1)).map V.str))) E1 = some (.lst ((endsOf (allR (ls.take i))).map V.int)) := (upd_ne (Ne.symm NE)).trans (S2 _ _ hE1)
    generalize upd H2 N (.lst (((allR (ls.take (i + 1))).map (·.1)).map V.str)) = H3 at *
    refine ⟨y.b, _, rfl, y.a, rfl, ⟨_, SqB.sm S3 y1⟩, ?_⟩
    refine for_it (walk_seq (b := y.b) (K := K) (a := y.a) (xs := y.ps.map V.ref)) (fun j σ H' => ∃ v5 : Option V, σ = [some (.ref l), some (.str (("all" : String) : Str)), some (.ref N), some (.ref E1), some (.ref y.a), v5, none, none, none, none, none, none, none] ∧ Same H H' ∧ H' N = some (.lst (((allR (ls.take (i + 1))).map (·.1)).map V.str)) ∧ H' E1 = some (.lst ((endsOf (allR (ls.take i) ++ y.rs.take j)).map V.int))) ?_ ?_ ?_ ?_
    · refine ⟨v5, rfl, S3, hN3, ?_⟩
      rw [List.take_zero, List.append_nil]
      exact hE3
    · rintro j σ H' _ ⟨_, _, S, _⟩
      exact SqB.sm S y1
    · rintro i x σ H4 H4' hi ⟨v5, rfl, S4, hN4, hE4⟩ ⟨rfl, hx⟩
      obtain ⟨u, hu, rfl⟩ : ∃ u, y.ps[i]? = some u ∧ x = V.ref u := by
        rw [List.getElem?_map] at hx
        cases e : y.ps[i]? with
        | none => rw [e] at hx; cases hx
        | some p => rw [e] at hx; exact ⟨p, rfl, (Option.some.inj hx).symm⟩
      obtain ⟨r, hr1, hr2⟩ := Prd.get y2 hu
      obtain ⟨hi2, ek⟩ := List.getElem?_eq_some_iff.mp hr1
      have hu4 := S4 _ _ hr2
      refine ⟨_, rfl, .inl ⟨rfl, _, SqL.of hE4⟩, _, rfl, u, _, _, _, rfl, rfl, SqT.of hu4, rfl, _, rfl, u, _, _, _, rfl, rfl, SqT.of hu4, rfl, (show 2 ≤ sizeLine by decide), fun w hw => ?_⟩
      have N5 := same_new hw (.lst [.int r.2.1, .int r.2.2])
      refine ⟨E1, w, _, _, rfl, rfl, N5 _ _ hE4, upd_same, ?_, _, rfl, same_mut (S4.trans N5) hE0, ?_, ?_⟩
      · rw [List.length_map, endsOf_len, List.length_append, List.length_take]
        exact Nat.le_of_lt (lt5 _ (by show 2 * _ + 2 ≤ _; omega))
      · rw [upd_ne NE]
        exact N5 _ _ hN4
      · rw [upd_same, List.take_succ_eq_append_getElem hi2, ← List.append_assoc, endsOf_app (allR _ ++ _), List.map_append (f := V.int), ek]
        rfl
    · rintro σ H4 ⟨v5, rfl, S4, hN4, hE4⟩
      rw [List.length_map, y2.len, List.take_length, ← more] at hE4
      exact ⟨_, _, rfl, S4, hN4, hE4⟩
  rintro σ H1 ⟨v4, v5, rfl, S1, hN1, hE1⟩
  rw [List.length_map, List.take_length] at hN1 hE1
  generalize hR : allR ls = rs at *
  have rl : rs.length ≤ 600 := by omega
  refine ⟨_, rfl, E1, (endsOf rs).map Sum.inl, rfl, by rw [List.map_map]; exact SqL.of hE1, by rw [List.length_map, endsOf_len]; omega, fun p1 c1 o1 hp1 hc1 ho1 => ?_⟩
  rw [List.length_map, endsOf_len] at hc1
  refine ⟨p1, _, c1, o1, rfl, upd_same, ho1, fun k hk => by obtain ⟨j, _, rfl⟩ := List.mem_map.mp hk; exact ⟨j, rfl⟩, by omega, fun cs C ups mem clen hC => ?_⟩
  have T1 := (same_new hp1 o1).trans (same_new hC (.lst (cs.map V.int)))
  have mem1 : ∀ i, i ∈ cs ↔ i ∈ endsOf rs := fun i => by
    rw [mem]
    exact ⟨fun z => by obtain ⟨j, z1, z2⟩ := List.mem_map.mp z; cases z2; exact z1, fun z => List.mem_map.mpr ⟨i, z, rfl⟩⟩
  have hC2 : (upd (upd H1 p1 o1) C (.lst (cs.map V.int))) C = _ := upd_same
  generalize hH2 : upd (upd H1 p1 o1) C (.lst (cs.map V.int)) = H2 at *
  refine ⟨(show 0 ≤ sizeLine by decide), fun F hF => ?_⟩
  have T2 : Same H1 (upd H2 F (.lst [])) := T1.trans (same_new hF (.lst []))
  have hF0 : H F = none := S1.free (T1.free hF)
  have hC3 : upd H2 F (.lst []) C = some (.lst (cs.map V.int)) := (same_new hF (.lst [])) _ _ hC2
  have hF3 : upd H2 F (.lst []) F = some (.lst []) := upd_same
  have CF : C ≠ F := ne_of_none hC2 hF
  generalize hH3 : upd H2 F (.lst []) = H3 at *
  refine ⟨_, rfl, N, (rs.map (·.1)).map Sum.inr, rfl, by rw [List.map_map]; exact SqL.of (T2 _ _ hN1), by rw [List.length_map, List.length_map]; omega, fun p2 c2 o2 hp2 hc2 ho2 => ?_⟩
  rw [List.length_map, List.length_map] at hc2
  refine ⟨p2, _, c2, o2, rfl, upd_same, ho2, fun k hk => by obtain ⟨j, _, rfl⟩ := List.mem_map.mp hk; exact ⟨j, rfl⟩, by omega, fun ss Z upz memz slen hZ => ?_⟩
  have memz1 : ∀ i, i ∈ ss ↔ i ∈ rs.map (·.1) := fun i => by
    rw [memz]
    exact ⟨fun z => by obtain ⟨j, z1, z2⟩ := List.mem_map.mp z; cases z2; exact z1, fun z => List.mem_map.mpr ⟨i, z, rfl⟩⟩
  have T3 := (same_new hp2 o2).trans (same_new hZ (.lst (ss.map V.str)))
  have hZ0 : H3 Z = none := free_of hZ
  have ends := ends_of memz1 mem1
  rw [eR] at ends
  have fin := three_made ca0 ca1 ends.left ends.right upz ups 1
  refine ⟨Z, rfl, ⟨_, SqL.of upd_same⟩, ?_⟩
  have small : ∀ i j, i ≤ ss.length → j ≤ (pcs cs).length → ∀ s, (((ss.take i).flatMap fun s => goods ((Pq x0.rs x1.rs 1)) s (pcs cs)) ++ goods ((Pq x0.rs x1.rs 1)) s ((pcs cs).take j)).length ≤ 2000000 := fun i j hi hj s => by
    have z1 := flat_goods_len (P := (Pq x0.rs x1.rs 1)) (pcs cs) (ss.take i)
    have z2 := goods_len (P := (Pq x0.rs x1.rs 1)) (s := s) ((pcs cs).take j)
    have z3 := pcs_len cs
    rw [List.length_take] at z1 z2
    have z4 : min i ss.length * (pcs cs).length ≤ 600 * 1200 := Nat.mul_le_mul (by omega) (by omega)
    rw [List.length_append]
    omega
  have bigl : ∀ n, n ≤ 2000000 → n < sizeLine := fun n h => Nat.lt_of_le_of_lt h (by decide)
  refine for_list (K := K) (a := Z) (xs := ss.map V.str) (fun i σ H' => ∃ (fs : List Addr) (u4 u5 u8 u9 u10 u11 u12 : Option V), σ = [some (.ref l), some (.str (("all" : String) : Str)), some (.ref N), some (.ref E1), u4, u5, some (.ref C), some (.ref F), u8, u9, u10, u11, u12] ∧
    Same H H' ∧ H' Z = some (.lst (ss.map V.str)) ∧ H' C = some (.lst (cs.map V.int)) ∧ H' F = some (.lst (fs.map V.ref)) ∧ Prd H' fs (((ss.take i).flatMap fun s => goods ((Pq x0.rs x1.rs 1)) s (pcs cs)).foldl join [])) ?_ ?_ ?_ ?_
  · exact ⟨[], _, _, _, _, _, _, _, rfl, S1.trans (T2.trans T3), upd_same, T3 _ _ hC3, T3 _ _ hF3, .nil⟩
  · rintro i σ H' _ ⟨_, _, _, _, _, _, _, _, _, _, e, _⟩
    exact SqL.of e
  · rintro i x σ H4 hx ⟨fs, u4, u5, u8, u9, u10, u11, u12, rfl, S4, hZ4, hC4, hF4, hp4⟩
    obtain ⟨s, hs1, rfl⟩ : ∃ s, ss[i]? = some s ∧ x = V.str s := by
      rw [List.getElem?_map] at hx
      cases e : ss[i]? with
      | none => rw [e] at hx; cases hx
      | some p => rw [e] at hx; exact ⟨p, rfl, (Option.some.inj hx).symm⟩
    obtain ⟨hi1, es⟩ := List.getElem?_eq_some_iff.mp hs1
    refine ⟨_, rfl, _, rfl, 1, rfl, C, _, rfl, SqL.of hC4, fun C2 hC2' => ?_⟩
    rw [cut_tail, ← List.map_tail]
    have N5 := same_new hC2' (.lst (cs.tail.map V.int))
    have cl : (pcs cs).length = min (cs.map V.int).length (cs.tail.map V.int).length := by
      unfold pcs
      rw [List.length_zip, List.length_map, List.length_map]
    have ZF : Z ≠ F := Ne.symm (ne_of_none hF3 hZ0)
    have C2F : C2 ≠ F := Ne.symm (ne_of_none hF4 hC2')
    refine ⟨C, C2, _, _, rfl, .inl ⟨SqL.of (N5 _ _ hC4), SqL.of upd_same, ?_⟩⟩
    refine for_it (walk_zip (K := K) (a := C) (b := C2) cl) (fun j σ H' => ∃ (fs : List Addr) (u4 u5 u9 u10 u11 u12 : Option V), σ = [some (.ref l), some (.str (("all" : String) : Str)), some (.ref N), some (.ref E1), u4, u5, some (.ref C), some (.ref F), some (.str s), u9, u10, u11, u12] ∧
      Same H H' ∧ H' Z = some (.lst (ss.map V.str)) ∧ H' C = some (.lst (cs.map V.int)) ∧ H' C2 = some (.lst (cs.tail.map V.int)) ∧ H' F = some (.lst (fs.map V.ref)) ∧ Prd H' fs ((((ss.take i).flatMap fun s => goods ((Pq x0.rs x1.rs 1)) s (pcs cs)) ++ goods ((Pq x0.rs x1.rs 1)) s ((pcs cs).take j)).foldl join [])) ?_ ?_ ?_ ?_
    · refine ⟨fs, _, _, _, _, _, _, rfl, S4.trans N5, N5 _ _ hZ4, N5 _ _ hC4, upd_same, N5 _ _ hF4, ?_⟩
      have e0 : goods ((Pq x0.rs x1.rs 1)) s ((pcs cs).take 0) = [] := rfl
      rw [e0, List.append_nil]
      exact Prd.same N5 hp4
    · rintro j σ H' _ ⟨_, _, _, _, _, _, _, _, _, _, e1, e2, _⟩
      exact ⟨SqL.of e1, SqL.of e2⟩
    · rintro j x σ H5 H5' hj ⟨fs, u4, u5, u9, u10, u11, u12, rfl, S5, hZ5, hC5, hC25, hF5, hp5⟩ ⟨tp, b0, e0, rfl, htp, rfl, hb, he⟩
      have hb : (cs.map V.int)[j]? = some b0 := hb
      have he : (cs.tail.map V.int)[j]? = some e0 := he
      obtain ⟨b, hb1, rfl⟩ : ∃ b, cs[j]? = some b ∧ b0 = V.int b := by
        rw [List.getElem?_map] at hb
        cases e : cs[j]? with
        | none => rw [e] at hb; cases hb
        | some p => rw [e] at hb; exact ⟨p, rfl, (Option.some.inj hb).symm⟩
      obtain ⟨e, he1, rfl⟩ : ∃ b, cs.tail[j]? = some b ∧ e0 = V.int b := by
        rw [List.getElem?_map] at he
        cases e : cs.tail[j]? with
        | none => rw [e] at he; cases he
        | some p => rw [e] at he; exact ⟨p, rfl, (Option.some.inj he).symm⟩
      have pj := pcs_get hb1 he1
      have gm := goods_more (P := (Pq x0.rs x1.rs 1)) (s := s) pj
      have N6 := same_new htp (.tup [.int b, .int e])
      refine ⟨tp, _, rfl, SqT.of upd_same, rfl, _, _, rfl, _, _, rfl, rfl, ?_⟩
      refine ⟨_, rfl, l, rfl, ⟨_, SqL.sm (S5.trans N6) hs⟩, fun D hD => ?_⟩
      have hD5 := N6.free hD
      refine lc_list (K := K) (a := l) (xs := ls.map fun x => V.ref x.a) (fun i H' => Same (upd H5 tp (.tup [.int b, .int e])) H' ∧ H' D = some (.lst (((ls.take i).map fun x => hasB x.rs s b).map V.bl))) ⟨same_new hD _, upd_same⟩ (fun i H' _ h => SqL.sm ((S5.trans N6).trans h.1) hs) ?_ ?_
      · rintro i x H6 hx ⟨S6, hD6⟩
        obtain ⟨y, hy, rfl⟩ : ∃ y, ls[i]? = some y ∧ x = V.ref y.a := by
          rw [List.getElem?_map] at hx
          cases e : ls[i]? with
          | none => rw [e] at hx; cases hx
          | some p => rw [e] at hx; exact ⟨p, rfl, (Option.some.inj hx).symm⟩
        obtain ⟨hi2, ey⟩ := List.getElem?_eq_some_iff.mp hy
        obtain ⟨y1, y2, y3⟩ := hls y (List.mem_of_getElem? hy)
        have Sx := (S5.trans N6).trans S6
        refine ⟨rfl, _, rfl, _, rfl, _, rfl, y.b, y.a, s, b, y.ps, y.rs, rfl, SqB.sm Sx y1, Prd.same Sx y2, by omega, fun H7 S7 => ?_⟩
        refine ⟨_, S7 _ _ hD6, ?_, same_mut (S6.trans S7) hD, ?_⟩
        · rw [List.length_map, List.length_map, List.length_take]
          exact lt5 _ (by omega)
        · rw [upd_same, List.take_succ_eq_append_getElem hi2, List.map_append, List.map_append, ey]
          rfl
      rintro H6 ⟨S6, hD6⟩
      rw [List.length_map, List.take_length] at hD6
      have S56 : Same H5 H6 := N6.trans S6
      have hany := hall s b
      generalize hbs : (ls.map fun x => hasB x.rs s b) = bs at *
      have bl : bs.length = ls.length := by rw [← hbs, List.length_map]
      refine ⟨fun σ H' => ∃ (v11 : Option V), σ = [some (.ref l), some (.str (("all" : String) : Str)), some (.ref N), some (.ref E1), u4, u5, some (.ref C), some (.ref F), some (.str s), some (.int b), some (.int e), v11, some (.bl ((Pq x0.rs x1.rs 1) s b))] ∧ Same H5 H', ?_, ?_⟩
      · intro d hd
        have hd6 : ∀ o, (upd H6 d o) D = some (.lst (bs.map V.bl)) := fun o => (same_new hd o) _ _ hD6
        obtain ⟨b0, br, eb⟩ : ∃ b0 br, bs = b0 :: br := by
          cases bs with
          | nil => exact absurd (show 0 = ls.length from bl) (by omega)
          | cons x r => exact ⟨x, r, rfl⟩
        have at0 : atI (bs.map V.bl) 0 = some (.bl b0) := by
          rw [eb]
          exact atI_nat (j := 0) rfl
        refine ⟨_, rfl, D, bs, rfl, SqL.of (hd6 _), _, rfl, D, bs, rfl, SqL.of (hd6 _), _, rfl, D, _, _, _, rfl, rfl, SqL.of (hd6 _), at0, _, rfl, ?_⟩
        have last : ∀ (Hx : Hp) (c3 : Bool), Same (upd H6 d (.dK [])) Hx → Hx d = some (.dK []) ∧ Same H5 (upd Hx d (.dK (dictM (bs.any _root_.id) (bs.all _root_.id) c3))) ∧ DGet (upd Hx d (.dK (dictM (bs.any _root_.id) (bs.all _root_.id) c3))) d (.str (("all" : String) : Str)) (some (.bl ((Pq x0.rs x1.rs 1) s b))) := fun Hx c3 sx => by
          refine ⟨sx _ _ upd_same, same_mut (S56.trans ((same_new hd _).trans sx)) (S56.free hd), ?_⟩
          have z := DGet.k (k := Sum.inr (("all" : String) : Str)) (upd_same (H := Hx) (a := d) (o := .dK (dictM (bs.any _root_.id) (bs.all _root_.id) c3)))
          have e : valV (dictM (bs.any _root_.id) (bs.all _root_.id) c3) (Sum.inr (("all" : String) : Str)) = some (.bl ((Pq x0.rs x1.rs 1) s b)) := by
            rw [← hany]
            rfl
          rw [e] at z
          exact z
        refine ite2 (fun c1 => ?_) (fun c1 => ?_)
        · refine ⟨_, rfl, 1, rfl, D, _, rfl, SqL.of (hd6 _), fun l2 n2 => ?_⟩
          rw [cut_tail, ← List.map_tail]
          refine ⟨l2, bs.tail, rfl, SqL.of upd_same, _, rfl, ?_⟩
          obtain ⟨k1, k2, k3⟩ := last _ (!(bs.tail.any _root_.id)) (same_new n2 _)
          exact ⟨k1, dictM (bs.any _root_.id) (bs.all _root_.id) (!(bs.tail.any _root_.id)), rfl, (show 3 ≤ 15 by decide), _, rfl, d, _, rfl, k3, _, rfl, k2⟩
        · obtain ⟨k1, k2, k3⟩ := last _ false (Same.refl _)
          exact ⟨k1, dictM (bs.any _root_.id) (bs.all _root_.id) false, rfl, (show 3 ≤ 15 by decide), _, rfl, d, _, rfl, k3, _, rfl, k2⟩
      · rintro σ H7 ⟨v11, rfl, S7⟩
        have hF7 := S7 _ _ hF5
        have hp7 := Prd.same S7 hp5
        have K7 : ∀ (Hx : Hp) (fs' : List Addr), Same H7 Hx → Prd Hx fs' ((((ss.take i).flatMap fun s => goods ((Pq x0.rs x1.rs 1)) s (pcs cs)) ++ goods ((Pq x0.rs x1.rs 1)) s ((pcs cs).take (j + 1))).foldl join []) → ∃ (fs : List Addr) (w4 w5 w9 w10 w11 w12 : Option V), [some (.ref l), some (.str (("all" : String) : Str)), some (.ref N), some (.ref E1), u4, u5, some (.ref C), some (.ref F), some (.str s), some (.int b), some (.int e), v11, some (.bl ((Pq x0.rs x1.rs 1) s b))] = [some (.ref l), some (.str (("all" : String) : Str)), some (.ref N), some (.ref E1), w4, w5, some (.ref C), some (.ref F), some (.str s), w9, w10, w11, w12] ∧
            Same H (upd Hx F (.lst (fs'.map V.ref))) ∧ (upd Hx F (.lst (fs'.map V.ref))) Z = some (.lst (ss.map V.str)) ∧ (upd Hx F (.lst (fs'.map V.ref))) C = some (.lst (cs.map V.int)) ∧ (upd Hx F (.lst (fs'.map V.ref))) C2 = some (.lst (cs.tail.map V.int)) ∧ (upd Hx F (.lst (fs'.map V.ref))) F = some (.lst (fs.map V.ref)) ∧ Prd (upd Hx F (.lst (fs'.map V.ref))) fs ((((ss.take i).flatMap fun s => goods ((Pq x0.rs x1.rs 1)) s (pcs cs)) ++ goods ((Pq x0.rs x1.rs 1)) s ((pcs cs).take (j + 1))).foldl join []) := fun Hx fs' sx hh => by
          have sy := S7.trans sx
          refine ⟨fs', _, _, _, _, _, _, rfl, same_mut (S5.trans sy) hF0, ?_, ?_, ?_, upd_same, Prd.put (sx _ _ hF7) hh⟩
          · rw [upd_ne ZF]
            exact sy _ _ hZ5
          · rw [upd_ne CF]
            exact sy _ _ hC5
          · rw [upd_ne C2F]
            exact sy _ _ hC25
        cases hP : (Pq x0.rs x1.rs 1) s b with
        | false =>
          rw [hP, if_neg (by decide), List.append_nil] at gm
          refine ⟨_, rfl, _, rfl, iteF ?_⟩
          refine ⟨_, rfl, _, rfl, iteF ?_⟩
          exact ⟨fs, _, _, _, _, _, _, rfl, S5.trans S7, S7 _ _ hZ5, S7 _ _ hC5, S7 _ _ hC25, hF7, by rw [gm]; exact hp7⟩
        | true =>
          rw [hP] at K7
          rw [hP, if_pos rfl] at gm
          have step : (((ss.take i).flatMap fun s => goods ((Pq x0.rs x1.rs 1)) s (pcs cs)) ++ goods ((Pq x0.rs x1.rs 1)) s ((pcs cs).take (j + 1))).foldl join [] = join ((((ss.take i).flatMap fun s => goods ((Pq x0.rs x1.rs 1)) s (pcs cs)) ++ goods ((Pq x0.rs x1.rs 1)) s ((pcs cs).take j)).foldl join []) (s, b, e) := by
            rw [gm, ← List.append_assoc, List.foldl_append]
            rfl
          have flen : (fs.map V.ref).length < sizeLine := by
            rw [List.length_map, hp7.len]
            refine bigl _ (Nat.le_trans (fold_join_len _ _) ?_)
            rw [List.length_nil, Nat.zero_add]
            exact small i j (by omega) (by omega) s
          generalize (((ss.take i).flatMap fun s => goods ((Pq x0.rs x1.rs 1)) s (pcs cs)) ++ goods ((Pq x0.rs x1.rs 1)) s ((pcs cs).take j)).foldl join [] = X at *
          refine ⟨_, rfl, _, rfl, iteT ?_⟩
          refine ⟨_, rfl, F, _, rfl, .inl (SqL.of hF7), _, _, rfl, rfl, _, rfl, ?_⟩
          rcases nil_or_snoc fs with rfl | ⟨fi, la, rfl⟩
          · have eX : X = [] := List.eq_nil_of_length_eq_zero (by rw [← hp7.len]; rfl)
            refine ite2 (fun z => absurd (of_decide_eq_true z) (by simp)) (fun _ => ?_)
            refine ⟨_, rfl, _, rfl, iteT ?_⟩
            refine ⟨_, rfl, .inl ⟨rfl, _, SqL.of hF7⟩, _, rfl, _, rfl, _, rfl, (show 3 ≤ sizeLine by decide), fun t ht => ?_⟩
            have nx := same_new ht (.tup (rnV (s, b, e)))
            refine ⟨F, _, _, rfl, rfl, nx _ _ hF7, flen, ?_⟩
            have z := K7 _ ([] ++ [t]) nx (by rw [step, eX, show join [] (s, b, e) = [] ++ [(s, b, e)] from rfl]; exact Prd.app Paired.nil (Prd.one upd_same))
            rw [List.map_append] at z
            exact z
          · obtain ⟨ts, lr, e2, hi2, hla⟩ := Prd.snoc hp7
            have hF8 : H7 F = some (.lst (fi.map V.ref ++ [V.ref la])) := by
              rw [hF7, List.map_append]
              rfl
            refine ite2 (fun _ => ?_) (fun z => absurd z (by simp))
            refine ⟨_, rfl, 1, rfl, F, _, _, _, rfl, rfl, SqL.of hF8, atI_last _ _, la, _, _, _, rfl, rfl, SqT.of hla, rfl, _, rfl, rfl, _, rfl, ?_⟩
            refine ite2 (fun c2 => ?_) (fun c2 => ?_)
            · have d2 : lr.1 = s := V.str.inj (of_decide_eq_true c2)
              refine ⟨_, rfl, 1, rfl, F, _, _, _, rfl, rfl, SqL.of hF8, atI_last _ _, la, _, _, _, rfl, rfl, SqT.of hla, rfl, _, rfl, rfl, _, rfl, ?_⟩
              refine ite2 (fun c3 => ?_) (fun c3 => ?_)
              · have d3 : lr.2.2 = b := V.int.inj (of_decide_eq_true c3)
                have jn : join X (s, b, e) = ts ++ [(s, lr.2.1, e)] := by
                  rw [e2, join_snoc, if_pos ⟨d2, d3⟩]
                refine ⟨_, rfl, _, rfl, 1, rfl, F, _, _, _, rfl, rfl, SqL.of hF8, atI_last _ _, la, _, _, _, rfl, rfl, SqT.of hla, rfl, _, rfl, (show 3 ≤ sizeLine by decide), fun t ht => ?_⟩
                have nx := same_new ht (.tup (rnV (s, lr.2.1, e)))
                refine ⟨_, rfl, 1, rfl, F, _, _, fi.length, rfl, rfl, nx _ _ hF8, ?_, ?_⟩
                · rw [List.length_append, List.length_map, List.length_singleton]
                  exact ix_last _
                · have e3 : (fi.map V.ref ++ [V.ref la]).set fi.length (.ref t) = (fi ++ [t]).map V.ref := by
                    rw [List.set_append_right _ _ (by rw [List.length_map]; exact Nat.le_refl _), List.length_map, Nat.sub_self, List.map_append]
                    rfl
                  rw [e3]
                  exact K7 _ (fi ++ [t]) nx (by rw [step, jn]; exact Prd.app (Prd.same nx hi2) (Prd.one upd_same))
              · have jn : join X (s, b, e) = X ++ [(s, b, e)] := by
                  rw [e2, join_snoc, if_neg (fun z => c3 (decide_eq_true (congrArg V.int z.2)))]
                refine ⟨_, rfl, _, rfl, iteT ?_⟩
                refine ⟨_, rfl, .inl ⟨rfl, _, SqL.of hF7⟩, _, rfl, _, rfl, _, rfl, (show 3 ≤ sizeLine by decide), fun t ht => ?_⟩
                have nx := same_new ht (.tup (rnV (s, b, e)))
                refine ⟨F, _, _, rfl, rfl, nx _ _ hF7, flen, ?_⟩
                have z := K7 _ (fi ++ [la] ++ [t]) nx (by rw [step, jn]; exact Prd.app (Prd.same nx hp7) (Prd.one upd_same))
                rw [List.map_append] at z
                exact z
            · have jn : join X (s, b, e) = X ++ [(s, b, e)] := by
                rw [e2, join_snoc, if_neg (fun z => c2 (decide_eq_true (congrArg V.str z.1)))]
              refine ⟨_, rfl, _, rfl, iteT ?_⟩
              refine ⟨_, rfl, .inl ⟨rfl, _, SqL.of hF7⟩, _, rfl, _, rfl, _, rfl, (show 3 ≤ sizeLine by decide), fun t ht => ?_⟩
              have nx := same_new ht (.tup (rnV (s, b, e)))
              refine ⟨F, _, _, rfl, rfl, nx _ _ hF7, flen, ?_⟩
              have z := K7 _ (fi ++ [la] ++ [t]) nx (by rw [step, jn]; exact Prd.app (Prd.same nx hp7) (Prd.one upd_same))
              rw [List.map_append] at z
              exact z
    · rintro σ H5 ⟨fs, u4, u5, u9, u10, u11, u12, rfl, S5, hZ5, hC5, hC25, hF5, hp5⟩
      refine ⟨fs, _, _, _, _, _, _, _, rfl, S5, hZ5, hC5, hF5, ?_⟩
      rw [List.take_length] at hp5
      rw [List.take_succ_eq_append_getElem hi1, List.flatMap_append, es, List.flatMap_singleton]
      exact hp5
  · rintro σ H4 ⟨fs, u4, u5, u8, u9, u10, u11, u12, rfl, S4, hZ4, hC4, hF4, hp4⟩
    rw [List.length_map, List.take_length] at hp4
    have e : (ss.flatMap fun s => goods ((Pq x0.rs x1.rs 1)) s (pcs cs)).foldl join [] = bothL x0.rs x1.rs := fin
    rw [e] at hp4
    refine ⟨_, rfl, F, _, rfl, .inl ⟨SqL.of hF4, fun t ht => ?_⟩⟩
    exact q t fs _ (S4.trans (same_new ht _)) (S4.free ht) upd_same (Prd.same (same_new ht _) hp4)

theorem ok_lis_number (F : Fun K "_law_is_number" "_law_is_number" s_lis_number f_lis_number d_lis_number) (T : Txt K mg f_is_number f_is_from_to f_is_word f_is_tuple_of f_is_run f_is_runs f_is_apart f_many_in f_both f_less f_what_is_left f_is_within f_is_bundling f_laid f_lfeed f_ldraw f_lnames f_lhas f_lmade f_lis_number f_lis_word f_lis_run f_lis_runs f_lalike f_lodd f_lbent f_lspoilt f_lbundling f_lmany f_lis_bundling f_lmenu f_llaid f_llot f_lright f_law) :
    FnOk P w K mg base CX0 (1) f_lis_number d_lis_number ["_law_thing", "_law_least", "_law_most"] spKFrom := by
  refine F.ok sc_lis_number (fun vs H Q E h => ?_) (fun cdv A outer s H vs Q E hr h => ?_)

  · obtain ⟨v, d, N, lo, hi, rfl, _⟩ := h
    rfl
  obtain ⟨v, d, N, lo, hi, rfl, hd, q⟩ := h
  refine ⟨_, (pss_one (ps_ret (pe_and (pe_callB call_isi (by rfl) T.isinstance (by decide +kernel) (pa_cons (pv 0) (pa_cons (pe_bltn (v := .ty "int") (by rfl) T.int (by decide +kernel) rfl) pa_nil))) (pe_and (pe_not (pe_callB call_isi (by rfl) T.isinstance (by decide +kernel) (pa_cons (pv 0) (pa_cons (pe_bltn (v := .ty "bool") (by rfl) T.bool (by decide +kernel) rfl) pa_nil)))) (pe_one (pe_chain op_le op_le (pv 1) (pv 0) (pv 2))))))), ?_⟩
  have S1 := Same.refl H
  have z := q H (Same.refl _)
  cases hd with
  | non => exact ⟨_, rfl, _, _, _, _, _, rfl, .ty _, .base .non, k_NoneType_int, _, rfl, iteF z⟩
  | str x => exact ⟨_, rfl, _, _, _, _, _, rfl, .ty _, .base (.str x), k_str_int, _, rfl, iteF z⟩
  | lst _ h _ => exact ⟨_, rfl, _, _, _, _, _, rfl, .ty _, .base (.lst h), k_list_int, _, rfl, iteF z⟩
  | tup h _ => exact ⟨_, rfl, _, _, _, _, _, rfl, .ty _, .base (.tup h), k_tuple_int, _, rfl, iteF z⟩
  | bl b => exact ⟨_, rfl, _, _, _, _, _, rfl, .ty _, .base (.bl b), k_bool_int, _, rfl, iteT ⟨_, rfl, _, _, _, _, _, rfl, .ty _, .base (.bl b), k_bool_bool, _, rfl, _, rfl, iteF z⟩⟩
  | int i =>
  clear z
  refine ⟨_, rfl, _, _, _, _, _, rfl, .ty _, .base (.int i), k_int_int, _, rfl, iteT ?_⟩
  refine ⟨_, rfl, _, _, _, _, _, rfl, .ty _, .base (.int i), k_int_bool, _, rfl, _, rfl, iteT ?_⟩
  refine ⟨_, rfl, _, rfl, _, _, rfl, rfl, _, rfl, ?_⟩
  refine ite2 (fun c1 => ?_) (fun c1 => ?_)
  · refine ⟨_, rfl, _, _, rfl, rfl, ?_⟩
    have z := q _ S1
    have e : numD (.int i) lo hi = decide (i ≤ hi) := by
      show (decide (lo ≤ i) && decide (i ≤ hi)) = _
      rw [c1, Bool.true_and]
    rw [e] at z
    exact z
  · have z := q _ S1
    have e : numD (.int i) lo hi = false := by
      show (decide (lo ≤ i) && decide (i ≤ hi)) = _
      rw [Bool.eq_false_iff.mpr c1, Bool.false_and]
    rw [e] at z
    exact z

theorem ok_lis_word (F : Fun K "_law_is_word" "_law_is_word" s_lis_word f_lis_word d_lis_word) (T : Txt K mg f_is_number f_is_from_to f_is_word f_is_tuple_of f_is_run f_is_runs f_is_apart f_many_in f_both f_less f_what_is_left f_is_within f_is_bundling f_laid f_lfeed f_ldraw f_lnames f_lhas f_lmade f_lis_number f_lis_word f_lis_run f_lis_runs f_lalike f_lodd f_lbent f_lspoilt f_lbundling f_lmany f_lis_bundling f_lmenu f_llaid f_llot f_lright f_law) :
    FnOk P w K mg base CX0 (1) f_lis_word d_lis_word ["_law_thing"] (spKWord P_is_word) := by
  refine F.ok sc_lis_word (fun vs H Q E h => ?_) (fun cdv A outer s H vs Q E hr h => ?_)

  · obtain ⟨v, d, N, rfl, _⟩ := h
    rfl
  obtain ⟨v, d, N, rfl, hd, dp, hP, q⟩ := h
  refine ⟨_, (pss_one (ps_ret (pe_and (pe_callB call_isi (by rfl) T.isinstance (by decide +kernel) (pa_cons (pv 0) (pa_cons (pe_bltn (v := .ty "str") (by rfl) T.str (by decide +kernel) rfl) pa_nil))) (pe_and (pe_chain op_le op_le pe_int (pe_callB call_len_str (by rfl) T.len (by decide +kernel) (pa_cons (pv 0) pa_nil)) pe_int) (pe_one (pe_callB (cr_all rfl) (by rfl) T.all (by decide +kernel) (pa_cons (pe_lc (own := [("_law_sign", 1)]) (g := (gName 1)) (by rfl) sc_lis_word.nd (pi_str (pv 0)) (blkOk_by (own := [("_law_sign", 1)]) (N := ["_law_thing", "_law_sign"]) (sc := defScope s_lis_word) (by decide +kernel)) (fun _ _ _ _ _ => (pg_name (i := 1) sc_lis_word.nd rfl (.inl rfl))) (fun _ _ _ _ _ => pts_nil) (fun _ _ _ _ _ => (pe_chain op_le_str op_le_str pe_str (pv 1) pe_str))) pa_nil))))))), ?_⟩
  have z := q H (Same.refl _)
  cases hd with
  | non => exact ⟨_, rfl, _, _, _, _, _, rfl, .ty _, .base .non, k_NoneType_str, _, rfl, iteF z⟩
  | bl b => exact ⟨_, rfl, _, _, _, _, _, rfl, .ty _, .base (.bl b), k_bool_str, _, rfl, iteF z⟩
  | int i => exact ⟨_, rfl, _, _, _, _, _, rfl, .ty _, .base (.int i), k_int_str, _, rfl, iteF z⟩
  | lst _ h _ => exact ⟨_, rfl, _, _, _, _, _, rfl, .ty _, .base (.lst h), k_list_str, _, rfl, iteF z⟩
  | tup h _ => exact ⟨_, rfl, _, _, _, _, _, rfl, .ty _, .base (.tup h), k_tuple_str, _, rfl, iteF z⟩
  | str s0 =>
    refine ⟨_, rfl, _, _, _, _, _, rfl, .ty _, .base (.str s0), k_str_str, _, rfl, iteT ?_⟩
    have w : wordD (.str s0) = (decide (1 ≤ s0.length) && (decide (s0.length ≤ 8) && s0.cps.toList.all chB)) := rfl
    refine ⟨_, rfl, s0, rfl, dp.str, _, _, rfl, rfl, _, rfl, ?_⟩
    refine ite2 (fun c1 => ?_) (fun c1 => ?_)
    rotate_left
    · have c1 : ¬ s0.length ≥ 1 := fun k => c1 (decide_eq_true (by omega))
      rw [w, decide_eq_false (show ¬ 1 ≤ s0.length from c1), Bool.false_and] at z
      exact ⟨_, rfl, iteF z⟩
    have c1 : 1 ≤ s0.length := by
      have k := of_decide_eq_true c1
      omega
    refine ⟨_, _, rfl, rfl, _, rfl, ?_⟩
    refine ite2 (fun c2 => ?_) (fun c2 => ?_)
    rotate_left
    · have c2 : ¬ s0.length ≤ 8 := fun k => c2 (decide_eq_true (by omega))
      rw [w, decide_eq_false c2, Bool.false_and, Bool.and_false] at z
      exact z
    have c2 : s0.length ≤ 8 := by
      have k := of_decide_eq_true c2
      omega
    clear z
    refine ⟨_, rfl, s0, rfl, fun D hD => ?_⟩
    refine lc_it (walk_str (z := s0)) (fun i H' => Same H H' ∧ H' D = some (.lst (((List.range i).map (chAt s0)).map V.bl))) ⟨same_new hD _, upd_same⟩ (fun _ _ _ _ => trivial) ?_ ?_
    · rintro i x H1 H2 hi ⟨s, hD1⟩ ⟨rfl, c, hc, rfl⟩
      have hc : s0.cps[i]? = some c := hc
      have f : chAt s0 i = (decide (97 ≤ c) && decide (c ≤ 122)) := by
        unfold chAt
        rw [hc]
        rfl
      have put : ∀ b : Bool, b = chAt s0 i → ∃ acc, H2 D = some (.lst acc) ∧ acc.length < sizeLine ∧ Same H (upd H2 D (.lst (acc ++ [.bl b]))) ∧ upd H2 D (.lst (acc ++ [.bl b])) D = some (.lst (((List.range (i + 1)).map (chAt s0)).map V.bl)) := fun b e => by
        refine ⟨_, hD1, ?_, same_mut s hD, ?_⟩
        · rw [List.length_map, List.length_map, List.length_range]
          exact Nat.lt_of_lt_of_le hi (Nat.le_trans c2 (by decide))
        · rw [upd_same, List.range_succ, List.map_append, List.map_append, e]
          rfl
      refine ⟨rfl, ?_⟩
      refine ⟨_, rfl, _, _, rfl, rfl, _, rfl, ?_⟩
      rw [lt_a]
      refine ite2 (fun k1 => ?_) (fun k1 => ?_)
      · refine ⟨_, _, rfl, rfl, ?_⟩
        rw [lt_z]
        have k1 : (!!decide (97 ≤ c)) = true := k1
        rw [Bool.not_not] at k1
        exact put _ (by rw [f, k1, Bool.true_and, Bool.not_not])
      · have k1 : ¬ (!!decide (97 ≤ c)) = true := k1
        rw [Bool.not_not] at k1
        exact put _ (by rw [f, Bool.eq_false_iff.mpr k1, Bool.false_and])
    · rintro H1 ⟨s, hD1⟩
      refine ⟨D, _, rfl, SqL.of hD1, ?_⟩
      have z := q _ s
      rw [w, decide_eq_true c1, decide_eq_true c2, Bool.true_and, Bool.true_and, ← ch_all] at z
      rw [List.all_map]
      have e : ((List.range s0.cps.size).filter fun _ => true) = List.range s0.cps.size := List.filter_eq_self.mpr fun _ _ => rfl
      rw [e] at z
      exact z

theorem ok_lis_run (F : Fun K "_law_is_run" "_law_is_run" s_lis_run f_lis_run d_lis_run) (T : Txt K mg f_is_number f_is_from_to f_is_word f_is_tuple_of f_is_run f_is_runs f_is_apart f_many_in f_both f_less f_what_is_left f_is_within f_is_bundling f_laid f_lfeed f_ldraw f_lnames f_lhas f_lmade f_lis_number f_lis_word f_lis_run f_lis_runs f_lalike f_lodd f_lbent f_lspoilt f_lbundling f_lmany f_lis_bundling f_lmenu f_llaid f_llot f_lright f_law)
    (F_lis_word : Fun K "_law_is_word" "_law_is_word" s_lis_word f_lis_word d_lis_word) (b_lis_word : Binds K d_lis_word ["_law_thing"] []) (G_lis_word : FnOk P w K mg base CX0 (1) f_lis_word d_lis_word ["_law_thing"] (spKWord P_is_word))
    (F_lis_number : Fun K "_law_is_number" "_law_is_number" s_lis_number f_lis_number d_lis_number) (b_lis_number : Binds K d_lis_number ["_law_thing", "_law_least", "_law_most"] []) (G_lis_number : FnOk P w K mg base CX0 (1) f_lis_number d_lis_number ["_law_thing", "_law_least", "_law_most"] spKFrom) :
    FnOk P w K mg base CX0 (2) f_lis_run d_lis_run ["_law_thing"] (spKRun P_is_word) := by
  refine F.ok sc_lis_run (fun vs H Q E h => ?_) (fun cdv A outer s H vs Q E hr h => ?_)

  · obtain ⟨v, d, N, rfl, _⟩ := h
    rfl
  obtain ⟨v, d, N, rfl, hd, sm, hP, q⟩ := h
  refine ⟨_, (pss_cons (ps_if (PW.pt (pw_or (pt_not (pt_val (pe_callB call_isi (by rfl) T.isinstance (by decide +kernel) (pa_cons (pv 0) (pa_cons (pe_bltn (v := .ty "tuple") (by rfl) T.tuple (by decide +kernel) rfl) pa_nil))))) (pw_or (pt_cmpR op_ne (pe_callB call_len_seq (by rfl) T.len (by decide +kernel) (pa_cons (pv 0) pa_nil)) pe_int (nomark _)) (pw_or1 (pt_not (pt_val (pe_call G_lis_word hr (by rfl) T.m_lis_word F_lis_word.kp b_lis_word .nil pass0 (pa_cons (pe_ix ix_tup (pv 0) pe_int (fun _ _ => rfl)) pa_nil))))))))
  (pss_one (ps_ret pe_bl))
  pss_nil)
  (pss_cons (ps_if (PW.pt (pw_or (pt_not (pt_val (pe_call G_lis_number hr (by rfl) T.m_lis_number F_lis_number.kp b_lis_number .nil pass0 (pa_cons (pe_ix ix_tup (pv 0) pe_int (fun _ _ => rfl)) (pa_cons pe_int (pa_cons (pe_op op_pow pe_int pe_int) pa_nil)))))) (pw_or1 (pt_not (pt_val (pe_call G_lis_number hr (by rfl) T.m_lis_number F_lis_number.kp b_lis_number .nil pass0 (pa_cons (pe_ix ix_tup (pv 0) pe_int (fun _ _ => rfl)) (pa_cons pe_int (pa_cons (pe_op op_pow pe_int pe_int) pa_nil)))))))))
  (pss_one (ps_ret pe_bl))
  pss_nil)
  (pss_one (ps_ret (pe_cmpR op_gt (pe_ix ix_tup (pv 0) pe_int (fun _ _ => rfl)) (pe_ix ix_tup (pv 0) pe_int (fun _ _ => rfl)) (nomark _)))))), ?_⟩
  rcases hd.cases with ⟨t, xs, ds, rfl, rfl, ht, hx⟩ | nt
  rotate_left
  · obtain ⟨ty, n1, n2⟩ := noTup_of (K := K) hd.dp nt
    have z := q _ (Same.refl _)
    rw [runD_nt nt] at z
    exact ⟨_, rfl, _, _, _, _, _, rfl, .ty _, n1, n2, _, rfl, iteT z⟩
  refine ⟨_, rfl, _, _, _, _, _, rfl, .ty _, .base (.tup ht), k_tuple_tuple, _, rfl, iteF ?_⟩
  refine ⟨_, rfl, _, _, rfl, .inr (SqT.of ht), rfl, _, rfl, ?_⟩
  have lx := hx.len
  by_cases c : ds.length = 3
  rotate_left
  · have e : (!decide (V.int ((xs.length : Nat) : Int) = V.int 3)) = true := by
      simp
      omega
    rw [e]
    have z := q _ (Same.refl _)
    rw [runD_no (fun k => c (by have k := of_decide_eq_true (p := (((ds.length : Nat) : Int) = ((3 : Nat) : Int))) k; omega))] at z
    exact iteT z
  have e : (!decide (V.int ((xs.length : Nat) : Int) = V.int 3)) = false := by
    simp
    omega
  rw [e]

  refine iteF ?_
  obtain ⟨a, b, u, rfl⟩ : ∃ a b u, ds = [a, b, u] := by
    match ds, c with
    | [a, b, u], _ => exact ⟨a, b, u, rfl⟩
  match xs, hx with
  | [x, y, z], .cons h1 (.cons h2 (.cons h3 .nil)) =>
  have i1 : a ∈ [a, b, u] := List.mem_cons_self
  have rd : runD (.tuple [a, b, u]) = runB a b u := rfl
  rw [rd] at q
  refine ⟨_, rfl, t, _, _, _, rfl, rfl, SqT.of ht, rfl, x, a, N, rfl, h1, sm.part i1, hP, fun H2 S2 => ?_⟩
  have e9 : (10 : Int) ^ (9 : Int).toNat = 1000000000 := by decide +kernel
  have no : ∀ {Hx : Hp}, Same H Hx → runB a b u = false → Q (.bl false) Hx := fun S k => by
    have z := q _ S
    rw [k] at z
    exact z
  have cp : CPow 10 9 := ⟨by decide, by decide, by decide⟩
  refine ⟨_, rfl, ?_⟩
  refine ite2 (fun c1 => ?_) (fun c1 => ?_)
  · have c1 : (!wordD a) = true := c1
    exact no S2 (runB_no (.inl (by simpa using c1)))
  have c1 : wordD a = true := by
    have c1 : ¬ (!wordD a) = true := c1
    simpa using c1
  refine ⟨_, rfl, t, _, _, _, rfl, rfl, SqT.of (S2 _ _ ht), rfl, 10, 9, rfl, rfl, cp, y, b, N, 0, _, rfl, h2.same S2, fun H3 S3 => ?_⟩
  rw [e9]
  have S3 := S2.trans S3
  refine ⟨_, rfl, ?_⟩
  refine ite2 (fun c2 => ?_) (fun c2 => ?_)
  · refine no S3 ?_
    rw [Bool.eq_false_iff]
    intro k
    obtain ⟨s, i, j, rfl, rfl, rfl, g1, g2, g3, g4⟩ := runB_int k
    have c2 : (!(decide (0 ≤ i) && decide (i ≤ 1000000000))) = true := c2
    rw [decide_eq_true g2, decide_eq_true (by omega)] at c2
    cases c2
  have c2 : numD b 0 1000000000 = true := by
    have c2 : ¬ (!numD b 0 1000000000) = true := c2
    simpa using c2
  obtain ⟨i, rfl⟩ : ∃ i, b = .int i := by
    cases b with
    | int i => exact ⟨i, rfl⟩
    | _ => cases c2
  refine ⟨_, rfl, t, _, _, _, rfl, rfl, SqT.of (S3 _ _ ht), rfl, 10, 9, rfl, rfl, cp, z, u, N, 0, _, rfl, h3.same S3, fun H4 S4 => ?_⟩
  rw [e9]
  have S4 := S3.trans S4
  refine ⟨_, rfl, ?_⟩
  refine ite2 (fun c3 => ?_) (fun c3 => ?_)
  · refine no S4 ?_
    rw [Bool.eq_false_iff]
    intro k
    obtain ⟨s, i, j, rfl, e, rfl, g1, g2, g3, g4⟩ := runB_int k
    have c3 : (!(decide (0 ≤ j) && decide (j ≤ 1000000000))) = true := c3
    rw [decide_eq_true (by omega), decide_eq_true g4] at c3
    cases c3
  have c3 : numD u 0 1000000000 = true := by
    have c3 : ¬ (!numD u 0 1000000000) = true := c3
    simpa using c3
  obtain ⟨j, rfl⟩ : ∃ j, u = .int j := by
    cases u with
    | int i => exact ⟨i, rfl⟩
    | _ => cases c3
  cases h2
  cases h3
  refine ⟨_, rfl, t, _, _, _, rfl, rfl, SqT.of (S4 _ _ ht), rfl, _, rfl, t, _, _, _, rfl, rfl, SqT.of (S4 _ _ ht), rfl, _, _, rfl, rfl, ?_⟩
  have z := q _ S4
  have k : runB a (.int i) (.int j) = decide (i < j) := by
    show (wordD a && ((decide (0 ≤ i) && decide (i ≤ 999999999)) && (decide (i + 1 ≤ j) && decide (j ≤ 1000000000)))) = _
    have c2 : (decide (0 ≤ i) && decide (i ≤ 1000000000)) = true := c2
    have c3 : (decide (0 ≤ j) && decide (j ≤ 1000000000)) = true := c3
    rw [Bool.and_eq_true] at c2 c3
    have g1 := of_decide_eq_true c2.1
    have g2 := of_decide_eq_true c2.2
    have g3 := of_decide_eq_true c3.1
    have g4 := of_decide_eq_true c3.2
    rw [c1, decide_eq_true g1, decide_eq_true g4, Bool.true_and, Bool.true_and, Bool.and_true]
    by_cases l : i < j
    · rw [decide_eq_true l, decide_eq_true (by omega), decide_eq_true (by omega)]
      rfl
    · rw [decide_eq_false l, decide_eq_false (show ¬ i + 1 ≤ j by omega), Bool.and_false]
  rw [k] at z
  exact z

theorem ok_lis_runs (F : Fun K "_law_is_runs" "_law_is_runs" s_lis_runs f_lis_runs d_lis_runs) (T : Txt K mg f_is_number f_is_from_to f_is_word f_is_tuple_of f_is_run f_is_runs f_is_apart f_many_in f_both f_less f_what_is_left f_is_within f_is_bundling f_laid f_lfeed f_ldraw f_lnames f_lhas f_lmade f_lis_number f_lis_word f_lis_run f_lis_runs f_lalike f_lodd f_lbent f_lspoilt f_lbundling f_lmany f_lis_bundling f_lmenu f_llaid f_llot f_lright f_law)
    (F_lis_run : Fun K "_law_is_run" "_law_is_run" s_lis_run f_lis_run d_lis_run) (b_lis_run : Binds K d_lis_run ["_law_thing"] []) (G_lis_run : FnOk P w K mg base CX0 (2) f_lis_run d_lis_run ["_law_thing"] (spKRun P_is_word)) :
    FnOk P w K mg base CX0 (3) f_lis_runs d_lis_runs ["_law_thing"] (spKRuns P_is_runs P_is_word) := by
  refine F.ok sc_lis_runs (fun vs H Q E h => ?_) (fun cdv A outer s H vs Q E hr h => ?_)

  · obtain ⟨v, d, N, rfl, _⟩ := h
    rfl
  obtain ⟨v, d, N, rfl, hd, sm, hP1, hP2, q⟩ := h
  refine ⟨_, (pss_cons (ps_if (PW.pt (pw_or (pt_not (pt_val (pe_callB call_isi (by rfl) T.isinstance (by decide +kernel) (pa_cons (pv 0) (pa_cons (pe_bltn (v := .ty "tuple") (by rfl) T.tuple (by decide +kernel) rfl) pa_nil))))) (pw_or1 (pt_not (pt_val (pe_callB (cr_all rfl) (by rfl) T.all (by decide +kernel) (pa_cons (pe_lc (own := [("_law_one", 1)]) (g := (gName 1)) (by rfl) sc_lis_runs.nd (pi_tup (pv 0)) (blkOk_by (own := [("_law_one", 1)]) (N := ["_law_thing", "_law_one", "_law_k", "_law_other"]) (sc := defScope s_lis_runs) (by decide +kernel)) (fun _ _ _ _ _ => (pg_name (i := 1) sc_lis_runs.nd rfl (.inl rfl))) (fun _ _ _ _ _ => pts_nil) (fun _ _ _ _ _ => (pe_call G_lis_run hr (by rfl) T.m_lis_run F_lis_run.kp b_lis_run .nil pass0 (pa_cons (pv 1) pa_nil)))) pa_nil)))))))
  (pss_one (ps_ret pe_bl))
  pss_nil)
  (pss_cons (ps_for PassesOwn.never rfl (pi_range2 (by rfl) T.range (pa_cons pe_int (pa_cons (pe_callB call_len_seq (by rfl) T.len (by decide +kernel) (pa_cons (pv 0) pa_nil)) pa_nil))) (pg_name (i := 2) sc_lis_runs.nd rfl (.inl rfl))
  (pss_cons (ps_par (by rfl) sc_lis_runs.nd (i := 1) (j := 3) rfl rfl (by decide) rfl rfl (pa_cons (pe_ix ix_tup (pv 0) (pe_op op_sub (pv 2) pe_int) (fun _ _ => rfl)) (pa_cons (pe_ix ix_tup (pv 0) (pv 2) (fun _ _ => rfl)) pa_nil)) (by rfl))
  (pss_one (ps_if (PW.pt (pw_or (pt_cmpR op_gt_str (pe_ix ix_tup (pv 1) pe_int (fun _ _ => rfl)) (pe_ix ix_tup (pv 3) pe_int (fun _ _ => rfl)) (nomark _)) (pw_or1 (PW.pt (pw_and (pt_cmpR op_eq (pe_ix ix_tup (pv 1) pe_int (fun _ _ => rfl)) (pe_ix ix_tup (pv 3) pe_int (fun _ _ => rfl)) (nomark _)) (pw_and1 (pt_cmpR op_le (pe_ix ix_tup (pv 3) pe_int (fun _ _ => rfl)) (pe_ix ix_tup (pv 1) pe_int (fun _ _ => rfl)) (nomark _))))))))
  (pss_one (ps_ret pe_bl))
  pss_nil))))
  (pss_one (ps_ret pe_bl)))), ?_⟩
  rcases hd.cases with ⟨t, xs, ds, rfl, rfl, ht, hx⟩ | nt
  rotate_left
  · obtain ⟨ty, n1, n2⟩ := noTup_of (K := K) hd.dp nt
    have z := q _ (Same.refl _)
    rw [runsD_no nt] at z
    exact ⟨_, rfl, _, _, _, _, _, rfl, .ty _, n1, n2, _, rfl, iteT z⟩
  refine ⟨_, rfl, _, _, _, _, _, rfl, .ty _, .base (.tup ht), k_tuple_tuple, _, rfl, iteF ?_⟩
  have ln := hx.len
  have slen := sm.len
  refine ⟨_, rfl, t, rfl, ⟨_, SqT.of ht⟩, fun D hD => ?_⟩
  refine lc_tup (K := K) (a := t) (xs := xs) (fun i H' => Same H H' ∧ H' D = some (.lst (((List.range i).map (atD runD ds)).map V.bl))) ⟨same_new hD _, upd_same⟩ (fun i H' _ h => SqT.of (h.1 _ _ ht)) ?_ ?_
  · rintro i x H1 hxi ⟨s, hD1⟩
    obtain ⟨d, d1, d2⟩ := hx.get hxi
    have hi := (List.getElem?_eq_some_iff.mp hxi).1
    refine ⟨rfl, _, rfl, x, d, N, rfl, d2.same s, sm.part (List.mem_of_getElem? d1), s _ _ hP2, fun H2 S2 => ?_⟩
    refine ⟨_, S2 _ _ hD1, ?_, same_mut (s.trans S2) hD, ?_⟩
    · rw [List.length_map, List.length_map, List.length_range]
      exact Nat.lt_of_lt_of_le hi (Nat.le_trans (show xs.length ≤ 5000000 by omega) (by decide))
    · rw [upd_same, List.range_succ, List.map_append, List.map_append]
      show _ = some (HO.lst (_ ++ [V.bl (atD runD ds i)]))
      rw [atD_some d1]
  rintro H1 ⟨s, hD1⟩
  refine ⟨D, _, rfl, SqL.of hD1, _, rfl, ?_⟩
  have ea : (((List.range xs.length).map (atD runD ds)).all id) = (((List.range ds.length).filter fun _ => true).all (atD runD ds)) := by
    rw [List.all_map, ln, List.filter_eq_self.mpr fun _ _ => rfl]
    rfl
  rw [ea]
  have no : ∀ {Hx : Hp}, Same H Hx → runsD (.tuple ds) = false → Q (.bl false) Hx := fun S k => by
    have z := q _ S
    rw [k] at z
    exact z
  have rd : runsD (.tuple ds) = ((((List.range ds.length).filter fun _ => true).all (atD runD ds)) && (((List.range (ds.length - 1)).filter fun _ => true).all (nextD ds))) := rfl
  refine ite2 (fun c => ?_) (fun c => ?_)
  · refine no s ?_
    have c : (!(((List.range ds.length).filter fun _ => true).all (atD runD ds))) = true := c
    rw [rd, (by simpa using c : (((List.range ds.length).filter fun _ => true).all (atD runD ds)) = false), Bool.false_and]
  have c : (((List.range ds.length).filter fun _ => true).all (atD runD ds)) = true := by
    have c : ¬ (!(((List.range ds.length).filter fun _ => true).all (atD runD ds))) = true := c
    simpa using c
  have all := at_all c
  have e1 : (((xs.length : Nat) : Int) - 1).toNat = ds.length - 1 := by omega
  refine ⟨_, rfl, t, _, rfl, .inr (SqT.of (s _ _ ht)), 1, _, rfl, by omega, ?_⟩
  refine for_range (lo := 1) (n := (((xs.length : Nat) : Int) - 1).toNat) (fun i σ H' => ∃ (v1 v2 v3 : Option V), σ = [some (.ref t), v1, v2, v3] ∧ Same H H' ∧ ∀ j : Nat, j < i → nextD ds j = true) ?_ ?_ ?_
  · exact ⟨none, none, none, rfl, s, fun j hj => absurd hj (Nat.not_lt_zero _)⟩
  · rintro i σ H2 hi ⟨v1, v2, v3, rfl, s2, sofar⟩
    have h1 : i + 1 < xs.length := by omega
    obtain ⟨u, hu⟩ : ∃ u, xs[i]? = some u := ⟨_, List.getElem?_eq_getElem (by omega)⟩
    obtain ⟨v, hv⟩ : ∃ v, xs[i + 1]? = some v := ⟨_, List.getElem?_eq_getElem (by omega)⟩
    obtain ⟨du, hdu, du2⟩ := hx.get hu
    obtain ⟨dv, hdv, dv2⟩ := hx.get hv
    obtain ⟨r, rfl, _, _⟩ := runD_rn (all _ (List.mem_of_getElem? hdu))
    obtain ⟨r', rfl, _, _⟩ := runD_rn (all _ (List.mem_of_getElem? hdv))
    obtain ⟨pu, rfl, hpu⟩ := dn_rn du2
    obtain ⟨pv, rfl, hpv⟩ := dn_rn dv2
    have aa : atI xs (1 + (i : Int) - 1) = some (.ref pu) := by
      rw [show 1 + (i : Int) - 1 = (i : Nat) by omega]
      exact atI_nat hu
    have ab : atI xs (1 + (i : Int)) = some (.ref pv) := by
      rw [show 1 + (i : Int) = ((i + 1 : Nat) : Int) by omega]
      exact atI_nat hv
    have ha2 := s2 _ _ ht
    have hpu := s2 _ _ hpu
    have hpv := s2 _ _ hpv
    have bad : apart r r' = false → Q (.bl false) H2 := fun k => no s2 (by
      rw [rd, Bool.and_eq_false_iff]
      refine .inr (Bool.eq_false_iff.mpr fun z => ?_)
      have y := List.all_eq_true.mp z i (List.mem_filter.mpr ⟨List.mem_range.mpr (by omega), rfl⟩)
      rw [nextD_some hdu hdv, k] at y
      cases y)
    have good : apart r r' = true → ∃ (v1' v2' v3' : Option V), [some (V.ref t), some (.ref pu), some (.int (1 + (i : Int))), some (.ref pv)] = [some (.ref t), v1', v2', v3'] ∧ Same H H2 ∧ ∀ j : Nat, j < i + 1 → nextD ds j = true := fun k => ⟨_, _, _, rfl, s2, fun j hj => by
      by_cases cj : j < i
      · exact sofar j cj
      · have : j = i := by omega
        subst this
        rw [nextD_some hdu hdv, k]⟩
    refine ⟨_, rfl, _, rfl, _, _, rfl, rfl, t, _, _, _, rfl, rfl, SqT.of ha2, aa, _, rfl, _, rfl, t, _, _, _, rfl, rfl, SqT.of ha2, ab, _, _, rfl, ?_⟩
    refine ⟨_, rfl, pu, _, _, _, rfl, rfl, SqT.of hpu, rfl, _, rfl, pv, _, _, _, rfl, rfl, SqT.of hpv, rfl, _, _, rfl, rfl, _, rfl, ?_⟩
    refine ite2 (fun c1 => ?_) (fun c1 => ?_)
    · refine bad ?_
      have c1 : sl r'.1 r.1 := of_decide_eq_true (p := r'.1.cps.toList < r.1.cps.toList) c1
      unfold apart
      rw [if_neg fun e => sl_irr _ (e ▸ c1)]
      exact decide_eq_false fun k => sl_irr _ (sl_tr c1 k)
    have c1 : ¬ sl r'.1 r.1 := fun k => c1 (decide_eq_true (p := r'.1.cps.toList < r.1.cps.toList) k)
    refine ⟨_, rfl, pu, _, _, _, rfl, rfl, SqT.of hpu, rfl, _, rfl, pv, _, _, _, rfl, rfl, SqT.of hpv, rfl, rfl, _, rfl, ?_⟩
    refine ite2 (fun c2 => ?_) (fun c2 => ?_)
    rotate_left
    · have c2 : ¬ r.1 = r'.1 := fun k => c2 (decide_eq_true (congrArg V.str k))
      refine good ?_
      unfold apart
      rw [if_neg c2]
      refine decide_eq_true ?_
      rcases sl_tot r.1 r'.1 with k | k | k
      · exact k
      · exact absurd k c2
      · exact absurd k c1
    have c2 : r.1 = r'.1 := V.str.inj (of_decide_eq_true c2)
    refine ⟨_, rfl, pv, _, _, _, rfl, rfl, SqT.of hpv, rfl, _, rfl, pu, _, _, _, rfl, rfl, SqT.of hpu, rfl, _, _, rfl, rfl, _, rfl, ?_⟩
    refine ite2 (fun c3 => ?_) (fun c3 => ?_)
    · have c3 : r'.2.1 ≤ r.2.2 := of_decide_eq_true c3
      refine bad ?_
      unfold apart
      rw [if_pos c2]
      exact decide_eq_false (by omega)
    · have c3 : ¬ r'.2.1 ≤ r.2.2 := fun k => c3 (decide_eq_true k)
      refine good ?_
      unfold apart
      rw [if_pos c2]
      exact decide_eq_true (by omega)
  · rintro σ H2 ⟨v1, v2, v3, rfl, s2, sofar⟩
    have z := q _ s2
    have k : runsD (.tuple ds) = true := by
      rw [rd, c, Bool.true_and, List.all_eq_true]
      intro j hj
      exact sofar j (by
        have := List.mem_range.mp (List.mem_filter.mp hj).1
        omega)
    rw [k] at z
    exact z

theorem ok_lalike {k n : Nat} (F : Fun K "_law_alike" "_law_alike" s_lalike f_lalike d_lalike) (T : Txt K mg f_is_number f_is_from_to f_is_word f_is_tuple_of f_is_run f_is_runs f_is_apart f_many_in f_both f_less f_what_is_left f_is_within f_is_bundling f_laid f_lfeed f_ldraw f_lnames f_lhas f_lmade f_lis_number f_lis_word f_lis_run f_lis_runs f_lalike f_lodd f_lbent f_lspoilt f_lbundling f_lmany f_lis_bundling f_lmenu f_llaid f_llot f_lright f_law)
    (F_lalike : Fun K "_law_alike" "_law_alike" s_lalike f_lalike d_lalike) (b_lalike : Binds K d_lalike ["_law_found", "_law_due"] []) (G_lalike : FnOk P w K mg base CX0 (k + 1) f_lalike d_lalike ["_law_found", "_law_due"] (spAlike K n)) :
    FnOk P w K mg base CX0 (k + 2) f_lalike d_lalike ["_law_found", "_law_due"] (spAlike K (n + 1)) := by
  refine F.ok sc_lalike (fun vs H Q E h => ?_) (fun cdv A outer s H vs Q E hr h => ?_)

  · obtain ⟨x, y, d, rfl, _⟩ := h
    rfl
  obtain ⟨x, y, d, rfl, hx, hy, hn, q⟩ := h
  refine ⟨_, (pss_cons (ps_if (pt_val (pe_callB call_isiT (by rfl) T.isinstance (by decide +kernel) (pa_cons (pv 1) (pa_cons (pe_tup (pa_cons (pe_bltn (v := .ty "tuple") (by rfl) T.tuple (by decide +kernel) rfl) (pa_cons (pe_bltn (v := .ty "list") (by rfl) T.list (by decide +kernel) rfl) pa_nil))) pa_nil))))
  (pss_cons (ps_if (PW.pt (pw_or (pt_cmpR op_ne (pe_callB call_isi (by rfl) T.isinstance (by decide +kernel) (pa_cons (pv 0) (pa_cons (pe_bltn (v := .ty "tuple") (by rfl) T.tuple (by decide +kernel) rfl) pa_nil))) (pe_callB call_isi (by rfl) T.isinstance (by decide +kernel) (pa_cons (pv 1) (pa_cons (pe_bltn (v := .ty "tuple") (by rfl) T.tuple (by decide +kernel) rfl) pa_nil))) (nomark _)) (pw_or1 (pt_cmpR op_ne (pe_callB call_isi (by rfl) T.isinstance (by decide +kernel) (pa_cons (pv 0) (pa_cons (pe_bltn (v := .ty "list") (by rfl) T.list (by decide +kernel) rfl) pa_nil))) (pe_callB call_isi (by rfl) T.isinstance (by decide +kernel) (pa_cons (pv 1) (pa_cons (pe_bltn (v := .ty "list") (by rfl) T.list (by decide +kernel) rfl) pa_nil))) (nomark _)))))
  (pss_one (ps_ret pe_bl))
  pss_nil)
  (pss_one (ps_ret (pe_and (pe_cmpR op_eq (pe_callB call_len_seq (by rfl) T.len (by decide +kernel) (pa_cons (pv 0) pa_nil)) (pe_callB call_len_seq (by rfl) T.len (by decide +kernel) (pa_cons (pv 1) pa_nil)) (nomark _)) (pe_one (pe_callB (cr_all rfl) (by rfl) T.all (by decide +kernel) (pa_cons (pe_lc (own := [("_law_one", 2), ("_law_other", 3)]) (g := (gTup K 2 (gCons (gName 2) (gCons (gName 3) gNil)))) (by rfl) sc_lalike.nd (RZ.pi_zipA (by rfl) T.zip (pa_cons (pv 0) (pa_cons (pv 1) pa_nil))) (blkOk_by (own := [("_law_one", 2), ("_law_other", 3)]) (N := ["_law_found", "_law_due", "_law_one", "_law_other"]) (sc := defScope s_lalike) (by decide +kernel)) (fun _ _ _ _ _ => (pg_tup rfl (pgs_cons (pg_name (i := 2) sc_lalike.nd rfl (.inl rfl)) (pgs_cons (pg_name (i := 3) sc_lalike.nd rfl (.inl rfl)) pgs_nil)))) (fun _ _ _ _ _ => pts_nil) (fun _ _ _ _ _ => (pe_call G_lalike hr (by rfl) T.m_lalike F_lalike.kp b_lalike .nil pass0 (pa_cons (pv 2) (pa_cons (pv 3) pa_nil))))) pa_nil)))))))
  pss_nil)
  (pss_cons (ps_if (pt_cmpR op_isN (pv 1) pe_non (nomark _))
  (pss_one (ps_ret (pe_cmpR op_isN (pv 0) pe_non (nomark _))))
  pss_nil)
  (pss_cons (ps_if (PW.pt (pw_or (pt_val (pe_callB call_isi (by rfl) T.isinstance (by decide +kernel) (pa_cons (pv 1) (pa_cons (pe_bltn (v := .ty "bool") (by rfl) T.bool (by decide +kernel) rfl) pa_nil)))) (pw_or1 (pt_val (pe_callB call_isi (by rfl) T.isinstance (by decide +kernel) (pa_cons (pv 1) (pa_cons (pe_bltn (v := .ty "str") (by rfl) T.str (by decide +kernel) rfl) pa_nil)))))))
  (pss_one (ps_ret (pe_and (pe_cmpR op_eq (pe_callB call_isi (by rfl) T.isinstance (by decide +kernel) (pa_cons (pv 0) (pa_cons (pe_bltn (v := .ty "bool") (by rfl) T.bool (by decide +kernel) rfl) pa_nil))) (pe_callB call_isi (by rfl) T.isinstance (by decide +kernel) (pa_cons (pv 1) (pa_cons (pe_bltn (v := .ty "bool") (by rfl) T.bool (by decide +kernel) rfl) pa_nil))) (nomark _)) (pe_and (pe_callB call_isiT (by rfl) T.isinstance (by decide +kernel) (pa_cons (pv 0) (pa_cons (pe_tup (pa_cons (pe_bltn (v := .ty "bool") (by rfl) T.bool (by decide +kernel) rfl) (pa_cons (pe_bltn (v := .ty "str") (by rfl) T.str (by decide +kernel) rfl) pa_nil))) pa_nil))) (pe_one (pe_cmpR op_eq (pv 0) (pv 1) (nomark _)))))))
  pss_nil)
  (pss_one (ps_ret (pe_and (pe_callB call_isi (by rfl) T.isinstance (by decide +kernel) (pa_cons (pv 0) (pa_cons (pe_bltn (v := .ty "int") (by rfl) T.int (by decide +kernel) rfl) pa_nil))) (pe_and (pe_not (pe_callB call_isi (by rfl) T.isinstance (by decide +kernel) (pa_cons (pv 0) (pa_cons (pe_bltn (v := .ty "bool") (by rfl) T.bool (by decide +kernel) rfl) pa_nil)))) (pe_one (pe_cmpR op_eq (pv 0) (pv 1) (nomark _)))))))))), ?_⟩
  cases hx with
  | @lst a xs ds s1 A1 =>
    obtain ⟨b, ys, rfl, s2, A2⟩ : ∃ b ys, y = .ref b ∧ SqL K H b ys ∧ DpAll K H ys ds := by
      cases hy with
      | lst s A => exact ⟨_, _, rfl, s, A⟩
    have nn : ∃ m, n = m + 1 ∧ ds.length ≤ 100000 ∧ ∀ e ∈ ds, Nice m e := by
      cases n with
      | zero => exact nomatch hn
      | succ m =>
        rcases hn with hn | ⟨es, he, h1, h2⟩
        · exact nomatch hn
        · rcases he with he | he <;> cases he
          exact ⟨m, rfl, h1, h2⟩
    obtain ⟨m, rfl, hl1, hall⟩ := nn
    have l1 := DpAll.len A1
    have l2 := DpAll.len A2
    have hlen : xs.length = ys.length := by omega
    refine ⟨_, rfl, (show 2 ≤ sizeLine by decide), fun tp htp => ?_⟩
    have S1 : Same H (upd H tp (.tup [.ty "tuple", .ty "list"])) := same_new htp _
    have tyx := ty_of (Dp.sm S1 (.lst s1 A1 : Dp K H (.ref a) (.list ds)))
    have tyy := ty_of (Dp.sm S1 (.lst s2 A2 : Dp K H (.ref b) (.list ds)))
    refine ⟨_, tp, _, _, _, _, rfl, upd_same, .cons (.ty _) (.cons (.ty _) .nil), tyy, kit2 k_list_tuple k_list_list, true, rfl, iteT ?_⟩
    refine ⟨_, rfl, _, _, _, _, _, rfl, .ty _, tyx, k_list_tuple, _, rfl, _, _, _, _, _, rfl, .ty _, tyy, k_list_tuple, rfl, _, rfl, iteF ?_⟩
    refine ⟨_, rfl, _, _, _, _, _, rfl, .ty _, tyx, k_list_list, _, rfl, _, _, _, _, _, rfl, .ty _, tyy, k_list_list, rfl, _, rfl, iteF ?_⟩
    have q1 := SqL.sm S1 s1
    have q2 := SqL.sm S1 s2
    refine ⟨_, rfl, a, xs, rfl, .inl q1, _, rfl, b, ys, rfl, .inl q2, rfl, true, congrArg V.bl (decide_eq_true (congrArg V.int (congrArg Int.ofNat hlen))), iteT ?_⟩
    refine ⟨_, rfl, _, rfl, a, b, xs, ys, rfl, .inl ⟨q1, q2, fun D hD => ?_⟩⟩
    refine lc_it (L2.walk_zip (n := xs.length) (by omega)) (fun i H' => Same (upd H tp (.tup [.ty "tuple", .ty "list"])) H' ∧ H' D = some (.lst ((List.replicate i true).map V.bl))) ⟨same_new hD _, upd_same⟩ (fun i H' _ h => ⟨SqL.sm h.1 q1, SqL.sm h.1 q2⟩) ?_ ?_
    · rintro i v H1 H2 hi ⟨S2, hD2⟩ ⟨T1, u1, u2, rfl, hT, rfl, e1, e2⟩
      obtain ⟨d1, hd1, D1⟩ := DpAll.get A1 e1
      obtain ⟨d2, hd2, D2⟩ := DpAll.get A2 e2
      rw [hd1] at hd2
      cases hd2
      have S3 : Same H (upd H1 T1 (.tup [u1, u2])) := S1.trans (S2.trans (same_new hT _))
      refine ⟨T1, [u1, u2], rfl, SqT.of upd_same, rfl, _, _, rfl, _, _, rfl, rfl, rfl, ?_⟩
      refine ⟨_, rfl, _, rfl, u1, u2, d1, rfl, Dp.sm S3 D1, Dp.sm S3 D2, hall d1 (List.mem_of_getElem? hd1), fun H3 S4 => ?_⟩
      have hD3 : H3 D = some (.lst ((List.replicate i true).map V.bl)) := S4 _ _ ((upd_ne (ne_of_none hD2 hT)).trans hD2)
      refine ⟨_, hD3, ?_, fun z o hz => ?_, ?_⟩
      · rw [List.length_map, List.length_replicate]
        exact Nat.lt_of_lt_of_le hi (Nat.le_trans (by omega) (show 100000 ≤ sizeLine by decide))
      · have zD : z ≠ D := ne_of_none hz hD
        rw [upd_ne zD]
        exact S4 _ _ ((upd_ne (ne_of_none (S2 _ _ hz) hT)).trans (S2 _ _ hz))
      · rw [upd_same, List.replicate_succ', List.map_append]
        rfl
    · rintro H2 ⟨S2, hD2⟩
      refine ⟨D, _, rfl, SqL.of hD2, ?_⟩
      have e : (List.replicate xs.length true).all id = true := by
        rw [List.all_eq_true]
        intro z hz
        rw [List.eq_of_mem_replicate hz]
        rfl
      rw [e]
      exact q _ (S1.trans S2)
  | @tup a xs ds s1 A1 =>
    obtain ⟨b, ys, rfl, s2, A2⟩ : ∃ b ys, y = .ref b ∧ SqT K H b ys ∧ DpAll K H ys ds := by
      cases hy with
      | tup s A => exact ⟨_, _, rfl, s, A⟩
    have nn : ∃ m, n = m + 1 ∧ ds.length ≤ 100000 ∧ ∀ e ∈ ds, Nice m e := by
      cases n with
      | zero => exact nomatch hn
      | succ m =>
        rcases hn with hn | ⟨es, he, h1, h2⟩
        · exact nomatch hn
        · rcases he with he | he <;> cases he
          exact ⟨m, rfl, h1, h2⟩
    obtain ⟨m, rfl, hl1, hall⟩ := nn
    have l1 := DpAll.len A1
    have l2 := DpAll.len A2
    have hlen : xs.length = ys.length := by omega
    refine ⟨_, rfl, (show 2 ≤ sizeLine by decide), fun tp htp => ?_⟩
    have S1 : Same H (upd H tp (.tup [.ty "tuple", .ty "list"])) := same_new htp _
    have tyx := ty_of (Dp.sm S1 (.tup s1 A1 : Dp K H (.ref a) (.tuple ds)))
    have tyy := ty_of (Dp.sm S1 (.tup s2 A2 : Dp K H (.ref b) (.tuple ds)))
    refine ⟨_, tp, _, _, _, _, rfl, upd_same, .cons (.ty _) (.cons (.ty _) .nil), tyy, kit2 k_tuple_tuple k_tuple_list, true, rfl, iteT ?_⟩
    refine ⟨_, rfl, _, _, _, _, _, rfl, .ty _, tyx, k_tuple_tuple, _, rfl, _, _, _, _, _, rfl, .ty _, tyy, k_tuple_tuple, rfl, _, rfl, iteF ?_⟩
    refine ⟨_, rfl, _, _, _, _, _, rfl, .ty _, tyx, k_tuple_list, _, rfl, _, _, _, _, _, rfl, .ty _, tyy, k_tuple_list, rfl, _, rfl, iteF ?_⟩
    have q1 := SqT.sm S1 s1
    have q2 := SqT.sm S1 s2
    refine ⟨_, rfl, a, xs, rfl, .inr q1, _, rfl, b, ys, rfl, .inr q2, rfl, true, congrArg V.bl (decide_eq_true (congrArg V.int (congrArg Int.ofNat hlen))), iteT ?_⟩
    refine ⟨_, rfl, _, rfl, a, b, xs, ys, rfl, .inr ⟨q1, q2, fun D hD => ?_⟩⟩
    refine lc_it (walk_zt hlen) (fun i H' => Same (upd H tp (.tup [.ty "tuple", .ty "list"])) H' ∧ H' D = some (.lst ((List.replicate i true).map V.bl))) ⟨same_new hD _, upd_same⟩ (fun i H' _ h => ⟨SqT.sm h.1 q1, SqT.sm h.1 q2⟩) ?_ ?_
    · rintro i v H1 H2 hi ⟨S2, hD2⟩ ⟨T1, u1, u2, rfl, hT, rfl, e1, e2⟩
      obtain ⟨d1, hd1, D1⟩ := DpAll.get A1 e1
      obtain ⟨d2, hd2, D2⟩ := DpAll.get A2 e2
      rw [hd1] at hd2
      cases hd2
      have S3 : Same H (upd H1 T1 (.tup [u1, u2])) := S1.trans (S2.trans (same_new hT _))
      refine ⟨T1, [u1, u2], rfl, SqT.of upd_same, rfl, _, _, rfl, _, _, rfl, rfl, rfl, ?_⟩
      refine ⟨_, rfl, _, rfl, u1, u2, d1, rfl, Dp.sm S3 D1, Dp.sm S3 D2, hall d1 (List.mem_of_getElem? hd1), fun H3 S4 => ?_⟩
      have hD3 : H3 D = some (.lst ((List.replicate i true).map V.bl)) := S4 _ _ ((upd_ne (ne_of_none hD2 hT)).trans hD2)
      refine ⟨_, hD3, ?_, fun z o hz => ?_, ?_⟩
      · rw [List.length_map, List.length_replicate]
        exact Nat.lt_of_lt_of_le hi (Nat.le_trans (by omega) (show 100000 ≤ sizeLine by decide))
      · have zD : z ≠ D := ne_of_none hz hD
        rw [upd_ne zD]
        exact S4 _ _ ((upd_ne (ne_of_none (S2 _ _ hz) hT)).trans (S2 _ _ hz))
      · rw [upd_same, List.replicate_succ', List.map_append]
        rfl
    · rintro H2 ⟨S2, hD2⟩
      refine ⟨D, _, rfl, SqL.of hD2, ?_⟩
      have e : (List.replicate xs.length true).all id = true := by
        rw [List.all_eq_true]
        intro z hz
        rw [List.eq_of_mem_replicate hz]
        rfl
      rw [e]
      exact q _ (S1.trans S2)
  | non =>
    cases hy
    refine ⟨_, rfl, (show 2 ≤ sizeLine by decide), fun tp htp => ?_⟩
    have S1 : Same H (upd H tp (.tup [.ty "tuple", .ty "list"])) := same_new htp _
    refine ⟨_, tp, _, _, _, _, rfl, upd_same, .cons (.ty _) (.cons (.ty _) .nil), .base .non, kit2 k_NoneType_tuple k_NoneType_list, false, rfl, iteF ?_⟩
    refine ⟨_, rfl, rfl, _, rfl, iteT ?_⟩
    refine ⟨_, rfl, rfl, ?_⟩
    exact q _ S1
  | bl b =>
    cases hy
    refine ⟨_, rfl, (show 2 ≤ sizeLine by decide), fun tp htp => ?_⟩
    have S1 : Same H (upd H tp (.tup [.ty "tuple", .ty "list"])) := same_new htp _
    refine ⟨_, tp, _, _, _, _, rfl, upd_same, .cons (.ty _) (.cons (.ty _) .nil), .base (.bl b), kit2 k_bool_tuple k_bool_list, false, rfl, iteF ?_⟩
    refine ⟨_, rfl, rfl, _, rfl, iteF ?_⟩
    refine ⟨_, rfl, _, _, _, _, _, rfl, .ty _, .base (.bl b), k_bool_bool, true, rfl, iteT ?_⟩
    refine ⟨_, rfl, _, _, _, _, _, rfl, .ty _, .base (.bl b), k_bool_bool, _, rfl, _, _, _, _, _, rfl, .ty _, .base (.bl b), k_bool_bool, rfl, true, rfl, iteT ?_⟩
    refine ⟨_, rfl, (show 2 ≤ sizeLine by decide), fun tq htq => ?_⟩
    refine ⟨_, tq, _, _, _, _, rfl, upd_same, .cons (.ty _) (.cons (.ty _) .nil), .base (.bl b), kit2 k_bool_bool k_bool_str, true, rfl, iteT ?_⟩
    refine ⟨_, rfl, _, rfl, (by cases b <;> rfl), ?_⟩
    rw [decide_eq_true rfl]
    exact q _ (S1.trans (same_new htq _))
  | str b =>
    cases hy
    refine ⟨_, rfl, (show 2 ≤ sizeLine by decide), fun tp htp => ?_⟩
    have S1 : Same H (upd H tp (.tup [.ty "tuple", .ty "list"])) := same_new htp _
    refine ⟨_, tp, _, _, _, _, rfl, upd_same, .cons (.ty _) (.cons (.ty _) .nil), .base (.str b), kit2 k_str_tuple k_str_list, false, rfl, iteF ?_⟩
    refine ⟨_, rfl, rfl, _, rfl, iteF ?_⟩
    refine ⟨_, rfl, _, _, _, _, _, rfl, .ty _, .base (.str b), k_str_bool, false, rfl, iteF ?_⟩
    refine ⟨_, rfl, _, _, _, _, _, rfl, .ty _, .base (.str b), k_str_str, true, rfl, iteT ?_⟩
    refine ⟨_, rfl, _, _, _, _, _, rfl, .ty _, .base (.str b), k_str_bool, _, rfl, _, _, _, _, _, rfl, .ty _, .base (.str b), k_str_bool, rfl, true, rfl, iteT ?_⟩
    refine ⟨_, rfl, (show 2 ≤ sizeLine by decide), fun tq htq => ?_⟩
    refine ⟨_, tq, _, _, _, _, rfl, upd_same, .cons (.ty _) (.cons (.ty _) .nil), .base (.str b), kit2 k_str_bool k_str_str, true, rfl, iteT ?_⟩
    refine ⟨_, rfl, _, rfl, rfl, ?_⟩
    rw [decide_eq_true rfl]
    exact q _ (S1.trans (same_new htq _))
  | int b =>
    cases hy
    refine ⟨_, rfl, (show 2 ≤ sizeLine by decide), fun tp htp => ?_⟩
    have S1 : Same H (upd H tp (.tup [.ty "tuple", .ty "list"])) := same_new htp _
    refine ⟨_, tp, _, _, _, _, rfl, upd_same, .cons (.ty _) (.cons (.ty _) .nil), .base (.int b), kit2 k_int_tuple k_int_list, false, rfl, iteF ?_⟩
    refine ⟨_, rfl, rfl, _, rfl, iteF ?_⟩
    refine ⟨_, rfl, _, _, _, _, _, rfl, .ty _, .base (.int b), k_int_bool, false, rfl, iteF ?_⟩
    refine ⟨_, rfl, _, _, _, _, _, rfl, .ty _, .base (.int b), k_int_str, false, rfl, iteF ?_⟩
    refine ⟨_, rfl, _, _, _, _, _, rfl, .ty _, .base (.int b), k_int_int, true, rfl, iteT ?_⟩
    refine ⟨_, rfl, _, _, _, _, _, rfl, .ty _, .base (.int b), k_int_bool, false, rfl, true, rfl, iteT ?_⟩
    refine ⟨_, rfl, _, rfl, rfl, ?_⟩
    rw [decide_eq_true rfl]
    exact q _ S1

theorem ok_lodd (F : Fun K "_law_odd" "_law_odd" s_lodd f_lodd d_lodd) (T : Txt K mg f_is_number f_is_from_to f_is_word f_is_tuple_of f_is_run f_is_runs f_is_apart f_many_in f_both f_less f_what_is_left f_is_within f_is_bundling f_laid f_lfeed f_ldraw f_lnames f_lhas f_lmade f_lis_number f_lis_word f_lis_run f_lis_runs f_lalike f_lodd f_lbent f_lspoilt f_lbundling f_lmany f_lis_bundling f_lmenu f_llaid f_llot f_lright f_law)
    (F_ldraw : Fun K "_law_draw" "_law_draw" s_ldraw f_ldraw d_ldraw) (b_ldraw : Binds K d_ldraw ["_law_feed_here", "_law_many_here"] []) (G_ldraw : FnOk P w K mg base CX0 (1) f_ldraw d_ldraw ["_law_feed_here", "_law_many_here"] spDraw) :
    FnOk P w K mg base CX0 (2) f_lodd d_lodd ["_law_feed_here", "_law_thing"] spOdd := by
  refine F.ok sc_lodd (fun vs H Q E h => ?_) (fun cdv A outer s H vs Q E hr h => ?_)

  · obtain ⟨f, c0, v, d, n, k, c, B, rfl, _⟩ := h
    rfl
  obtain ⟨f, c0, v, d, n, k, c, B, rfl, hf, hn, hd, ⟨fd, cd⟩, hk, hc, hB1, hB2, q⟩ := h
  refine ⟨_, (pss_cons (ps_set (i := 2) sc_lodd.nd rfl (.inl rfl) (pe_call G_ldraw hr (by rfl) T.m_ldraw F_ldraw.kp b_ldraw .nil pass0 (pa_cons (pv 0) (pa_cons pe_int pa_nil))))
  (pss_cons (ps_if (pt_val (pe_callB call_isi (by rfl) T.isinstance (by decide +kernel) (pa_cons (pv 1) (pa_cons (pe_bltn (v := .ty "list") (by rfl) T.list (by decide +kernel) rfl) pa_nil))))
  (pss_one (ps_ret (pe_callTy call_tuple_of (by rfl) T.tuple (by decide +kernel) (pa_cons (pv 1) pa_nil))))
  pss_nil)
  (pss_cons (ps_if (pt_val (pe_callB call_isi (by rfl) T.isinstance (by decide +kernel) (pa_cons (pv 1) (pa_cons (pe_bltn (v := .ty "tuple") (by rfl) T.tuple (by decide +kernel) rfl) pa_nil))))
  (pss_cons (ps_par (by rfl) sc_lodd.nd (i := 3) (j := 4) rfl rfl (by decide) rfl rfl (pa_cons (pe_call G_ldraw hr (by rfl) T.m_ldraw F_ldraw.kp b_ldraw .nil pass0 (pa_cons (pv 0) (pa_cons (pe_op op_add (pe_callB call_len_seq (by rfl) T.len (by decide +kernel) (pa_cons (pv 1) pa_nil)) pe_int) pa_nil))) (pa_cons (pe_call G_ldraw hr (by rfl) T.m_ldraw F_ldraw.kp b_ldraw .nil pass0 (pa_cons (pv 0) (pa_cons (pe_op op_add (pe_callB call_len_seq (by rfl) T.len (by decide +kernel) (pa_cons (pv 1) pa_nil)) pe_int) pa_nil))) pa_nil)) (by rfl))
  (pss_cons (ps_set (i := 5) sc_lodd.nd rfl (.inl rfl) (pe_op op_catTk (pe_op op_catTk (pe_slice sl_tupTk (pv 1) po_none (po_some (pv 3))) (pe_slice sl_tupTk (pv 1) (po_some (pv 3)) (po_some (pe_op op_add (pv 3) pe_int)))) (pe_slice sl_tupTk (pv 1) (po_some (pv 3)) po_none)))
  (pss_cons (ps_set (i := 6) sc_lodd.nd rfl (.inl rfl) (pe_lst (pa_cons (pe_callTy call_list_of (by rfl) T.list (by decide +kernel) (pa_cons (pv 1) pa_nil)) (pa_cons (pe_op op_catTk (pe_slice sl_tupTk (pv 1) po_none (po_some (pv 3))) (pe_slice sl_tupTk (pv 1) (po_some (pe_op op_add (pv 3) pe_int)) po_none)) (pa_cons (pv 5) (pa_cons (pe_revT (pv 1)) (pa_cons (pe_op op_catTk (pv 1) (pe_tup (pa_cons pe_non pa_nil))) (pa_cons (pe_op op_catTk (pe_slice sl_tupTk (pv 1) (po_some (pv 4)) po_none) (pe_slice sl_tupTk (pv 1) po_none (po_some (pv 4)))) pa_nil))))))))
  (pss_one (ps_ret (pe_ix ix_list (pe_op op_cat (pv 6) (pe_lst (pa_cons pe_non (pa_cons (pe_op op_catTk (pe_op op_catTk (pe_slice sl_tupTk (pv 1) po_none (po_some (pv 3))) (pe_tup (pa_cons (pe_tup pa_nil) pa_nil))) (pe_slice sl_tupTk (pv 1) (po_some (pv 3)) po_none)) pa_nil)))) (pv 2) (fun _ _ => rfl)))))))
  pss_nil)
  (pss_cons (ps_if (pt_val (pe_callB call_isi (by rfl) T.isinstance (by decide +kernel) (pa_cons (pv 1) (pa_cons (pe_bltn (v := .ty "str") (by rfl) T.str (by decide +kernel) rfl) pa_nil))))
  (pss_cons (ps_set (i := 7) sc_lodd.nd rfl (.inl rfl) (pe_ix ix_str pe_str (pe_call G_ldraw hr (by rfl) T.m_ldraw F_ldraw.kp b_ldraw .nil pass0 (pa_cons (pv 0) (pa_cons pe_int pa_nil))) (fun _ _ => rfl)))
  (pss_cons (ps_set (i := 3) sc_lodd.nd rfl (.inl rfl) (pe_call G_ldraw hr (by rfl) T.m_ldraw F_ldraw.kp b_ldraw .nil pass0 (pa_cons (pv 0) (pa_cons (pe_op op_add (pe_callB call_len_str (by rfl) T.len (by decide +kernel) (pa_cons (pv 1) pa_nil)) pe_int) pa_nil))))
  (pss_cons (ps_set (i := 6) sc_lodd.nd rfl (.inl rfl) (pe_lst (pa_cons (pe_op op_add_str (pv 1) (pv 7)) (pa_cons (pe_op op_add_str (pe_op op_add_str (pe_slice sl_str (pv 1) po_none (po_some (pv 3))) (pv 7)) (pe_slice sl_str (pv 1) (po_some (pv 3)) po_none)) (pa_cons (pe_slice sl_str (pv 1) (po_some pe_int) po_none) (pa_cons (pe_op op_add_str (pe_op op_add_str (pe_slice sl_str (pv 1) po_none (po_some (pv 3))) (pv 7)) (pe_slice sl_str (pv 1) (po_some (pe_op op_add (pv 3) pe_int)) po_none)) (pa_cons pe_str (pa_cons (pv 7) pa_nil))))))))
  (pss_one (ps_ret (pe_ix ix_list (pe_op op_cat (pv 6) (pe_lst (pa_cons pe_int (pa_cons (pe_tup (pa_cons (pv 1) pa_nil)) pa_nil)))) (pv 2) (fun _ _ => rfl)))))))
  pss_nil)
  (pss_cons (ps_if (PW.pt (pw_or (pt_cmpR op_isN (pv 1) pe_non (nomark _)) (pw_or1 (pt_val (pe_callB call_isi (by rfl) T.isinstance (by decide +kernel) (pa_cons (pv 1) (pa_cons (pe_bltn (v := .ty "bool") (by rfl) T.bool (by decide +kernel) rfl) pa_nil)))))))
  (pss_one (ps_ret (pe_ix ix_list (pe_lst (pa_cons pe_non (pa_cons pe_int (pa_cons pe_int (pa_cons pe_str (pa_cons (pe_tup pa_nil) (pa_cons pe_bl (pa_cons pe_bl (pa_cons (pe_un un_neg pe_int) pa_nil))))))))) (pv 2) (fun _ _ => rfl))))
  pss_nil)
  (pss_one (ps_ret (pe_ix ix_list (pe_lst (pa_cons (pe_op op_add (pv 1) pe_int) (pa_cons (pe_op op_sub (pv 1) pe_int) (pa_cons pe_int (pa_cons (pe_un un_neg pe_int) (pa_cons (pe_op op_pow pe_int pe_int) (pa_cons (pe_cmpR op_eq (pv 1) pe_int (nomark _)) (pa_cons (pe_op op_add (pe_op op_pow pe_int pe_int) pe_int) (pa_cons pe_str pa_nil))))))))) (pv 2) (fun _ _ => rfl))))))))), ?_⟩
  refine ⟨_, rfl, f, c0, 8, n, rfl, hf, by omega, by decide, by decide, fun way Ha y0 y1 hfa ba _ => ?_⟩
  have hd := hd.but (fun _ z => z) ba hf
  have t39 : (10 ^ 39 : Int) = 1000000000000000000000000000000000000000 := by decide +kernel
  have B40 : B + 1 ≤ 10 ^ 40 := by rw [t40]; rw [t39] at hB2; omega
  cases hd with
  | lst hna hl hx =>
    rename_i a xs ds
    refine ⟨_, rfl, _, _, _, _, _, rfl, .ty _, .base (.lst hl), k_list_list, _, rfl, iteT ?_⟩
    refine ⟨_, rfl, a, _, rfl, .inl ⟨SqL.of hl, fun t nt => ?_⟩⟩
    have S := same_new nt (.tup xs)
    obtain ⟨m, rfl, fp⟩ := fin_partL fd
    have cd : costAll ds + 3 ≤ c := cd
    exact q _ _ ((hfa.same S).mono (by omega)) (ba.trans (But.of_same S)) ((gv_tup upd_same (hx.same S) fp cd).mono (by omega) (by omega) (by omega))
  | tup ht hx =>
    rename_i t xs ds
    refine ⟨_, rfl, _, _, _, _, _, rfl, .ty _, .base (.tup ht), k_tuple_list, _, rfl, iteF ?_⟩
    refine ⟨_, rfl, _, _, _, _, _, rfl, .ty _, .base (.tup ht), k_tuple_tuple, _, rfl, iteT ?_⟩
    have ln := hx.len
    have cd : costAll ds + 3 ≤ c := cd
    have cl := cost_len ds
    have lx : xs.length ≤ 4000000 := by omega
    have lc2 : ∀ lo hi : Option Int, (cutV xs lo hi).length ≤ 2000000 := fun lo hi => Nat.le_trans (cutV_length _ _ _) (by omega)
    have lc : ∀ lo hi : Option Int, (cutV xs lo hi).length ≤ 4000000 := fun lo hi => Nat.le_trans (cutV_length _ _ _) lx
    have app2 : ∀ {a b : List V}, a.length ≤ 2000000 → b.length ≤ 2000000 → (a ++ b).length ≤ 4000000 := fun h k => by rw [List.length_append]; omega
    have small : ∀ {n : Nat}, n ≤ 10000000 → n ≤ sizeLine := fun h => Nat.le_trans h (by decide)
    have le2 : ∀ {a b : List V}, a.length ≤ 4000000 → b.length ≤ 4000000 → a.length + b.length ≤ 10000000 := fun h k => by omega
    have bump : ∀ {Hx : Hp}, But f Ha Hx → Hx t = some (.tup xs) := fun b => by
      obtain ⟨zs, hz⟩ := hfa.at
      exact b _ _ (ne_of ht hz fun z => nomatch z) ht
    refine ⟨_, rfl, _, rfl, t, _, rfl, .inr (SqT.of ht), _, _, rfl, rfl, f, c0, _, _, rfl, hfa, by omega, by omega, by omega, fun at_ Hb a0 a1 hfb bb _ => ?_⟩
    refine ⟨_, rfl, _, rfl, t, _, rfl, .inr (SqT.of (bump bb)), _, _, rfl, rfl, f, c0, _, _, rfl, hfb, by omega, by omega, by omega, fun by_ Hd z0 z1 hfd bd _ => ?_⟩
    have ht := bump (bb.trans bd)
    have bD := ba.trans (bb.trans bd)
    refine ⟨_, _, rfl, ?_⟩
    have UG0 : Same Hd Hd := Same.refl _
    refine ⟨_, rfl, _, rfl, _, rfl, t, _, rfl, ht, fun w1 G1 SG1 hw1 => ?_⟩
    have UG1 := UG0.trans SG1
    have ht := SG1 _ _ ht
    refine ⟨_, rfl, _, rfl, _, rfl, _, rfl, _, _, rfl, rfl, _, rfl, t, _, rfl, ht, fun w2 G2 SG2 hw2 => ?_⟩
    have UG2 := UG1.trans SG2
    have ht := SG2 _ _ ht
    have hw1 := SG2 _ _ hw1
    refine ⟨w1, w2, _, _, rfl, rfl, hw1, hw2, small (le2 (lc _ _) (lc _ _)), fun w3 G3 SG3 hw3 => ?_⟩
    have UG3 := UG2.trans SG3
    have ht := SG3 _ _ ht
    have hw1 := SG3 _ _ hw1
    have hw2 := SG3 _ _ hw2
    refine ⟨_, rfl, _, rfl, _, rfl, t, _, rfl, ht, fun w4 G4 SG4 hw4 => ?_⟩
    have UG4 := UG3.trans SG4
    have ht := SG4 _ _ ht
    have hw1 := SG4 _ _ hw1
    have hw2 := SG4 _ _ hw2
    have hw3 := SG4 _ _ hw3
    refine ⟨w3, w4, _, _, rfl, rfl, hw3, hw4, small (le2 (app2 (lc2 _ _) (lc2 _ _)) (lc _ _)), fun v2 G5 SG5 hv2 => ?_⟩
    have UG5 := UG4.trans SG5
    have ht := SG5 _ _ ht
    have hw1 := SG5 _ _ hw1
    have hw2 := SG5 _ _ hw2
    have hw3 := SG5 _ _ hw3
    have hw4 := SG5 _ _ hw4
    refine ⟨_, rfl, t, _, rfl, .inr (SqT.of ht), fun l0 nl0 => ?_⟩
    have SG6 := same_new nl0 (.lst xs)
    have hl0 : upd G5 l0 (.lst xs) l0 = some (.lst xs) := upd_same
    generalize hhG6 : upd G5 l0 (.lst xs) = G6 at *
    clear hhG6
    have UG6 := UG5.trans SG6
    have ht := SG6 _ _ ht
    have hw1 := SG6 _ _ hw1
    have hw2 := SG6 _ _ hw2
    have hw3 := SG6 _ _ hw3
    have hw4 := SG6 _ _ hw4
    have hv2 := SG6 _ _ hv2
    have nel0 := (hfd.same UG5).ne nl0
    refine ⟨_, rfl, _, rfl, _, rfl, t, _, rfl, ht, fun q1 G7 SG7 hq1 => ?_⟩
    have UG7 := UG6.trans SG7
    have ht := SG7 _ _ ht
    have hw1 := SG7 _ _ hw1
    have hw2 := SG7 _ _ hw2
    have hw3 := SG7 _ _ hw3
    have hw4 := SG7 _ _ hw4
    have hv2 := SG7 _ _ hv2
    have hl0 := SG7 _ _ hl0
    refine ⟨_, rfl, _, rfl, _, _, rfl, rfl, _, rfl, t, _, rfl, ht, fun q2 G8 SG8 hq2 => ?_⟩
    have UG8 := UG7.trans SG8
    have ht := SG8 _ _ ht
    have hw1 := SG8 _ _ hw1
    have hw2 := SG8 _ _ hw2
    have hw3 := SG8 _ _ hw3
    have hw4 := SG8 _ _ hw4
    have hv2 := SG8 _ _ hv2
    have hl0 := SG8 _ _ hl0
    have hq1 := SG8 _ _ hq1
    refine ⟨q1, q2, _, _, rfl, rfl, hq1, hq2, small (le2 (lc _ _) (lc _ _)), fun v1 G9 SG9 hv1 => ?_⟩
    have UG9 := UG8.trans SG9
    have ht := SG9 _ _ ht
    have hw1 := SG9 _ _ hw1
    have hw2 := SG9 _ _ hw2
    have hw3 := SG9 _ _ hw3
    have hw4 := SG9 _ _ hw4
    have hv2 := SG9 _ _ hv2
    have hl0 := SG9 _ _ hl0
    have hq1 := SG9 _ _ hq1
    have hq2 := SG9 _ _ hq2
    refine ⟨_, rfl, ?_⟩
    refine ⟨_, rfl, t, _, rfl, SqT.of ht, fun v3 nv3 => ?_⟩
    have SG10 := same_new nv3 (.tup xs.reverse)
    have hv3 : upd G9 v3 (.tup xs.reverse) v3 = some (.tup xs.reverse) := upd_same
    generalize hhG10 : upd G9 v3 (.tup xs.reverse) = G10 at *
    clear hhG10
    have UG10 := UG9.trans SG10
    have ht := SG10 _ _ ht
    have hw1 := SG10 _ _ hw1
    have hw2 := SG10 _ _ hw2
    have hw3 := SG10 _ _ hw3
    have hw4 := SG10 _ _ hw4
    have hv2 := SG10 _ _ hv2
    have hl0 := SG10 _ _ hl0
    have hq1 := SG10 _ _ hq1
    have hq2 := SG10 _ _ hq2
    have hv1 := SG10 _ _ hv1
    refine ⟨_, rfl, (show 1 ≤ sizeLine by decide), fun o1 no1 => ?_⟩
    have SG11 := same_new no1 (.tup [V.non])
    have ho1 : upd G10 o1 (.tup [V.non]) o1 = some (.tup [V.non]) := upd_same
    generalize hhG11 : upd G10 o1 (.tup [V.non]) = G11 at *
    clear hhG11
    have UG11 := UG10.trans SG11
    have ht := SG11 _ _ ht
    have hw1 := SG11 _ _ hw1
    have hw2 := SG11 _ _ hw2
    have hw3 := SG11 _ _ hw3
    have hw4 := SG11 _ _ hw4
    have hv2 := SG11 _ _ hv2
    have hl0 := SG11 _ _ hl0
    have hq1 := SG11 _ _ hq1
    have hq2 := SG11 _ _ hq2
    have hv1 := SG11 _ _ hv1
    have hv3 := SG11 _ _ hv3
    refine ⟨t, o1, _, _, rfl, rfl, ht, ho1, small (le2 lx (Nat.le_of_ble_eq_true rfl)), fun v4 G12 SG12 hv4 => ?_⟩
    have UG12 := UG11.trans SG12
    have ht := SG12 _ _ ht
    have hw1 := SG12 _ _ hw1
    have hw2 := SG12 _ _ hw2
    have hw3 := SG12 _ _ hw3
    have hw4 := SG12 _ _ hw4
    have hv2 := SG12 _ _ hv2
    have hl0 := SG12 _ _ hl0
    have hq1 := SG12 _ _ hq1
    have hq2 := SG12 _ _ hq2
    have hv1 := SG12 _ _ hv1
    have hv3 := SG12 _ _ hv3
    have ho1 := SG12 _ _ ho1
    refine ⟨_, rfl, _, rfl, _, rfl, t, _, rfl, ht, fun q3 G13 SG13 hq3 => ?_⟩
    have UG13 := UG12.trans SG13
    have ht := SG13 _ _ ht
    have hw1 := SG13 _ _ hw1
    have hw2 := SG13 _ _ hw2
    have hw3 := SG13 _ _ hw3
    have hw4 := SG13 _ _ hw4
    have hv2 := SG13 _ _ hv2
    have hl0 := SG13 _ _ hl0
    have hq1 := SG13 _ _ hq1
    have hq2 := SG13 _ _ hq2
    have hv1 := SG13 _ _ hv1
    have hv3 := SG13 _ _ hv3
    have ho1 := SG13 _ _ ho1
    have hv4 := SG13 _ _ hv4
    refine ⟨_, rfl, _, rfl, _, rfl, t, _, rfl, ht, fun q4 G14 SG14 hq4 => ?_⟩
    have UG14 := UG13.trans SG14
    have ht := SG14 _ _ ht
    have hw1 := SG14 _ _ hw1
    have hw2 := SG14 _ _ hw2
    have hw3 := SG14 _ _ hw3
    have hw4 := SG14 _ _ hw4
    have hv2 := SG14 _ _ hv2
    have hl0 := SG14 _ _ hl0
    have hq1 := SG14 _ _ hq1
    have hq2 := SG14 _ _ hq2
    have hv1 := SG14 _ _ hv1
    have hv3 := SG14 _ _ hv3
    have ho1 := SG14 _ _ ho1
    have hv4 := SG14 _ _ hv4
    have hq3 := SG14 _ _ hq3
    refine ⟨q3, q4, _, _, rfl, rfl, hq3, hq4, small (le2 (lc _ _) (lc _ _)), fun v5 G15 SG15 hv5 => ?_⟩
    have UG15 := UG14.trans SG15
    have ht := SG15 _ _ ht
    have hw1 := SG15 _ _ hw1
    have hw2 := SG15 _ _ hw2
    have hw3 := SG15 _ _ hw3
    have hw4 := SG15 _ _ hw4
    have hv2 := SG15 _ _ hv2
    have hl0 := SG15 _ _ hl0
    have hq1 := SG15 _ _ hq1
    have hq2 := SG15 _ _ hq2
    have hv1 := SG15 _ _ hv1
    have hv3 := SG15 _ _ hv3
    have ho1 := SG15 _ _ ho1
    have hv4 := SG15 _ _ hv4
    have hq3 := SG15 _ _ hq3
    have hq4 := SG15 _ _ hq4
    refine ⟨(show 6 ≤ sizeLine by decide), fun la nla => ?_⟩
    have SG16 := same_new nla (.lst [V.ref l0, .ref v1, .ref v2, .ref v3, .ref v4, .ref v5])
    have hla : upd G15 la (.lst [V.ref l0, .ref v1, .ref v2, .ref v3, .ref v4, .ref v5]) la = some (.lst [V.ref l0, .ref v1, .ref v2, .ref v3, .ref v4, .ref v5]) := upd_same
    generalize hhG16 : upd G15 la (.lst [V.ref l0, .ref v1, .ref v2, .ref v3, .ref v4, .ref v5]) = G16 at *
    clear hhG16
    have UG16 := UG15.trans SG16
    have ht := SG16 _ _ ht
    have hw1 := SG16 _ _ hw1
    have hw2 := SG16 _ _ hw2
    have hw3 := SG16 _ _ hw3
    have hw4 := SG16 _ _ hw4
    have hv2 := SG16 _ _ hv2
    have hl0 := SG16 _ _ hl0
    have hq1 := SG16 _ _ hq1
    have hq2 := SG16 _ _ hq2
    have hv1 := SG16 _ _ hv1
    have hv3 := SG16 _ _ hv3
    have ho1 := SG16 _ _ ho1
    have hv4 := SG16 _ _ hv4
    have hq3 := SG16 _ _ hq3
    have hq4 := SG16 _ _ hq4
    have hv5 := SG16 _ _ hv5
    refine ⟨_, rfl, ?_⟩
    refine ⟨_, rfl, _, rfl, _, rfl, t, _, rfl, ht, fun q5 G17 SG17 hq5 => ?_⟩
    have UG17 := UG16.trans SG17
    have ht := SG17 _ _ ht
    have hw1 := SG17 _ _ hw1
    have hw2 := SG17 _ _ hw2
    have hw3 := SG17 _ _ hw3
    have hw4 := SG17 _ _ hw4
    have hv2 := SG17 _ _ hv2
    have hl0 := SG17 _ _ hl0
    have hq1 := SG17 _ _ hq1
    have hq2 := SG17 _ _ hq2
    have hv1 := SG17 _ _ hv1
    have hv3 := SG17 _ _ hv3
    have ho1 := SG17 _ _ ho1
    have hv4 := SG17 _ _ hv4
    have hq3 := SG17 _ _ hq3
    have hq4 := SG17 _ _ hq4
    have hv5 := SG17 _ _ hv5
    have hla := SG17 _ _ hla
    refine ⟨(show 0 ≤ sizeLine by decide), fun e0 ne0 => ?_⟩
    have SG18 := same_new ne0 (.tup [])
    have he0 : upd G17 e0 (.tup []) e0 = some (.tup []) := upd_same
    generalize hhG18 : upd G17 e0 (.tup []) = G18 at *
    clear hhG18
    have UG18 := UG17.trans SG18
    have ht := SG18 _ _ ht
    have hw1 := SG18 _ _ hw1
    have hw2 := SG18 _ _ hw2
    have hw3 := SG18 _ _ hw3
    have hw4 := SG18 _ _ hw4
    have hv2 := SG18 _ _ hv2
    have hl0 := SG18 _ _ hl0
    have hq1 := SG18 _ _ hq1
    have hq2 := SG18 _ _ hq2
    have hv1 := SG18 _ _ hv1
    have hv3 := SG18 _ _ hv3
    have ho1 := SG18 _ _ ho1
    have hv4 := SG18 _ _ hv4
    have hq3 := SG18 _ _ hq3
    have hq4 := SG18 _ _ hq4
    have hv5 := SG18 _ _ hv5
    have hla := SG18 _ _ hla
    have hq5 := SG18 _ _ hq5
    refine ⟨(show 1 ≤ sizeLine by decide), fun o2 no2 => ?_⟩
    have SG19 := same_new no2 (.tup [V.ref e0])
    have ho2 : upd G18 o2 (.tup [V.ref e0]) o2 = some (.tup [V.ref e0]) := upd_same
    generalize hhG19 : upd G18 o2 (.tup [V.ref e0]) = G19 at *
    clear hhG19
    have UG19 := UG18.trans SG19
    have ht := SG19 _ _ ht
    have hw1 := SG19 _ _ hw1
    have hw2 := SG19 _ _ hw2
    have hw3 := SG19 _ _ hw3
    have hw4 := SG19 _ _ hw4
    have hv2 := SG19 _ _ hv2
    have hl0 := SG19 _ _ hl0
    have hq1 := SG19 _ _ hq1
    have hq2 := SG19 _ _ hq2
    have hv1 := SG19 _ _ hv1
    have hv3 := SG19 _ _ hv3
    have ho1 := SG19 _ _ ho1
    have hv4 := SG19 _ _ hv4
    have hq3 := SG19 _ _ hq3
    have hq4 := SG19 _ _ hq4
    have hv5 := SG19 _ _ hv5
    have hla := SG19 _ _ hla
    have hq5 := SG19 _ _ hq5
    have he0 := SG19 _ _ he0
    refine ⟨q5, o2, _, _, rfl, rfl, hq5, ho2, small (le2 (lc _ _) (Nat.le_of_ble_eq_true rfl)), fun q6 G20 SG20 hq6 => ?_⟩
    have UG20 := UG19.trans SG20
    have ht := SG20 _ _ ht
    have hw1 := SG20 _ _ hw1
    have hw2 := SG20 _ _ hw2
    have hw3 := SG20 _ _ hw3
    have hw4 := SG20 _ _ hw4
    have hv2 := SG20 _ _ hv2
    have hl0 := SG20 _ _ hl0
    have hq1 := SG20 _ _ hq1
    have hq2 := SG20 _ _ hq2
    have hv1 := SG20 _ _ hv1
    have hv3 := SG20 _ _ hv3
    have ho1 := SG20 _ _ ho1
    have hv4 := SG20 _ _ hv4
    have hq3 := SG20 _ _ hq3
    have hq4 := SG20 _ _ hq4
    have hv5 := SG20 _ _ hv5
    have hla := SG20 _ _ hla
    have hq5 := SG20 _ _ hq5
    have he0 := SG20 _ _ he0
    have ho2 := SG20 _ _ ho2
    refine ⟨_, rfl, _, rfl, _, rfl, t, _, rfl, ht, fun q7 G21 SG21 hq7 => ?_⟩
    have UG21 := UG20.trans SG21
    have ht := SG21 _ _ ht
    have hw1 := SG21 _ _ hw1
    have hw2 := SG21 _ _ hw2
    have hw3 := SG21 _ _ hw3
    have hw4 := SG21 _ _ hw4
    have hv2 := SG21 _ _ hv2
    have hl0 := SG21 _ _ hl0
    have hq1 := SG21 _ _ hq1
    have hq2 := SG21 _ _ hq2
    have hv1 := SG21 _ _ hv1
    have hv3 := SG21 _ _ hv3
    have ho1 := SG21 _ _ ho1
    have hv4 := SG21 _ _ hv4
    have hq3 := SG21 _ _ hq3
    have hq4 := SG21 _ _ hq4
    have hv5 := SG21 _ _ hv5
    have hla := SG21 _ _ hla
    have hq5 := SG21 _ _ hq5
    have he0 := SG21 _ _ he0
    have ho2 := SG21 _ _ ho2
    have hq6 := SG21 _ _ hq6
    refine ⟨q6, q7, _, _, rfl, rfl, hq6, hq7, small (le2 (app2 (lc2 _ _) (Nat.le_of_ble_eq_true rfl)) (lc _ _)), fun v7 G22 SG22 hv7 => ?_⟩
    have UG22 := UG21.trans SG22
    have ht := SG22 _ _ ht
    have hw1 := SG22 _ _ hw1
    have hw2 := SG22 _ _ hw2
    have hw3 := SG22 _ _ hw3
    have hw4 := SG22 _ _ hw4
    have hv2 := SG22 _ _ hv2
    have hl0 := SG22 _ _ hl0
    have hq1 := SG22 _ _ hq1
    have hq2 := SG22 _ _ hq2
    have hv1 := SG22 _ _ hv1
    have hv3 := SG22 _ _ hv3
    have ho1 := SG22 _ _ ho1
    have hv4 := SG22 _ _ hv4
    have hq3 := SG22 _ _ hq3
    have hq4 := SG22 _ _ hq4
    have hv5 := SG22 _ _ hv5
    have hla := SG22 _ _ hla
    have hq5 := SG22 _ _ hq5
    have he0 := SG22 _ _ he0
    have ho2 := SG22 _ _ ho2
    have hq6 := SG22 _ _ hq6
    have hq7 := SG22 _ _ hq7
    refine ⟨(show 2 ≤ sizeLine by decide), fun lb nlb => ?_⟩
    have SG23 := same_new nlb (.lst [V.non, .ref v7])
    have hlb : upd G22 lb (.lst [V.non, .ref v7]) lb = some (.lst [V.non, .ref v7]) := upd_same
    generalize hhG23 : upd G22 lb (.lst [V.non, .ref v7]) = G23 at *
    clear hhG23
    have UG23 := UG22.trans SG23
    have ht := SG23 _ _ ht
    have hw1 := SG23 _ _ hw1
    have hw2 := SG23 _ _ hw2
    have hw3 := SG23 _ _ hw3
    have hw4 := SG23 _ _ hw4
    have hv2 := SG23 _ _ hv2
    have hl0 := SG23 _ _ hl0
    have hq1 := SG23 _ _ hq1
    have hq2 := SG23 _ _ hq2
    have hv1 := SG23 _ _ hv1
    have hv3 := SG23 _ _ hv3
    have ho1 := SG23 _ _ ho1
    have hv4 := SG23 _ _ hv4
    have hq3 := SG23 _ _ hq3
    have hq4 := SG23 _ _ hq4
    have hv5 := SG23 _ _ hv5
    have hla := SG23 _ _ hla
    have hq5 := SG23 _ _ hq5
    have he0 := SG23 _ _ he0
    have ho2 := SG23 _ _ ho2
    have hq6 := SG23 _ _ hq6
    have hq7 := SG23 _ _ hq7
    have hv7 := SG23 _ _ hv7
    refine ⟨la, lb, _, _, rfl, rfl, hla, hlb, (show 8 ≤ sizeLine by decide), fun lz nlz => ?_⟩
    have SG24 := same_new nlz (.lst ([V.ref l0, .ref v1, .ref v2, .ref v3, .ref v4, .ref v5] ++ [V.non, .ref v7]))
    have hlz : upd G23 lz (.lst ([V.ref l0, .ref v1, .ref v2, .ref v3, .ref v4, .ref v5] ++ [V.non, .ref v7])) lz = some (.lst ([V.ref l0, .ref v1, .ref v2, .ref v3, .ref v4, .ref v5] ++ [V.non, .ref v7])) := upd_same
    generalize hhG24 : upd G23 lz (.lst ([V.ref l0, .ref v1, .ref v2, .ref v3, .ref v4, .ref v5] ++ [V.non, .ref v7])) = G24 at *
    clear hhG24
    have UG24 := UG23.trans SG24
    have ht := SG24 _ _ ht
    have hw1 := SG24 _ _ hw1
    have hw2 := SG24 _ _ hw2
    have hw3 := SG24 _ _ hw3
    have hw4 := SG24 _ _ hw4
    have hv2 := SG24 _ _ hv2
    have hl0 := SG24 _ _ hl0
    have hq1 := SG24 _ _ hq1
    have hq2 := SG24 _ _ hq2
    have hv1 := SG24 _ _ hv1
    have hv3 := SG24 _ _ hv3
    have ho1 := SG24 _ _ ho1
    have hv4 := SG24 _ _ hv4
    have hq3 := SG24 _ _ hq3
    have hq4 := SG24 _ _ hq4
    have hv5 := SG24 _ _ hv5
    have hla := SG24 _ _ hla
    have hq5 := SG24 _ _ hq5
    have he0 := SG24 _ _ he0
    have ho2 := SG24 _ _ ho2
    have hq6 := SG24 _ _ hq6
    have hq7 := SG24 _ _ hq7
    have hv7 := SG24 _ _ hv7
    have hlb := SG24 _ _ hlb
    obtain ⟨v, w1, w2⟩ := atI_some (xs := [V.ref l0, .ref v1, .ref v2, .ref v3, .ref v4, .ref v5, .non, .ref v7]) y0 (show way < 8 from y1)
    refine ⟨_, rfl, lz, _, _, _, rfl, rfl, SqL.of hlz, w1, ?_⟩
    refine q _ _ ((hfd.same UG24).mono (by omega)) (bD.trans (But.of_same UG24)) ?_
    have hxE := (hx.but (bb.trans bd) hfa).same UG24
    obtain ⟨m, rfl, fp⟩ := fin_part fd
    have fp1 : ∀ e ∈ ds, Fin3 (m + 1) (B + 1) e := fun e he => (fp e he).mono (Nat.le_succ _) (by omega)
    have cc : ∀ lo hi : Option Int, costAll (cutD ds lo hi) ≤ costAll ds := cost_cut ds
    have two : ∀ {a b : List PyData}, (∀ e ∈ a, Fin3 (m + 1) (B + 1) e) → (∀ e ∈ b, Fin3 (m + 1) (B + 1) e) → ∀ e ∈ a ++ b, Fin3 (m + 1) (B + 1) e := fun h k e he => (List.mem_append.mp he).elim (h e) (k e)
    have fc : ∀ lo hi : Option Int, ∀ e ∈ cutD ds lo hi, Fin3 (m + 1) (B + 1) e := fun lo hi e he => fp1 e (cutD_mem he)
    have f1 : ∀ {d}, Fin3 (m + 1) (B + 1) d → ∀ e ∈ [d], Fin3 (m + 1) (B + 1) e := fun h e he => by rw [List.mem_singleton.mp he]; exact h
    simp only [List.mem_cons, List.not_mem_nil, or_false] at w2
    rcases w2 with rfl | rfl | rfl | rfl | rfl | rfl | rfl | rfl
    · exact gv_lst nel0.1 hl0 hxE fp1 (by omega)
    · refine gv_tup hv1 ((hxE.cut _ _).app (hxE.cut _ _)) (two (fc _ _) (fc _ _)) ?_
      rw [cost_app]
      have k1 := cc none (some at_)
      have k2 := cc (some (at_ + 1)) none
      omega
    · refine gv_tup hv2 (((hxE.cut _ _).app (hxE.cut _ _)).app (hxE.cut _ _)) (two (two (fc _ _) (fc _ _)) (fc _ _)) ?_
      rw [cost_app, cost_app]
      have k1 := cc none (some at_)
      have k2 := cc (some at_) (some (at_ + 1))
      have k3 := cc (some at_) none
      omega
    · refine gv_tup hv3 hxE.rev (fun e he => fp1 e (List.mem_reverse.mp he)) ?_
      rw [cost_rev]
      omega
    · refine gv_tup hv4 (hxE.app (.cons .non .nil)) (two fp1 (f1 fin_non)) ?_
      rw [cost_app]
      have : costAll [PyData.none] = 6 := rfl
      omega
    · refine gv_tup hv5 ((hxE.cut _ _).app (hxE.cut _ _)) (two (fc _ _) (fc _ _)) ?_
      rw [cost_app]
      have k1 := cc (some by_) none
      have k2 := cc none (some by_)
      omega
    · exact gv_non (by omega)
    · refine gv_tup hv7 (((hxE.cut _ _).app (.cons (.tup he0 .nil) .nil)).app (hxE.cut _ _)) (two (two (fc _ _) (f1 ((fin_tup (k := 0) (es := []) (fun e he => nomatch he)).mono (by omega) (Int.le_refl _)))) (fc _ _)) ?_
      rw [cost_app, cost_app]
      have k1 := cc none (some at_)
      have k3 := cc (some at_) none
      have : costAll [PyData.tuple []] = 5 := rfl
      omega
  | str x =>
    refine ⟨_, rfl, _, _, _, _, _, rfl, .ty _, .base (.str x), k_str_list, _, rfl, iteF ?_⟩
    refine ⟨_, rfl, _, _, _, _, _, rfl, .ty _, .base (.str x), k_str_tuple, _, rfl, iteF ?_⟩
    refine ⟨_, rfl, _, _, _, _, _, rfl, .ty _, .base (.str x), k_str_str, _, rfl, iteT ?_⟩
    have cx : 10 * x.length + 2 ≤ c := cd
    have lx : x.length ≤ sizeLine := Nat.le_trans (show x.length ≤ 1000000 by omega) (by decide)
    refine ⟨_, rfl, f, c0, 13, _, rfl, hfa, by omega, by decide, by decide, fun si Hb s0 s1 hfb bb _ => ?_⟩
    obtain ⟨sg, sg1, sg2⟩ := sign_at s0 s1
    refine ⟨_, _, sg, rfl, rfl, (by decide +kernel), sg1, ?_⟩
    refine ⟨_, rfl, _, rfl, x, rfl, lx, _, _, rfl, rfl, f, c0, _, _, rfl, hfb, by omega, by omega, by omega, fun at_ Hc a0 a1 hfc bc _ => ?_⟩
    have bC := ba.trans (bb.trans bc)
    have l1 : (⟨#[sg]⟩ : Str).length = 1 := rfl
    have lcut : ∀ lo hi : Option Int, (cutS x lo hi).length ≤ x.length := cutS_length x
    have la2 : ∀ {a b : Str} {n : Nat}, a.length + b.length ≤ n → (a ++ b).length ≤ n := fun h => by rw [strLen_append]; exact h
    have sz : ∀ {n : Nat}, n ≤ 10000000 → n ≤ sizeLine := fun h => Nat.le_trans h (by decide)
    have cut1 : ∀ lo hi : Option Int, (cutS x lo hi ++ (⟨#[sg]⟩ : Str)).length ≤ x.length + 1 := fun lo hi => la2 (by have := lcut lo hi; omega)
    refine ⟨_, rfl, _, rfl, _, _, rfl, rfl, sz (by omega), ?_⟩
    refine ⟨_, rfl, _, rfl, _, rfl, x, rfl, lx, _, rfl, _, _, rfl, rfl, sz (by have := lcut none (some at_); omega), ?_⟩
    refine ⟨_, rfl, _, rfl, _, rfl, x, rfl, lx, _, _, rfl, rfl, sz (by have := cut1 none (some at_); have := lcut (some at_) none; omega), ?_⟩
    refine ⟨_, rfl, _, rfl, x, rfl, lx, ?_⟩
    refine ⟨_, rfl, _, rfl, _, rfl, x, rfl, lx, _, rfl, _, _, rfl, rfl, sz (by have := lcut none (some at_); omega), ?_⟩
    refine ⟨_, rfl, _, rfl, _, _, rfl, rfl, _, rfl, x, rfl, lx, _, _, rfl, rfl, sz (by have := cut1 none (some at_); have := lcut (some (at_ + 1)) none; omega), ?_⟩
    refine ⟨_, rfl, (show 6 ≤ sizeLine by decide), fun la nla => ?_⟩
    have Sa := same_new nla (.lst [V.str (x ++ ⟨#[sg]⟩), .str ((cutS x none (some at_) ++ ⟨#[sg]⟩) ++ cutS x (some at_) none), .str (cutS x (some 1) none), .str ((cutS x none (some at_) ++ ⟨#[sg]⟩) ++ cutS x (some (at_ + 1)) none), .str (("" : String) : Str), .str ⟨#[sg]⟩])
    refine ⟨_, rfl, _, rfl, (show 1 ≤ sizeLine by decide), fun o1 no1 => ?_⟩
    have So := same_new no1 (.tup [V.str x])
    refine ⟨(show 2 ≤ sizeLine by decide), fun lb nlb => ?_⟩
    have Sb := same_new nlb (.lst [V.int 7, .ref o1])
    refine ⟨la, lb, _, _, rfl, rfl, Sb _ _ (So _ _ upd_same), upd_same, (show 8 ≤ sizeLine by decide), fun lz nlz => ?_⟩
    have Sz := same_new nlz (.lst ([V.str (x ++ ⟨#[sg]⟩), .str ((cutS x none (some at_) ++ ⟨#[sg]⟩) ++ cutS x (some at_) none), .str (cutS x (some 1) none), .str ((cutS x none (some at_) ++ ⟨#[sg]⟩) ++ cutS x (some (at_ + 1)) none), .str (("" : String) : Str), .str ⟨#[sg]⟩] ++ [V.int 7, .ref o1]))
    have SS := Sa.trans (So.trans (Sb.trans Sz))
    have ho := (Sb.trans Sz) _ _ (show _ = some (HO.tup [V.str x]) from upd_same)
    obtain ⟨v, w1, w2⟩ := atI_some (xs := [V.str (x ++ ⟨#[sg]⟩), .str ((cutS x none (some at_) ++ ⟨#[sg]⟩) ++ cutS x (some at_) none), .str (cutS x (some 1) none), .str ((cutS x none (some at_) ++ ⟨#[sg]⟩) ++ cutS x (some (at_ + 1)) none), .str (("" : String) : Str), .str ⟨#[sg]⟩, .int 7, .ref o1]) y0 (show way < 8 from y1)
    refine ⟨_, rfl, lz, _, _, _, rfl, rfl, SqL.of upd_same, w1, ?_⟩
    refine q _ _ ((hfc.same SS).mono (by omega)) (bC.trans (But.of_same SS)) ?_
    have chx := fd.ch
    have chs : ChOk ⟨#[sg]⟩ := ch_one sg2
    have cc := fun lo hi => ch_cut chx lo hi
    simp only [List.mem_cons, List.not_mem_nil, or_false] at w2
    rcases w2 with rfl | rfl | rfl | rfl | rfl | rfl | rfl | rfl
    · exact gv_str (ch_app chx chs) (by have := la2 (a := x) (b := ⟨#[sg]⟩) (n := x.length + 1) (by omega); omega)
    · refine gv_str (ch_app (ch_app (cc _ _) chs) (cc _ _)) ?_
      have k := la2 (a := cutS x none (some at_) ++ ⟨#[sg]⟩) (b := cutS x (some at_) none) (n := 2 * x.length + 1) (by have := cut1 none (some at_); have := lcut (some at_) none; omega)
      omega
    · exact gv_str (cc _ _) (by have := lcut (some 1) none; omega)
    · refine gv_str (ch_app (ch_app (cc _ _) chs) (cc _ _)) ?_
      have k := la2 (a := cutS x none (some at_) ++ ⟨#[sg]⟩) (b := cutS x (some (at_ + 1)) none) (n := 2 * x.length + 1) (by have := cut1 none (some at_); have := lcut (some (at_ + 1)) none; omega)
      omega
    · exact gv_str chE (by have : ((("" : String) : Str)).length = 0 := rfl; omega)
    · exact gv_str chs (by omega)
    · exact gv_int (by omega) (by omega) B40 (by omega)
    · exact (gv_tup (k := k) (es := [.str x]) ho (.cons (.str x) .nil) (fun e he => by rw [List.mem_singleton.mp he]; exact fin_str chx) (show 10 * x.length + 2 + 2 + 0 + 3 ≤ 3 * c + 5000 by omega))
  | non =>
    refine ⟨_, rfl, _, _, _, _, _, rfl, .ty _, .base .non, k_NoneType_list, _, rfl, iteF ?_⟩
    refine ⟨_, rfl, _, _, _, _, _, rfl, .ty _, .base .non, k_NoneType_tuple, _, rfl, iteF ?_⟩
    refine ⟨_, rfl, _, _, _, _, _, rfl, .ty _, .base .non, k_NoneType_str, _, rfl, iteF ?_⟩
    refine ⟨_, rfl, rfl, _, rfl, iteT ?_⟩
    refine ⟨(show 0 ≤ sizeLine by decide), fun e0 ne0 => ?_⟩
    have Se := same_new ne0 (.tup [])
    refine ⟨1, rfl, (show 8 ≤ sizeLine by decide), fun la nla => ?_⟩
    have Sa := same_new nla (.lst [V.non, .int 0, .int 1, .str (("a" : String) : Str), .ref e0, .bl true, .bl false, .int (-1)])
    have he0 := Sa _ _ (show _ = some (HO.tup []) from upd_same)
    have SS := Se.trans Sa
    obtain ⟨v, w1, w2⟩ := atI_some (xs := [V.non, .int 0, .int 1, .str (("a" : String) : Str), .ref e0, .bl true, .bl false, .int (-1)]) y0 (show way < 8 from y1)
    refine ⟨_, rfl, la, _, _, _, rfl, rfl, SqL.of upd_same, w1, ?_⟩
    refine q _ _ ((hfa.same SS).mono (by omega)) (ba.trans (But.of_same SS)) ?_
    simp only [List.mem_cons, List.not_mem_nil, or_false] at w2
    rcases w2 with rfl | rfl | rfl | rfl | rfl | rfl | rfl | rfl
    · exact gv_non (by omega)
    · exact gv_int (by omega) (by omega) B40 (by omega)
    · exact gv_int (by omega) (by omega) B40 (by omega)
    · exact gv_str chA (by have : ((("a" : String) : Str)).length = 1 := rfl; omega)
    · exact (gv_tup (k := k) he0 .nil (fun e he => nomatch he) (show 0 + 3 ≤ 3 * c + 5000 by omega))
    · exact gv_bl _ (by omega)
    · exact gv_bl _ (by omega)
    · exact gv_int (by omega) (by omega) B40 (by omega)
  | bl b =>
    refine ⟨_, rfl, _, _, _, _, _, rfl, .ty _, .base (.bl b), k_bool_list, _, rfl, iteF ?_⟩
    refine ⟨_, rfl, _, _, _, _, _, rfl, .ty _, .base (.bl b), k_bool_tuple, _, rfl, iteF ?_⟩
    refine ⟨_, rfl, _, _, _, _, _, rfl, .ty _, .base (.bl b), k_bool_str, _, rfl, iteF ?_⟩
    refine ⟨_, rfl, rfl, _, rfl, iteF ?_⟩
    refine ⟨_, rfl, _, _, _, _, _, rfl, .ty _, .base (.bl b), k_bool_bool, _, rfl, iteT ?_⟩
    refine ⟨(show 0 ≤ sizeLine by decide), fun e0 ne0 => ?_⟩
    have Se := same_new ne0 (.tup [])
    refine ⟨1, rfl, (show 8 ≤ sizeLine by decide), fun la nla => ?_⟩
    have Sa := same_new nla (.lst [V.non, .int 0, .int 1, .str (("a" : String) : Str), .ref e0, .bl true, .bl false, .int (-1)])
    have he0 := Sa _ _ (show _ = some (HO.tup []) from upd_same)
    have SS := Se.trans Sa
    obtain ⟨v, w1, w2⟩ := atI_some (xs := [V.non, .int 0, .int 1, .str (("a" : String) : Str), .ref e0, .bl true, .bl false, .int (-1)]) y0 (show way < 8 from y1)
    refine ⟨_, rfl, la, _, _, _, rfl, rfl, SqL.of upd_same, w1, ?_⟩
    refine q _ _ ((hfa.same SS).mono (by omega)) (ba.trans (But.of_same SS)) ?_
    simp only [List.mem_cons, List.not_mem_nil, or_false] at w2
    rcases w2 with rfl | rfl | rfl | rfl | rfl | rfl | rfl | rfl
    · exact gv_non (by omega)
    · exact gv_int (by omega) (by omega) B40 (by omega)
    · exact gv_int (by omega) (by omega) B40 (by omega)
    · exact gv_str chA (by have : ((("a" : String) : Str)).length = 1 := rfl; omega)
    · exact (gv_tup (k := k) he0 .nil (fun e he => nomatch he) (show 0 + 3 ≤ 3 * c + 5000 by omega))
    · exact gv_bl _ (by omega)
    · exact gv_bl _ (by omega)
    · exact gv_int (by omega) (by omega) B40 (by omega)
  | int i =>
    refine ⟨_, rfl, _, _, _, _, _, rfl, .ty _, .base (.int i), k_int_list, _, rfl, iteF ?_⟩
    refine ⟨_, rfl, _, _, _, _, _, rfl, .ty _, .base (.int i), k_int_tuple, _, rfl, iteF ?_⟩
    refine ⟨_, rfl, _, _, _, _, _, rfl, .ty _, .base (.int i), k_int_str, _, rfl, iteF ?_⟩
    refine ⟨_, rfl, rfl, _, rfl, iteF ?_⟩
    refine ⟨_, rfl, _, _, _, _, _, rfl, .ty _, .base (.int i), k_int_bool, _, rfl, iteF ?_⟩
    have e9 : (10 : Int) ^ (9 : Int).toNat = 1000000000 := by decide +kernel
    have cp : CPow 10 9 := ⟨by decide, by decide, by decide⟩
    refine ⟨_, rfl, _, _, rfl, rfl, _, rfl, _, _, rfl, rfl, 1, rfl, 10, 9, rfl, rfl, cp, _, rfl, rfl, 10, 9, rfl, rfl, cp, _, _, rfl, rfl, (show 8 ≤ sizeLine by decide), fun la nla => ?_⟩
    rw [e9]
    have Sa := same_new nla (.lst [V.int (i + 1), .int (i - 1), .int 0, .int (-1), .int 1000000000, .bl (decide (V.int i = V.int 1)), .int (1000000000 + 1), .str (("a" : String) : Str)])
    obtain ⟨v, w1, w2⟩ := atI_some (xs := [V.int (i + 1), .int (i - 1), .int 0, .int (-1), .int 1000000000, .bl (decide (V.int i = V.int 1)), .int (1000000000 + 1), .str (("a" : String) : Str)]) y0 (show way < 8 from y1)
    refine ⟨_, rfl, la, _, _, _, rfl, rfl, SqL.of upd_same, w1, ?_⟩
    refine q _ _ ((hfa.same Sa).mono (by omega)) (ba.trans (But.of_same Sa)) ?_
    have ib : -B ≤ i ∧ i ≤ B := fd.inb
    simp only [List.mem_cons, List.not_mem_nil, or_false] at w2
    rcases w2 with rfl | rfl | rfl | rfl | rfl | rfl | rfl | rfl
    · exact gv_int (by omega) (by omega) B40 (by omega)
    · exact gv_int (by omega) (by omega) B40 (by omega)
    · exact gv_int (by omega) (by omega) B40 (by omega)
    · exact gv_int (by omega) (by omega) B40 (by omega)
    · exact gv_int (by omega) (by omega) B40 (by omega)
    · exact gv_bl _ (by omega)
    · exact gv_int (by omega) (by omega) B40 (by omega)
    · exact gv_str chA (by have : ((("a" : String) : Str)).length = 1 := rfl; omega)

theorem ok_lbent {k n : Nat} (F : Fun K "_law_bent" "_law_bent" s_lbent f_lbent d_lbent) (T : Txt K mg f_is_number f_is_from_to f_is_word f_is_tuple_of f_is_run f_is_runs f_is_apart f_many_in f_both f_less f_what_is_left f_is_within f_is_bundling f_laid f_lfeed f_ldraw f_lnames f_lhas f_lmade f_lis_number f_lis_word f_lis_run f_lis_runs f_lalike f_lodd f_lbent f_lspoilt f_lbundling f_lmany f_lis_bundling f_lmenu f_llaid f_llot f_lright f_law)
    (F_ldraw : Fun K "_law_draw" "_law_draw" s_ldraw f_ldraw d_ldraw) (b_ldraw : Binds K d_ldraw ["_law_feed_here", "_law_many_here"] []) (G_ldraw : FnOk P w K mg base CX0 (k + 1) f_ldraw d_ldraw ["_law_feed_here", "_law_many_here"] spDraw)
    (F_lodd : Fun K "_law_odd" "_law_odd" s_lodd f_lodd d_lodd) (b_lodd : Binds K d_lodd ["_law_feed_here", "_law_thing"] []) (G_lodd : FnOk P w K mg base CX0 (k + 1) f_lodd d_lodd ["_law_feed_here", "_law_thing"] spOdd)
    (F_lbent : Fun K "_law_bent" "_law_bent" s_lbent f_lbent d_lbent) (b_lbent : Binds K d_lbent ["_law_feed_here", "_law_thing"] []) (G_lbent : FnOk P w K mg base CX0 (k + 1) f_lbent d_lbent ["_law_feed_here", "_law_thing"] (spBentK n)) :
    FnOk P w K mg base CX0 (k + 2) f_lbent d_lbent ["_law_feed_here", "_law_thing"] (spBentK (n + 1)) := by
  refine F.ok sc_lbent (fun vs H Q E h => ?_) (fun cdv A outer s H vs Q E hr h => ?_)

  · obtain ⟨f, c0, v, d, m, k, c, B, rfl, _⟩ := h
    rfl
  obtain ⟨f, c0, v, d, m, k, c, B, rfl, hf, hm, hd0, ⟨fd, cd⟩, hk, hk2, hc, hB1, hB2, q⟩ := h
  refine ⟨_, (pss_cons (ps_if (PW.pt (pw_and (pt_val (pe_callB call_isi (by rfl) T.isinstance (by decide +kernel) (pa_cons (pv 1) (pa_cons (pe_bltn (v := .ty "tuple") (by rfl) T.tuple (by decide +kernel) rfl) pa_nil)))) (pw_and (pt_cmpR op_gt (pe_callB call_len_seq (by rfl) T.len (by decide +kernel) (pa_cons (pv 1) pa_nil)) pe_int (nomark _)) (pw_and1 (pt_cmpR op_gt (pe_call G_ldraw hr (by rfl) T.m_ldraw F_ldraw.kp b_ldraw .nil pass0 (pa_cons (pv 0) (pa_cons pe_int pa_nil))) pe_int (nomark _))))))
  (pss_cons (ps_set (i := 2) sc_lbent.nd rfl (.inl rfl) (pe_call G_ldraw hr (by rfl) T.m_ldraw F_ldraw.kp b_ldraw .nil pass0 (pa_cons (pv 0) (pa_cons (pe_callB call_len_seq (by rfl) T.len (by decide +kernel) (pa_cons (pv 1) pa_nil)) pa_nil))))
  (pss_one (ps_ret (pe_op op_catTk (pe_op op_catTk (pe_slice sl_tupTk (pv 1) po_none (po_some (pv 2))) (pe_tup (pa_cons (pe_call G_lbent hr (by rfl) T.m_lbent F_lbent.kp b_lbent .nil pass0 (pa_cons (pv 0) (pa_cons (pe_ix ix_tup (pv 1) (pv 2) (fun _ _ => rfl)) pa_nil))) pa_nil))) (pe_slice sl_tupTk (pv 1) (po_some (pe_op op_add (pv 2) pe_int)) po_none)))))
  pss_nil)
  (pss_one (ps_ret (pe_call G_lodd hr (by rfl) T.m_lodd F_lodd.kp b_lodd .nil pass0 (pa_cons (pv 0) (pa_cons (pv 1) pa_nil)))))), ?_⟩
  have hd := hd0
  cases hd with
  | non =>
    refine ⟨_, rfl, _, _, _, _, _, rfl, .ty _, .base .non, k_NoneType_tuple, _, rfl, iteF ?_⟩
    exact ⟨_, rfl, _, rfl, f, c0, _, _, m, k, c, B, rfl, hf, by omega, hd0, ⟨fd, cd⟩, hk2, hc, hB1, hB2, fun v' H' h1 h2 h3 => q v' H' (h1.mono (by omega)) h2 h3⟩
  | bl b =>
    refine ⟨_, rfl, _, _, _, _, _, rfl, .ty _, .base (.bl b), k_bool_tuple, _, rfl, iteF ?_⟩
    exact ⟨_, rfl, _, rfl, f, c0, _, _, m, k, c, B, rfl, hf, by omega, hd0, ⟨fd, cd⟩, hk2, hc, hB1, hB2, fun v' H' h1 h2 h3 => q v' H' (h1.mono (by omega)) h2 h3⟩
  | int i =>
    refine ⟨_, rfl, _, _, _, _, _, rfl, .ty _, .base (.int i), k_int_tuple, _, rfl, iteF ?_⟩
    exact ⟨_, rfl, _, rfl, f, c0, _, _, m, k, c, B, rfl, hf, by omega, hd0, ⟨fd, cd⟩, hk2, hc, hB1, hB2, fun v' H' h1 h2 h3 => q v' H' (h1.mono (by omega)) h2 h3⟩
  | str x =>
    refine ⟨_, rfl, _, _, _, _, _, rfl, .ty _, .base (.str x), k_str_tuple, _, rfl, iteF ?_⟩
    exact ⟨_, rfl, _, rfl, f, c0, _, _, m, k, c, B, rfl, hf, by omega, hd0, ⟨fd, cd⟩, hk2, hc, hB1, hB2, fun v' H' h1 h2 h3 => q v' H' (h1.mono (by omega)) h2 h3⟩
  | lst hna h hx =>
    refine ⟨_, rfl, _, _, _, _, _, rfl, .ty _, .base (.lst h), k_list_tuple, _, rfl, iteF ?_⟩
    exact ⟨_, rfl, _, rfl, f, c0, _, _, m, k, c, B, rfl, hf, by omega, hd0, ⟨fd, cd⟩, hk2, hc, hB1, hB2, fun v' H' h1 h2 h3 => q v' H' (h1.mono (by omega)) h2 h3⟩
  | tup ht hx =>
    rename_i t xs ds
    refine ⟨_, rfl, _, _, _, _, _, rfl, .ty _, .base (.tup ht), k_tuple_tuple, _, rfl, iteT ?_⟩
    have ln := hx.len
    have cd2 : costAll ds + 3 ≤ c := cd
    have cl := cost_len ds
    refine ⟨_, rfl, _, _, rfl, .inr (SqT.of ht), _, _, rfl, rfl, _, rfl, ?_⟩
    refine ite2 (fun c1 => ?_) (fun c1 => ?_)
    rotate_left
    · exact ⟨_, rfl, _, rfl, f, c0, _, _, m, k, c, B, rfl, hf, by omega, hd0, ⟨fd, cd⟩, hk2, hc, hB1, hB2, fun v' H' h1 h2 h3 => q v' H' (h1.mono (by omega)) h2 h3⟩
    have c1 : 0 < xs.length := by
      have z := of_decide_eq_true c1
      omega
    have bump : ∀ {Hx : Hp}, But f H Hx → Hx t = some (.tup xs) := fun b => by
      obtain ⟨zs, hz⟩ := hf.at
      exact b _ _ (ne_of ht hz fun z => nomatch z) ht
    refine ⟨_, rfl, f, c0, 4, _, rfl, hf, by omega, by decide, by decide, fun w Ha w0 w1 hfa ba _ => ?_⟩
    refine ⟨_, _, rfl, rfl, _, rfl, ?_⟩
    have hdA := hd0.but (fun _ z => z) ba hf
    refine ite2 (fun c2 => ?_) (fun c2 => ?_)
    rotate_left
    · exact ⟨_, rfl, _, rfl, f, c0, _, _, _, k, c, B, rfl, hfa, by omega, hdA, ⟨fd, cd⟩, hk2, hc, hB1, hB2, fun v' H' h1 h2 h3 => q v' H' (h1.mono (by omega)) (ba.trans h2) h3⟩
    refine ⟨_, rfl, _, rfl, t, _, rfl, .inr (SqT.of (bump ba)), f, c0, _, _, rfl, hfa, by omega, by omega, by omega, fun at_ Hb a0 a1 hfb bb _ => ?_⟩
    obtain ⟨i, rfl⟩ : ∃ i : Nat, at_ = i := ⟨at_.toNat, by omega⟩
    have hi : i < xs.length := by omega
    have bB := ba.trans bb
    have htB := bump bB
    obtain ⟨dp, hdp, hxp⟩ := hx.get (List.getElem?_eq_getElem hi)
    have small : ∀ {n : Nat}, n ≤ 10000000 → n ≤ sizeLine := fun h => Nat.le_trans h (by decide)
    have lc : ∀ lo hi : Option Int, (cutV xs lo hi).length ≤ 2000000 := fun lo hi => Nat.le_trans (cutV_length _ _ _) (by omega)
    obtain ⟨j, rfl, fp⟩ := fin_part fd
    have fpd := fp dp (List.mem_of_getElem? hdp)
    have cpt := cost_put hdp
    refine ⟨_, rfl, _, rfl, _, rfl, t, _, rfl, htB, fun q1 Hc Sc hq1 => ?_⟩
    have htC := Sc _ _ htB
    have bC := bB.trans (But.of_same Sc)
    refine ⟨_, rfl, _, rfl, _, rfl, t, _, _, _, rfl, rfl, SqT.of htC, atI_nat (List.getElem?_eq_getElem hi), ?_⟩
    obtain ⟨n', rfl⟩ : ∃ n', n = n' + 1 := ⟨n - 1, by omega⟩
    have hxC := hx.but bC hf
    obtain ⟨dq, hdq, hxq⟩ := hxC.get (List.getElem?_eq_getElem hi)
    rw [hdp] at hdq
    cases hdq
    have fdC := hfb.same Sc
    refine ⟨f, c0, _, dp, _, j, cost dp, B, rfl, fdC, by omega, hxq, ⟨fpd, Nat.le_refl _⟩, by omega, by omega, by omega, hB1, hB2, fun u Hd hfd bd gu => ?_⟩
    refine ⟨(show 1 ≤ sizeLine by decide), fun o1 no1 => ?_⟩
    have So := same_new no1 (.tup [u])
    refine ⟨q1, o1, _, _, rfl, rfl, So _ _ (bd.tup fdC hq1), upd_same, small (by have := lc none (some (i : Int)); show _ + 1 ≤ _; omega), fun q2 He Se hq2 => ?_⟩
    have S2 := So.trans Se
    have hfe := hfd.same S2
    have bE := bC.trans (bd.trans (But.of_same S2))
    refine ⟨_, rfl, _, rfl, _, _, rfl, rfl, _, rfl, t, _, rfl, S2 _ _ (bd.tup fdC htC), fun q3 Hg Sg hq3 => ?_⟩
    refine ⟨q2, q3, _, _, rfl, rfl, Sg _ _ hq2, hq3, small (by rw [List.length_append]; have := lc none (some (i : Int)); have := lc (some ((i : Int) + 1)) none; show _ + 1 + _ ≤ _; omega), fun r Hz Sz hr => ?_⟩
    have S4 := Sg.trans Sz
    obtain ⟨du, hdu, fu, cu⟩ := gu.same (S2.trans S4)
    have hxZ := hx.but (bE.trans (But.of_same S4)) hf
    refine q _ _ ((hfe.same S4).mono (by omega)) (bE.trans (But.of_same S4)) ?_
    refine gv_tup hr (((hxZ.cut _ _).app (.cons hdu .nil)).app (hxZ.cut _ _)) (fun e he => ?_) ?_
    · rcases List.mem_append.mp he with he | he
      · rcases List.mem_append.mp he with he | he
        · exact (fp e (cutD_mem he)).mono (Nat.le_succ _) (by omega)
        · rw [List.mem_singleton.mp he]
          exact fu
      · exact (fp e (cutD_mem he)).mono (Nat.le_succ _) (by omega)
    · have e : ((i : Int) + 1) = ((i + 1 : Nat) : Int) := by omega
      rw [cost_app, cost_app, cutD_to, e, cutD_from]
      have : costAll [du] = cost du + 2 + 0 := rfl
      omega

theorem ok_lspoilt (F : Fun K "_law_spoilt" "_law_spoilt" s_lspoilt f_lspoilt d_lspoilt) (T : Txt K mg f_is_number f_is_from_to f_is_word f_is_tuple_of f_is_run f_is_runs f_is_apart f_many_in f_both f_less f_what_is_left f_is_within f_is_bundling f_laid f_lfeed f_ldraw f_lnames f_lhas f_lmade f_lis_number f_lis_word f_lis_run f_lis_runs f_lalike f_lodd f_lbent f_lspoilt f_lbundling f_lmany f_lis_bundling f_lmenu f_llaid f_llot f_lright f_law)
    (F_ldraw : Fun K "_law_draw" "_law_draw" s_ldraw f_ldraw d_ldraw) (b_ldraw : Binds K d_ldraw ["_law_feed_here", "_law_many_here"] []) (G_ldraw : FnOk P w K mg base CX0 (2) f_ldraw d_ldraw ["_law_feed_here", "_law_many_here"] spDraw)
    (F_lmade : Fun K "_law_made" "_law_made" s_lmade f_lmade d_lmade) (b_lmade : Binds K d_lmade ["_law_lots", "_law_rule"] []) (G_lmade : FnOk P w K mg base CX0 (2) f_lmade d_lmade ["_law_lots", "_law_rule"] (spMade K)) :
    FnOk P w K mg base CX0 (3) f_lspoilt d_lspoilt ["_law_feed_here", "_law_run", "_law_most"] spSpoiltT := by
  refine F.ok sc_lspoilt (fun vs H Q E h => ?_) (fun cdv A outer s H vs Q E hr h => ?_)

  · obtain ⟨f, c, p, m, n, r, rfl, _⟩ := h
    rfl
  obtain ⟨f, c, p, m, n, r, rfl, hf, hn, m1, m2, hp, ro, rn, q⟩ := h
  refine ⟨_, (pss_cons (ps_set (i := 3) sc_lspoilt.nd rfl (.inl rfl) (pe_op op_sub (pe_ix ix_tup (pv 1) pe_int (fun _ _ => rfl)) (pe_ix ix_tup (pv 1) pe_int (fun _ _ => rfl))))
  (pss_cons (ps_set (i := 4) sc_lspoilt.nd rfl (.inl rfl) (pe_lst pa_nil))
  (pss_cons (ps_for PassesOwn.never rfl (pi_range1 (by rfl) T.range (pa_cons (pe_call G_ldraw hr (by rfl) T.m_ldraw F_ldraw.kp b_ldraw .nil pass0 (pa_cons (pv 0) (pa_cons (pe_op op_add (pv 2) pe_int) pa_nil))) pa_nil)) (pg_name (i := 5) sc_lspoilt.nd rfl (.inl rfl))
  (pss_cons (ps_set (i := 6) sc_lspoilt.nd rfl (.inl rfl) (pe_op op_add (pe_ix ix_tup (pv 1) pe_int (fun _ _ => rfl)) (pe_call G_ldraw hr (by rfl) T.m_ldraw F_ldraw.kp b_ldraw .nil pass0 (pa_cons (pv 0) (pa_cons (pv 3) pa_nil)))))
  (pss_cons (ps_set (i := 7) sc_lspoilt.nd rfl (.inl rfl) (pe_call G_ldraw hr (by rfl) T.m_ldraw F_ldraw.kp b_ldraw .nil pass0 (pa_cons (pv 0) (pa_cons (pe_ix ix_list (pe_lst (pa_cons pe_int (pa_cons pe_int (pa_cons (pv 3) pa_nil)))) (pe_call G_ldraw hr (by rfl) T.m_ldraw F_ldraw.kp b_ldraw .nil pass0 (pa_cons (pv 0) (pa_cons pe_int pa_nil))) (fun _ _ => rfl)) pa_nil))))
  (pss_one (ps_expr (pe_bm PySem.F.plainAttrs_list PySem.F.slot_list_append PySem.F.type_list_append mt_append (pv 4) (pa_cons (pe_tup (pa_cons (pe_ix ix_tup (pv 1) pe_int (fun _ _ => rfl)) (pa_cons (pv 6) (pa_cons (pe_callB (call_min2 rfl) (by rfl) T.min (by decide +kernel) (pa_cons (pe_ix ix_tup (pv 1) pe_int (fun _ _ => rfl)) (pa_cons (pe_op op_add (pe_op op_add (pv 6) pe_int) (pv 7)) pa_nil))) pa_nil)))) pa_nil)))))))
  (pss_one (ps_ret (pe_call G_lmade hr (by rfl) T.m_lmade F_lmade.kp b_lmade .nil pass0 (pa_cons (pe_lst (pa_cons (pv 4) pa_nil)) (pa_cons pe_str pa_nil)))))))), ?_⟩
  obtain ⟨r0, r1, r2⟩ := ro
  refine ⟨_, rfl, p, _, _, _, rfl, rfl, SqT.of hp, rfl, _, rfl, p, _, _, _, rfl, rfl, SqT.of hp, rfl, _, _, rfl, rfl, ?_⟩
  refine ⟨(show 0 ≤ sizeLine by decide), fun l nl => ?_⟩
  have pf : p ≠ f := by
    obtain ⟨zs, hz⟩ := hf.at
    exact ne_of hp hz (fun z => nomatch z)
  have lf := hf.ne nl
  refine ⟨_, rfl, _, rfl, _, _, rfl, rfl, f, c, m + 1, n, rfl, hf.new nl, by omega, by omega, by omega, fun d H1 d0 d1 hf1 b1 _ => ?_⟩
  have B1 : But f H H1 := (But.new nl).trans b1
  have hl1 := b1 _ _ lf.1 (upd_same (a := l) (o := .lst []))
  refine ⟨d, rfl, by omega, by omega, ?_⟩
  refine for_range (lo := 0) (n := d.toNat) (fun i σ H' => ∃ (ps : List Addr) (rs : List Rn) (v5 v6 v7 : Option V), σ = [some (.ref f), some (.ref p), some (.int m), some (.int (r.2.2 - r.2.1)), some (.ref l), v5, v6, v7] ∧ Fd H' f c (n + 1 + 3 * i) ∧ But f H H' ∧ H' l = some (.lst (ps.map V.ref)) ∧ Prd H' ps rs ∧ rs.length = i ∧ ∀ x ∈ rs, RnOk x ∧ x.1 = r.1 ∧ r.2.1 ≤ x.2.1 ∧ x.2.2 ≤ r.2.2) ⟨[], [], none, none, none, rfl, hf1.mono (by omega), B1, hl1, .nil, rfl, fun _ h => nomatch h⟩ ?_ ?_
  · rintro i σ H2 hi ⟨ps, rs, v5, v6, v7, rfl, hf2, b2, hl2, g2, len, all⟩
    have p2 := SqT.of (K := K) (b2 _ _ pf hp)
    have rl : r.2.2 - r.2.1 ≤ 1000000000 := by omega
    refine ⟨_, rfl, p, _, _, _, rfl, rfl, p2, rfl, _, rfl, _, rfl, f, c, r.2.2 - r.2.1, _, rfl, hf2, by omega, by omega, rl, fun e H3 e0 e1 hf3 b3 _ => ?_⟩
    refine ⟨_, _, rfl, rfl, ?_⟩
    have B3 := b2.trans b3
    refine ⟨_, rfl, _, rfl, (show 3 ≤ sizeLine by decide), fun w nw => ⟨_, rfl, f, c, 3, _, rfl, hf3.new nw, by omega, by decide, by decide, fun k H4 k0 k1 hf4 b4 _ => ?_⟩⟩
    have wf := hf3.ne nw
    have hw := b4 _ _ wf.1 (upd_same (a := w) (o := .lst [.int 2, .int 6, .int (r.2.2 - r.2.1)]))
    have B4 := B3.trans ((But.new nw).trans b4)
    obtain ⟨mm, mm0, mm1, am⟩ : ∃ mm : Int, 0 < mm ∧ mm ≤ 1000000000 ∧ atI [V.int 2, .int 6, .int (r.2.2 - r.2.1)] k = some (.int mm) := by
      have k3 : k = 0 ∨ k = 1 ∨ k = 2 := by omega
      rcases k3 with rfl | rfl | rfl
      · exact ⟨2, by decide, by decide, rfl⟩
      · exact ⟨6, by decide, by decide, rfl⟩
      · exact ⟨r.2.2 - r.2.1, by omega, by omega, rfl⟩
    refine ⟨w, _, _, _, rfl, rfl, SqL.of hw, am, f, c, mm, _, rfl, hf4, by omega, mm0, mm1, fun u H5 u0 u1 hf5 b5 _ => ?_⟩
    have B5 := B4.trans b5
    have p5 := SqT.of (K := K) (B5 _ _ pf hp)
    have hl5 := ((b3.trans ((But.new nw).trans b4)).trans b5) _ _ lf.1 hl2
    have g5 := g2.but hf2 ((b3.trans ((But.new nw).trans b4)).trans b5)
    refine ⟨_, rfl, .inl ⟨rfl, _, SqL.of hl5⟩, ?_⟩
    refine ⟨_, rfl, p, _, _, _, rfl, rfl, p5, rfl, _, rfl, _, rfl, p, _, _, _, rfl, rfl, p5, rfl, _, rfl, _, _, rfl, rfl, _, rfl, _, _, rfl, rfl, _, _, rfl, (show 3 ≤ sizeLine by decide), fun t nt => ?_⟩
    have N6 := same_new nt (.tup [.str r.1, .int (r.2.1 + e), .int (mn r.2.2 (r.2.1 + e + 1 + u))])
    refine ⟨l, _, _, rfl, rfl, N6 _ _ hl5, ?_, ps ++ [t], rs ++ [(r.1, r.2.1 + e, mn r.2.2 (r.2.1 + e + 1 + u))], _, _, _, rfl, ?_, (B5.trans (But.of_same N6)).mut nl, ?_, ?_, ?_, ?_⟩
    · rw [List.length_map, g5.len]
      exact Nat.lt_of_lt_of_le (show _ < 100 by omega) (by decide)
    · exact ((hf5.same N6).upd lf).mono (by omega)
    · rw [upd_same, List.map_append]
      rfl
    · exact Prd.put (N6 _ _ hl5) (Prd.app (Prd.same N6 g5) (Prd.one upd_same))
    · rw [List.length_append, len]
      rfl
    · intro x hx
      rcases List.mem_append.mp hx with hx | hx
      · exact all x hx
      · rw [List.mem_singleton.mp hx]
        have mi := mn_is r.2.2 (r.2.1 + e + 1 + u)
        exact ⟨⟨by show 0 ≤ r.2.1 + e; omega, by show r.2.1 + e < mn r.2.2 (r.2.1 + e + 1 + u); omega, by show mn r.2.2 (r.2.1 + e + 1 + u) ≤ _; omega⟩, rfl, by show r.2.1 ≤ r.2.1 + e; omega, by show mn r.2.2 (r.2.1 + e + 1 + u) ≤ _; omega⟩
  · rintro σ H2 ⟨ps, rs, v5, v6, v7, rfl, hf2, b2, hl2, g2, len, all⟩
    refine ⟨_, rfl, (show 1 ≤ sizeLine by decide), fun l1 n1 => ?_⟩
    have N3 := same_new n1 (.lst [V.ref l])
    have full : Full rs := fun x hx => (all x hx).1.2.1
    refine ⟨l1, [⟨true, l, ps, rs⟩], rfl, SqL.of upd_same, one_lot ⟨SqL.of (N3 _ _ hl2), Prd.same N3 g2, by show rs.length ≤ 200; omega⟩, (show 0 < 1 by decide), (show 1 ≤ 3 by decide), by rw [all_one]; exact full, fun t qs H4 S4 n4 h4 g4 => ?_⟩
    rw [all_one] at g4
    have S34 := N3.trans S4
    refine q t (runsOf rs) H4 ((hf2.same S34).mono (by omega)) (b2.trans (But.of_same S34)) ⟨_, h4, g4⟩ (runsOf_ok full).1 (Nat.le_trans (runsOf_len _) (by omega)) (runsOf_all fun x hx => ⟨(all x hx).1, by rw [(all x hx).2.1]; exact rn⟩) ?_
    exact runsOf_within full fun x hx => (all x hx).2

theorem ok_lbundling (F : Fun K "_law_bundling" "_law_bundling" s_lbundling f_lbundling d_lbundling) (T : Txt K mg f_is_number f_is_from_to f_is_word f_is_tuple_of f_is_run f_is_runs f_is_apart f_many_in f_both f_less f_what_is_left f_is_within f_is_bundling f_laid f_lfeed f_ldraw f_lnames f_lhas f_lmade f_lis_number f_lis_word f_lis_run f_lis_runs f_lalike f_lodd f_lbent f_lspoilt f_lbundling f_lmany f_lis_bundling f_lmenu f_llaid f_llot f_lright f_law)
    (F_ldraw : Fun K "_law_draw" "_law_draw" s_ldraw f_ldraw d_ldraw) (b_ldraw : Binds K d_ldraw ["_law_feed_here", "_law_many_here"] []) (G_ldraw : FnOk P w K mg base CX0 (3) f_ldraw d_ldraw ["_law_feed_here", "_law_many_here"] spDraw)
    (F_lspoilt : Fun K "_law_spoilt" "_law_spoilt" s_lspoilt f_lspoilt d_lspoilt) (b_lspoilt : Binds K d_lspoilt ["_law_feed_here", "_law_run", "_law_most"] []) (G_lspoilt : FnOk P w K mg base CX0 (3) f_lspoilt d_lspoilt ["_law_feed_here", "_law_run", "_law_most"] spSpoiltT) :
    FnOk P w K mg base CX0 (4) f_lbundling d_lbundling ["_law_feed_here", "_law_names_here", "_law_small"] spBundT := by
  refine F.ok sc_lbundling (fun vs H Q E h => ?_) (fun cdv A outer s H vs Q E hr h => ?_)

  · obtain ⟨f, c, l, k, n, xs, rfl, _⟩ := h
    rfl
  obtain ⟨f, c, l, k, n, xs, rfl, hf, hn, hk, hl, lf, xl, nm, un, q⟩ := h
  refine ⟨_, (pss_cons (ps_set (i := 3) sc_lbundling.nd rfl (.inl rfl) (pe_op op_add pe_int (pe_ix ix_list (pe_lst (pa_cons (pe_op op_add (pe_op op_mul (pe_call G_ldraw hr (by rfl) T.m_ldraw F_ldraw.kp b_ldraw .nil pass0 (pa_cons (pv 0) (pa_cons (pe_op op_pow pe_int pe_int) pa_nil))) (pe_op op_pow pe_int pe_int)) (pe_call G_ldraw hr (by rfl) T.m_ldraw F_ldraw.kp b_ldraw .nil pass0 (pa_cons (pv 0) (pa_cons pe_int pa_nil)))) (pa_cons (pe_call G_ldraw hr (by rfl) T.m_ldraw F_ldraw.kp b_ldraw .nil pass0 (pa_cons (pv 0) (pa_cons pe_int pa_nil))) pa_nil))) (pv 2) (fun _ _ => rfl))))
  (pss_cons (ps_set (i := 4) sc_lbundling.nd rfl (.inl rfl) (pe_ix ix_list (pe_lst (pa_cons pe_int (pa_cons (pe_call G_ldraw hr (by rfl) T.m_ldraw F_ldraw.kp b_ldraw .nil pass0 (pa_cons (pv 0) (pa_cons pe_int pa_nil))) (pa_cons (pe_op op_sub (pe_op op_pow pe_int pe_int) (pv 3)) pa_nil)))) (pe_call G_ldraw hr (by rfl) T.m_ldraw F_ldraw.kp b_ldraw .nil pass0 (pa_cons (pv 0) (pa_cons pe_int pa_nil))) (fun _ _ => rfl)))
  (pss_cons (ps_set (i := 5) sc_lbundling.nd rfl (.inl rfl) (pe_call G_ldraw hr (by rfl) T.m_ldraw F_ldraw.kp b_ldraw .nil pass0 (pa_cons (pv 0) (pa_cons pe_int pa_nil))))
  (pss_cons (ps_set (i := 6) sc_lbundling.nd rfl (.inl rfl) (pe_tup (pa_cons (pe_ix ix_list (pv 1) (pv 5) (fun _ _ => rfl)) (pa_cons (pv 4) (pa_cons (pe_op op_add (pv 4) (pv 3)) pa_nil)))))
  (pss_cons (ps_set (i := 7) sc_lbundling.nd rfl (.inl rfl) (pe_op op_add pe_int (pe_call G_ldraw hr (by rfl) T.m_ldraw F_ldraw.kp b_ldraw .nil pass0 (pa_cons (pv 0) (pa_cons pe_int pa_nil)))))
  (C8.pss_cut (ps_if (PW.pt (pw_and (pt_cmpR op_eq (pv 2) pe_int (nomark _)) (pw_and1 (pt_cmpR op_gt (pe_call G_ldraw hr (by rfl) T.m_ldraw F_ldraw.kp b_ldraw .nil pass0 (pa_cons (pv 0) (pa_cons pe_int pa_nil))) pe_int (nomark _)))))
  (pss_one (ps_set (i := 7) sc_lbundling.nd rfl (.inl rfl) (pe_ix ix_list (pe_lst (pa_cons (pe_op op_sub pe_int (pe_call G_ldraw hr (by rfl) T.m_ldraw F_ldraw.kp b_ldraw .nil pass0 (pa_cons (pv 0) (pa_cons pe_int pa_nil)))) (pa_cons (pe_op op_add pe_int (pe_call G_ldraw hr (by rfl) T.m_ldraw F_ldraw.kp b_ldraw .nil pass0 (pa_cons (pv 0) (pa_cons pe_int pa_nil)))) pa_nil))) (pe_call G_ldraw hr (by rfl) T.m_ldraw F_ldraw.kp b_ldraw .nil pass0 (pa_cons (pv 0) (pa_cons pe_int pa_nil))) (fun _ _ => rfl))))
  pss_nil)
  (pss_cons (ps_set (i := 8) sc_lbundling.nd rfl (.inl rfl) (pe_call G_lspoilt hr (by rfl) T.m_lspoilt F_lspoilt.kp b_lspoilt .nil pass0 (pa_cons (pv 0) (pa_cons (pv 6) (pa_cons (pe_ix ix_list (pe_lst (pa_cons pe_int (pa_cons pe_int pa_nil))) (pv 2) (fun _ _ => rfl)) pa_nil)))))
  (pss_cons (ps_set (i := 9) sc_lbundling.nd rfl (.inl rfl) (pe_callB (call_max2 rfl) (by rfl) T.max (by decide +kernel) (pa_cons pe_int (pa_cons (pe_op op_add (pe_callB (cr_sum rfl) (by rfl) T.sum (by decide +kernel) (pa_cons (pe_lc (own := [("_law_series", 10), ("_law_begin", 11), ("_law_end", 12)]) (g := (gTup K 3 (gCons (gName 10) (gCons (gName 11) (gCons (gName 12) gNil))))) (by rfl) sc_lbundling.nd (pi_tup (pv 8)) (blkOk_by (own := [("_law_series", 10), ("_law_begin", 11), ("_law_end", 12)]) (N := ["_law_feed_here", "_law_names_here", "_law_small", "_law_long", "_law_first", "_law_one", "_law_run", "_law_size", "_law_spoilt_here", "_law_many_here", "_law_series", "_law_begin", "_law_end", "_law_stars"]) (sc := defScope s_lbundling) (by decide +kernel)) (fun _ _ _ _ _ => (pg_tup rfl (pgs_cons (pg_name (i := 10) sc_lbundling.nd rfl (.inl rfl)) (pgs_cons (pg_name (i := 11) sc_lbundling.nd rfl (.inl rfl)) (pgs_cons (pg_name (i := 12) sc_lbundling.nd rfl (.inl rfl)) pgs_nil))))) (fun _ _ _ _ _ => pts_nil) (fun _ _ _ _ _ => (pe_op op_sub (pv 12) (pv 11)))) pa_nil)) (pe_ix ix_list (pe_lst (pa_cons pe_int (pa_cons (pe_call G_ldraw hr (by rfl) T.m_ldraw F_ldraw.kp b_ldraw .nil pass0 (pa_cons (pv 0) (pa_cons pe_int pa_nil))) pa_nil))) (pe_call G_ldraw hr (by rfl) T.m_ldraw F_ldraw.kp b_ldraw .nil pass0 (pa_cons (pv 0) (pa_cons pe_int pa_nil))) (fun _ _ => rfl))) pa_nil))))
  (pss_cons (ps_set (i := 11) sc_lbundling.nd rfl (.inl rfl) (pe_ix ix_list (pe_lst (pa_cons pe_int (pa_cons (pe_call G_ldraw hr (by rfl) T.m_ldraw F_ldraw.kp b_ldraw .nil pass0 (pa_cons (pv 0) (pa_cons pe_int pa_nil))) (pa_cons (pe_op op_sub (pe_op op_pow pe_int pe_int) (pe_callB (call_min2 rfl) (by rfl) T.min (by decide +kernel) (pa_cons (pe_op op_pow pe_int pe_int) (pa_cons (pv 9) pa_nil)))) pa_nil)))) (pe_call G_ldraw hr (by rfl) T.m_ldraw F_ldraw.kp b_ldraw .nil pass0 (pa_cons (pv 0) (pa_cons pe_int pa_nil))) (fun _ _ => rfl)))
  (pss_cons (ps_set (i := 13) sc_lbundling.nd rfl (.inl rfl) (pe_tup (pa_cons (pe_ix ix_list (pv 1) (pe_op op_modN (pe_op op_add (pe_op op_add (pv 5) pe_int) (pe_call G_ldraw hr (by rfl) T.m_ldraw F_ldraw.kp b_ldraw .nil pass0 (pa_cons (pv 0) (pa_cons pe_int pa_nil)))) pe_int) (fun _ _ => rfl)) (pa_cons (pv 11) (pa_cons (pe_op op_add (pv 11) (pv 9)) pa_nil)))))
  (pss_one (ps_ret (pe_tup (pa_cons (pv 6) (pa_cons (pv 7) (pa_cons (pv 8) (pa_cons (pv 13) pa_nil))))))))))))))))), ?_⟩
  have two : 2 ≤ sizeLine := by decide
  have three : 3 ≤ sizeLine := by decide
  have pw : ∀ e : Int, e = 4 ∨ e = 5 ∨ e = 9 → 0 ≤ e ∧ e.toNat ≤ 64 ∧ (10 : Int) ^ e.toNat ≤ 1000000000 := fun e h => by rcases h with rfl | rfl | rfl <;> decide
  have z9 : (10 : Int) ^ Int.toNat 9 = 1000000000 := by decide
  have nat4 : ∀ (d : Int), 0 ≤ d → d < 4 → ∃ (j : Nat) (s : Str), (j : Int) = d ∧ xs[j]? = some s ∧ NmOk s ∧ atI (xs.map V.str) d = some (.str s) := fun d d0 d1 => by
    obtain ⟨j, rfl⟩ : ∃ j : Nat, d = (j : Int) := ⟨d.toNat, by omega⟩
    have hj : j < xs.length := by omega
    exact ⟨j, xs[j], rfl, List.getElem?_eq_getElem hj, nm _ (List.getElem_mem hj), atI_nat (by rw [List.getElem?_map, List.getElem?_eq_getElem hj]; rfl)⟩
  -- how long
  refine ⟨_, rfl, _, _, rfl, rfl, ⟨by decide, by decide, by decide⟩, f, c, _, n, rfl, hf, by omega, by decide, by decide, fun d1 H1 d10 d11 hf1 b1 _ => ?_⟩
  have d11 : d1 < 100000 := d11
  refine ⟨_, _, rfl, rfl, ⟨by decide, by decide, by decide⟩, _, _, rfl, rfl, .inr ⟨by decide, by decide⟩, _, rfl, f, c, 100, _, rfl, hf1, by omega, by decide, by decide, fun d2 H2 d20 d21 hf2 b2 _ => ?_⟩
  refine ⟨_, _, rfl, rfl, _, rfl, f, c, 40, _, rfl, hf2, by omega, by decide, by decide, fun d3 H3 d30 d31 hf3 b3 _ => ?_⟩
  have B3 : But f H H3 := b1.trans (b2.trans b3)
  have z4 : (10 : Int) ^ Int.toNat 4 = 10000 := by decide
  obtain ⟨L, L0, L1, L2, aL⟩ : ∃ L : Int, 0 ≤ L ∧ L ≤ 999990099 ∧ (k = 1 → L ≤ 39) ∧ atI [V.int (d1 * 10 ^ Int.toNat 4 + d2), .int d3] k = some (.int L) := by
    rw [z4]
    rcases hk with rfl | rfl
    · exact ⟨d1 * 10000 + d2, by omega, by omega, (fun z => by omega), rfl⟩
    · exact ⟨d3, by omega, by omega, (fun z => by omega), rfl⟩
  refine ⟨two, fun l1 n1 => ⟨_, rfl, l1, _, _, _, rfl, rfl, SqL.of upd_same, aL, _, _, rfl, rfl, ?_⟩⟩
  have hf4 := hf3.new (o := .lst [V.int (d1 * 10 ^ Int.toNat 4 + d2), .int d3]) n1
  have B4 := B3.trans (But.new (o := .lst [V.int (d1 * 10 ^ Int.toNat 4 + d2), .int d3]) n1)
  generalize upd H3 l1 (.lst [V.int (d1 * 10 ^ Int.toNat 4 + d2), .int d3]) = H4 at *
  clear aL b1 b2 b3 hf1 hf2 hf3 B3
  have w0 : 1 ≤ (1 + L) := by omega
  have w1 : (1 + L) ≤ 999990100 := by omega
  have w2 : k = 1 → (1 + L) ≤ 40 := fun z => by have := L2 z; omega
  -- where it begins
  refine ⟨_, rfl, f, c, 1000, _, rfl, hf4, by omega, by decide, by decide, fun e1 H5 e10 e11 hf5 b5 _ => ?_⟩
  refine ⟨_, _, rfl, rfl, ⟨by decide, by decide, by decide⟩, _, rfl, _, _, rfl, rfl, three, fun l2 n2 => ?_⟩
  have l2f := hf5.ne n2
  refine ⟨_, rfl, f, c, 3, _, rfl, hf5.new n2, by omega, by decide, by decide, fun e2 H6 e20 e21 hf6 b6 _ => ?_⟩
  have B6 : But f H H6 := B4.trans (b5.trans ((But.new n2).trans b6))
  obtain ⟨F, F0, F1, aF⟩ : ∃ F : Int, 0 ≤ F ∧ F + (1 + L) ≤ 1000000000 ∧ atI [V.int 0, .int e1, .int (10 ^ Int.toNat 9 - (1 + L))] e2 = some (.int F) := by
    rw [z9]
    have : e2 = 0 ∨ e2 = 1 ∨ e2 = 2 := by omega
    rcases this with rfl | rfl | rfl
    · exact ⟨0, by omega, by omega, rfl⟩
    · exact ⟨e1, by omega, by omega, rfl⟩
    · exact ⟨1000000000 - (1 + L), by omega, by omega, rfl⟩
  refine ⟨l2, _, _, _, rfl, rfl, SqL.of (b6 _ _ l2f.1 upd_same), aF, ?_⟩
  clear aF b5 b6 hf5 B4
  -- of which series
  refine ⟨_, rfl, f, c, 4, _, rfl, hf6, by omega, by decide, by decide, fun o H7 o0 o1 hf7 b7 _ => ?_⟩
  have B7 := B6.trans b7
  obtain ⟨j, s, ej, hj, nms, ats⟩ := nat4 o o0 o1
  refine ⟨_, rfl, _, rfl, l, _, _, _, rfl, rfl, SqL.of (B7 _ _ lf hl), ats, _, rfl, _, rfl, _, rfl, _, _, rfl, rfl, three, fun p np => ?_⟩
  have pf := hf7.ne np
  have hf8 := hf7.new (o := .tup [.str s, .int F, .int (F + (1 + L))]) np
  have B8 := B7.trans (But.new (o := .tup [.str s, .int F, .int (F + (1 + L))]) np)
  have hp8 : upd H7 p (.tup [.str s, .int F, .int (F + (1 + L))]) p = some (.tup (rnV (s, F, F + (1 + L)))) := upd_same
  generalize upd H7 p (.tup [.str s, .int F, .int (F + (1 + L))]) = H8 at *
  clear b7 B6
  -- how many in each
  refine ⟨_, rfl, f, c, 12, _, rfl, hf8, by omega, by decide, by decide, fun g1 H9 g10 g11 hf9 b9 _ => ?_⟩
  refine ⟨_, _, rfl, rfl, ?_⟩
  refine ⟨fun σ H' => ∃ S : Int, σ = [some (.ref f), some (.ref l), some (.int k), some (.int (1 + L)), some (.int F), some (.int o), some (.ref p), some (.int S), none, none, none, none, none, none] ∧ 1 ≤ S ∧ S ≤ 1000 ∧ Fd H' f c (n + 12) ∧ But f H8 H', ?_, ?_⟩
  · have B9 := B8.trans b9
    have stay : ∀ (S : Int) (H' : Hp), 1 ≤ S → S ≤ 1000 → Fd H' f c (n + 12) → But f H8 H' → ∃ S' : Int, ([some (.ref f), some (.ref l), some (.int k), some (.int (1 + L)), some (.int F), some (.int o), some (.ref p), some (.int S), none, none, none, none, none, none] : List (Option V)) = [some (.ref f), some (.ref l), some (.int k), some (.int (1 + L)), some (.int F), some (.int o), some (.ref p), some (.int S'), none, none, none, none, none, none] ∧ 1 ≤ S' ∧ S' ≤ 1000 ∧ Fd H' f c (n + 12) ∧ But f H8 H' := fun S H' z1 z2 z3 z4 => ⟨S, rfl, z1, z2, z3, z4⟩
    refine ⟨_, rfl, rfl, _, rfl, ite2 (fun _ => ?_) fun _ => stay (1 + g1) H9 (by omega) (by omega) (hf9.mono (by omega)) b9⟩
    refine ⟨_, rfl, f, c, 3, _, rfl, hf9, by omega, by decide, by decide, fun t1 H10 _ _ hf10 b10 _ => ?_⟩
    refine ⟨_, _, rfl, rfl, _, rfl, ite2 (fun _ => ?_) fun _ => stay (1 + g1) H10 (by omega) (by omega) (hf10.mono (by omega)) (b9.trans b10)⟩
    refine ⟨_, rfl, f, c, 3, _, rfl, hf10, by omega, by decide, by decide, fun t2 H11 t20 t21 hf11 b11 _ => ?_⟩
    refine ⟨_, _, rfl, rfl, _, rfl, f, c, 1000, _, rfl, hf11, by omega, by decide, by decide, fun t3 H12 t30 t31 hf12 b12 _ => ?_⟩
    refine ⟨_, _, rfl, rfl, two, fun l3 n3 => ?_⟩
    have l3f := hf12.ne n3
    refine ⟨_, rfl, f, c, 2, _, rfl, hf12.new n3, by omega, by decide, by decide, fun t4 H13 t40 t41 hf13 b13 _ => ?_⟩
    obtain ⟨S, S0, S1, aS⟩ : ∃ S : Int, 1 ≤ S ∧ S ≤ 1000 ∧ atI [V.int (1000 - t2), .int (1 + t3)] t4 = some (.int S) := by
      have : t4 = 0 ∨ t4 = 1 := by omega
      rcases this with rfl | rfl
      · exact ⟨1000 - t2, by omega, by omega, rfl⟩
      · exact ⟨1 + t3, by omega, by omega, rfl⟩
    refine ⟨l3, _, _, _, rfl, rfl, SqL.of (b13 _ _ l3f.1 upd_same), aS, ?_⟩
    exact stay S H13 S0 S1 (hf13.mono (by omega)) (b9.trans (b10.trans (b11.trans (b12.trans ((But.new n3).trans b13)))))
  rintro σ H10 ⟨S, rfl, S0, S1, hf10, b10⟩
  have B10 := B8.trans b10
  have hp10 := b10 _ _ pf.1 hp8
  clear hf9 b9 hf8 hf7 hf4 hf6
  -- what is spoilt
  refine ⟨_, rfl, _, rfl, two, fun l4 n4 => ?_⟩
  obtain ⟨M, M0, M1, aM⟩ : ∃ M : Int, 1 ≤ M ∧ M ≤ 24 ∧ atI [V.int 24, .int 8] k = some (.int M) := by
    rcases hk with rfl | rfl
    · exact ⟨24, by decide, by decide, rfl⟩
    · exact ⟨8, by decide, by decide, rfl⟩
  have N4 := same_new n4 (.lst [V.int 24, .int 8])
  have ro : RnOk (s, F, F + (1 + L)) := ⟨F0, by show F < F + (1 + L); omega, F1⟩
  refine ⟨_, rfl, l4, _, _, _, rfl, rfl, SqL.of upd_same, aM, f, c, p, M, _, _, rfl, hf10.same N4, by omega, M0, M1, N4 _ _ hp10, ro, nms, fun u rs H11 hf11 b11 hu ca len all inn => ?_⟩
  have B11 := B10.trans ((But.of_same N4).trans b11)
  have hp11 := b11 _ _ pf.1 (N4 _ _ hp10)
  clear aM N4 b10 B10 hp10 hf10 B8
  -- how many stars
  obtain ⟨qs, ha0, hg⟩ := id hu
  have ha := SqT.of (K := K) ha0
  refine ⟨_, rfl, u, rfl, ⟨_, ha⟩, fun D nD => ?_⟩
  refine lc_tup (K := K) (a := u) (xs := qs.map V.ref) (fun i H' => Same H11 H' ∧ H' D = some (.lst (((rs.take i).map cnt).map V.int))) ⟨same_new nD _, upd_same⟩ (fun i H' _ h => SqT.sm h.1 ha) ?_ ?_
  · rintro i x H12 hx ⟨S12, hD12⟩
    obtain ⟨y, hy, rfl⟩ : ∃ y, qs[i]? = some y ∧ x = V.ref y := by
      rw [List.getElem?_map] at hx
      cases e : qs[i]? with
      | none => rw [e] at hx; cases hx
      | some p => rw [e] at hx; exact ⟨p, rfl, (Option.some.inj hx).symm⟩
    obtain ⟨r', hr, hr2⟩ := Prd.get hg hy
    obtain ⟨hi, er⟩ := List.getElem?_eq_some_iff.mp hr
    refine ⟨y, _, rfl, SqT.of (S12 _ _ hr2), rfl, _, _, rfl, _, _, rfl, _, _, rfl, rfl, ?_⟩
    refine ⟨rfl, _, rfl, _, rfl, _, _, rfl, rfl, _, hD12, ?_, same_mut S12 nD, ?_⟩
    · rw [List.length_map, List.length_map, List.length_take]
      exact Nat.lt_of_le_of_lt (show _ ≤ 24 by omega) (by decide)
    · rw [upd_same, List.take_succ_eq_append_getElem hi, er, List.map_append, List.map_append]
      rfl
  rintro H12 ⟨S12, hD12⟩
  rw [List.length_map, hg.len, List.take_length] at hD12
  refine ⟨D, _, rfl, SqL.of hD12, ?_⟩
  have cs : (rs.map cnt).sum = cntL rs := rfl
  have cw : cntL rs ≤ 1 + L := by
    have z := cnt_within (s := s) (lo := F) (hi := F + (1 + L)) ca (by omega) inn
    omega
  have cn := cntL_nn ca.2
  have hf12 := hf11.same S12
  have B12 := B11.trans (But.of_same S12)
  have hp12 := S12 _ _ hp11
  have hu12 := hu.same S12
  clear hD12 nD B11 hf11 hp11 hu ha hg
  refine ⟨_, rfl, f, c, 4, _, rfl, hf12, by omega, by decide, by decide, fun t1 H13 t10 t11 hf13 b13 _ => ⟨two, fun l5 n5 => ?_⟩⟩
  have l5f := hf13.ne n5
  refine ⟨_, rfl, f, c, 2, _, rfl, hf13.new n5, by omega, by decide, by decide, fun t2 H14 t20 t21 hf14 b14 _ => ?_⟩
  obtain ⟨X, X0, X1, aX⟩ : ∃ X : Int, 0 ≤ X ∧ X ≤ 3 ∧ atI [V.int 0, .int t1] t2 = some (.int X) := by
    have : t2 = 0 ∨ t2 = 1 := by omega
    rcases this with rfl | rfl
    · exact ⟨0, by omega, by omega, rfl⟩
    · exact ⟨t1, by omega, by omega, rfl⟩
  have b1214 := b13.trans ((But.new (o := .lst [V.int 0, .int t1]) n5).trans b14)
  have B14 := B12.trans b1214
  refine ⟨l5, _, _, _, rfl, rfl, SqL.of (b14 _ _ l5f.1 upd_same), aX, _, _, rfl, rfl, _, _, rfl, ?_⟩
  have mi := mx_is 1 ((rs.map cnt).sum + X)
  rw [cs] at mi
  have hp14 := b1214 _ _ pf.1 hp12
  have hu14 := hu12.but hf12 b1214
  clear aX b13 b14 b1214 hf13 hf12 B12 hp12 hu12
  -- where they begin
  refine ⟨_, rfl, f, c, 100, _, rfl, hf14, by omega, by decide, by decide, fun u1 H15 u10 u11 hf15 b15 _ => ?_⟩
  refine ⟨_, _, rfl, rfl, ⟨by decide, by decide, by decide⟩, _, _, rfl, rfl, ⟨by decide, by decide, by decide⟩, _, rfl, _, _, rfl, _, _, rfl, rfl, three, fun l6 n6 => ?_⟩
  have l6f := hf15.ne n6
  refine ⟨_, rfl, f, c, 3, _, rfl, hf15.new n6, by omega, by decide, by decide, fun u2 H16 u20 u21 hf16 b16 _ => ?_⟩
  have ni := mn_is (10 ^ Int.toNat 9) (mx 1 ((rs.map cnt).sum + X))
  rw [cs, z9] at ni
  obtain ⟨G, G0, G1, aG⟩ : ∃ G : Int, 0 ≤ G ∧ G + mx 1 ((rs.map cnt).sum + X) ≤ 1000000000 ∧ atI [V.int 0, .int u1, .int (10 ^ Int.toNat 9 - mn (10 ^ Int.toNat 9) (mx 1 ((rs.map cnt).sum + X)))] u2 = some (.int G) := by
    rw [z9, cs]
    have : u2 = 0 ∨ u2 = 1 ∨ u2 = 2 := by omega
    rcases this with rfl | rfl | rfl
    · exact ⟨0, by omega, by omega, rfl⟩
    · exact ⟨u1, by omega, by omega, rfl⟩
    · exact ⟨1000000000 - mn 1000000000 (mx 1 (cntL rs + X)), by omega, by omega, rfl⟩
  have b1416 := b15.trans ((But.new n6).trans b16)
  have B16 := B14.trans b1416
  refine ⟨l6, _, _, _, rfl, rfl, SqL.of (b16 _ _ l6f.1 upd_same), aG, ?_⟩
  have hp16 := b1416 _ _ pf.1 hp14
  have hu16 := hu14.but hf14 b1416
  clear aG b15 b16 b1416 hf15 hf14 B14 hp14 hu14
  -- of which series
  refine ⟨_, rfl, _, rfl, _, _, rfl, rfl, _, rfl, f, c, 3, _, rfl, hf16, by omega, by decide, by decide, fun v H17 v0 v1 hf17 b17 _ => ?_⟩
  obtain ⟨j2, s2, ej2, hj2, nms2, ats2⟩ := nat4 ((o + 1 + v).fmod 4) (mod_lo _ _ (by decide)) (mod_hi _ _ (by decide))
  have B17 := B16.trans b17
  refine ⟨_, _, rfl, rfl, _, _, rfl, rfl, (show (4 : Int) ≠ 0 by decide), l, _, _, _, rfl, rfl, SqL.of (B17 _ _ lf hl), ats2, _, rfl, _, rfl, _, rfl, _, _, rfl, rfl, three, fun w nw => ?_⟩
  have N18 := same_new nw (.tup [.str s2, .int G, .int (G + mx 1 ((rs.map cnt).sum + X))])
  refine ⟨_, rfl, _, rfl, _, rfl, _, rfl, (show 4 ≤ sizeLine by decide), fun x nx => ?_⟩
  have N19 := same_new nx (.tup [.ref p, .int S, .ref u, .ref w])
  have N := N18.trans N19
  have dif : s2 ≠ s := fun z => by
    have y := un j j2 s hj (z ▸ hj2)
    rw [Int.fmod_eq_emod_of_nonneg _ (by decide)] at ej2
    omega
  refine q x ⟨(s, F, F + (1 + L)), S, rs, (s2, G, G + mx 1 ((rs.map cnt).sum + X))⟩ _ ((hf17.same N).mono (by omega)) (B17.trans (But.of_same N)) (by obtain ⟨qz, z1, z2⟩ := (hu16.but hf16 b17).same N; exact ⟨p, u, w, qz, ⟨upd_same, N _ _ (b17 _ _ pf.1 hp16), z1, z2, N19 _ _ upd_same⟩⟩) ⟨ro, nms, S0, S1, ca, len, all, inn, ⟨G0, ?_, G1⟩, nms2, ?_, dif⟩ (show F + (1 + L) - F ≤ 999990100 by omega) fun z => ?_
  · show G < G + mx 1 ((rs.map cnt).sum + X)
    rw [cs]
    omega
  · show cntL rs ≤ G + mx 1 ((rs.map cnt).sum + X) - G
    rw [cs]
    omega
  · show F + (1 + L) - F ≤ 40
    have := w2 z
    omega

theorem ok_lmany (F : Fun K "_law_many" "_law_many" s_lmany f_lmany d_lmany) (T : Txt K mg f_is_number f_is_from_to f_is_word f_is_tuple_of f_is_run f_is_runs f_is_apart f_many_in f_both f_less f_what_is_left f_is_within f_is_bundling f_laid f_lfeed f_ldraw f_lnames f_lhas f_lmade f_lis_number f_lis_word f_lis_run f_lis_runs f_lalike f_lodd f_lbent f_lspoilt f_lbundling f_lmany f_lis_bundling f_lmenu f_llaid f_llot f_lright f_law) :
    FnOk P w K mg base CX0 (1) f_lmany d_lmany ["_law_runs"] (spLMany12 K) := by
  refine F.ok sc_lmany (fun vs H Q E h => ?_) (fun cdv A outer s H vs Q E hr h => ?_)

  · obtain ⟨a, rs, rfl, _⟩ := h
    rfl
  obtain ⟨a, rs, rfl, ⟨qs, ha, hg⟩, lr, q⟩ := h
  refine ⟨_, (pss_one (ps_ret (pe_callB (cr_sum rfl) (by rfl) T.sum (by decide +kernel) (pa_cons (pe_lc (own := [("_law_series", 1), ("_law_first", 2), ("_law_end", 3)]) (g := (gTup K 3 (gCons (gName 1) (gCons (gName 2) (gCons (gName 3) gNil))))) (by rfl) sc_lmany.nd (pi_tup (pv 0)) (blkOk_by (own := [("_law_series", 1), ("_law_first", 2), ("_law_end", 3)]) (N := ["_law_runs", "_law_series", "_law_first", "_law_end"]) (sc := defScope s_lmany) (by decide +kernel)) (fun _ _ _ _ _ => (pg_tup rfl (pgs_cons (pg_name (i := 1) sc_lmany.nd rfl (.inl rfl)) (pgs_cons (pg_name (i := 2) sc_lmany.nd rfl (.inl rfl)) (pgs_cons (pg_name (i := 3) sc_lmany.nd rfl (.inl rfl)) pgs_nil))))) (fun _ _ _ _ _ => pts_nil) (fun _ _ _ _ _ => (pe_op op_sub (pv 3) (pv 2)))) pa_nil)))), ?_⟩
  refine ⟨_, rfl, a, rfl, ⟨_, ha⟩, fun D nD => ?_⟩
  refine lc_tup (K := K) (a := a) (xs := qs.map V.ref) (fun i H' => Same H H' ∧ H' D = some (.lst (((rs.take i).map cnt).map V.int))) ⟨same_new nD _, upd_same⟩ (fun i H' _ h => SqT.sm h.1 ha) ?_ ?_
  · rintro i x H12 hx ⟨S12, hD12⟩
    obtain ⟨y, hy, rfl⟩ : ∃ y, qs[i]? = some y ∧ x = V.ref y := by
      rw [List.getElem?_map] at hx
      cases e : qs[i]? with
      | none => rw [e] at hx; cases hx
      | some p => rw [e] at hx; exact ⟨p, rfl, (Option.some.inj hx).symm⟩
    obtain ⟨r', hr, hr2⟩ := Prd.get hg hy
    obtain ⟨hi, er⟩ := List.getElem?_eq_some_iff.mp hr
    refine ⟨y, _, rfl, SqT.of (S12 _ _ hr2), rfl, _, _, rfl, _, _, rfl, _, _, rfl, rfl, ?_⟩
    refine ⟨rfl, _, rfl, _, rfl, _, _, rfl, rfl, _, hD12, ?_, same_mut S12 nD, ?_⟩
    · rw [List.length_map, List.length_map, List.length_take]
      exact Nat.lt_of_le_of_lt (show _ ≤ 3000 by omega) (by decide)
    · rw [upd_same, List.take_succ_eq_append_getElem hi, er, List.map_append, List.map_append]
      rfl
  rintro H12 ⟨S12, hD12⟩
  rw [List.length_map, hg.len, List.take_length] at hD12
  refine ⟨D, _, rfl, SqL.of hD12, ?_⟩
  exact q _ S12

theorem ok_lis_bundling (F : Fun K "_law_is_bundling" "_law_is_bundling" s_lis_bundling f_lis_bundling d_lis_bundling) (T : Txt K mg f_is_number f_is_from_to f_is_word f_is_tuple_of f_is_run f_is_runs f_is_apart f_many_in f_both f_less f_what_is_left f_is_within f_is_bundling f_laid f_lfeed f_ldraw f_lnames f_lhas f_lmade f_lis_number f_lis_word f_lis_run f_lis_runs f_lalike f_lodd f_lbent f_lspoilt f_lbundling f_lmany f_lis_bundling f_lmenu f_llaid f_llot f_lright f_law)
    (F_lis_run : Fun K "_law_is_run" "_law_is_run" s_lis_run f_lis_run d_lis_run) (b_lis_run : Binds K d_lis_run ["_law_thing"] []) (G_lis_run : FnOk P w K mg base CX0 (6) f_lis_run d_lis_run ["_law_thing"] (spKRun P_is_word))
    (F_lis_number : Fun K "_law_is_number" "_law_is_number" s_lis_number f_lis_number d_lis_number) (b_lis_number : Binds K d_lis_number ["_law_thing", "_law_least", "_law_most"] []) (G_lis_number : FnOk P w K mg base CX0 (6) f_lis_number d_lis_number ["_law_thing", "_law_least", "_law_most"] spKFrom)
    (F_lis_runs : Fun K "_law_is_runs" "_law_is_runs" s_lis_runs f_lis_runs d_lis_runs) (b_lis_runs : Binds K d_lis_runs ["_law_thing"] []) (G_lis_runs : FnOk P w K mg base CX0 (6) f_lis_runs d_lis_runs ["_law_thing"] (spKRuns P_is_runs P_is_word))
    (F_lmany : Fun K "_law_many" "_law_many" s_lmany f_lmany d_lmany) (b_lmany : Binds K d_lmany ["_law_runs"] []) (G_lmany : FnOk P w K mg base CX0 (6) f_lmany d_lmany ["_law_runs"] (spLMany12 K)) :
    FnOk P w K mg base CX0 (7) f_lis_bundling d_lis_bundling ["_law_thing"] (spKBund P_is_runs P_is_word P_many_in) := by
  refine F.ok sc_lis_bundling (fun vs H Q E h => ?_) (fun cdv A outer s H vs Q E hr h => ?_)

  · obtain ⟨v, d, N, rfl, _⟩ := h
    rfl
  obtain ⟨v, d, N, rfl, hd, sm, co, hP1, hP2, hP3, q⟩ := h
  refine ⟨_, (pss_cons (ps_if (PW.pt (pw_or (pt_not (pt_val (pe_callB call_isi (by rfl) T.isinstance (by decide +kernel) (pa_cons (pv 0) (pa_cons (pe_bltn (v := .ty "tuple") (by rfl) T.tuple (by decide +kernel) rfl) pa_nil))))) (pw_or (pt_cmpR op_ne (pe_callB call_len_seq (by rfl) T.len (by decide +kernel) (pa_cons (pv 0) pa_nil)) pe_int (nomark _)) (pw_or (pt_not (pt_val (pe_call G_lis_run hr (by rfl) T.m_lis_run F_lis_run.kp b_lis_run .nil pass0 (pa_cons (pe_ix ix_tup (pv 0) pe_int (fun _ _ => rfl)) pa_nil)))) (pw_or1 (pt_not (pt_val (pe_call G_lis_run hr (by rfl) T.m_lis_run F_lis_run.kp b_lis_run .nil pass0 (pa_cons (pe_ix ix_tup (pv 0) pe_int (fun _ _ => rfl)) pa_nil)))))))))
  (pss_one (ps_ret pe_bl))
  pss_nil)
  (pss_cons (ps_asg (pv 0) (pg_tup rfl (pgs_cons (pg_name (i := 1) sc_lis_bundling.nd rfl (.inr rfl)) (pgs_cons (pg_name (i := 2) sc_lis_bundling.nd rfl (.inl rfl)) (pgs_cons (pg_name (i := 3) sc_lis_bundling.nd rfl (.inl rfl)) (pgs_cons (pg_name (i := 4) sc_lis_bundling.nd rfl (.inl rfl)) pgs_nil))))))
  (pss_cons (ps_if (PW.pt (pw_or (pt_not (pt_val (pe_call G_lis_number hr (by rfl) T.m_lis_number F_lis_number.kp b_lis_number .nil pass0 (pa_cons (pv 2) (pa_cons pe_int (pa_cons pe_int pa_nil)))))) (pw_or1 (pt_not (pt_val (pe_call G_lis_runs hr (by rfl) T.m_lis_runs F_lis_runs.kp b_lis_runs .nil pass0 (pa_cons (pv 3) pa_nil)))))))
  (pss_one (ps_ret pe_bl))
  pss_nil)
  (pss_cons (ps_if (pt_not (pt_val (pe_callB (cr_all rfl) (by rfl) T.all (by decide +kernel) (pa_cons (pe_lc (own := [("_law_one", 5)]) (g := (gName 5)) (by rfl) sc_lis_bundling.nd (pi_tup (pv 3)) (blkOk_by (own := [("_law_one", 5)]) (N := ["_law_thing", "_law_run", "_law_size", "_law_spoilt_here", "_law_stars", "_law_one"]) (sc := defScope s_lis_bundling) (by decide +kernel)) (fun _ _ _ _ _ => (pg_name (i := 5) sc_lis_bundling.nd rfl (.inl rfl))) (fun _ _ _ _ _ => pts_nil) (fun _ _ _ _ _ => (pe_and (pe_cmpR op_eq (pe_ix (show IxR _ (rIxT K) from ix_tup) (pv 5) pe_int (fun _ _ => rfl)) (pe_ix (show IxR _ (rIxT K) from ix_tup) (pv 1) pe_int (fun _ _ => rfl)) (nomark _)) (pe_and (pe_cmpR op_le (pe_ix (show IxR _ (rIxT K) from ix_tup) (pv 1) pe_int (fun _ _ => rfl)) (pe_ix (show IxR _ (rIxT K) from ix_tup) (pv 5) pe_int (fun _ _ => rfl)) (nomark _)) (pe_one (pe_cmpR op_le (pe_ix (show IxR _ (rIxT K) from ix_tup) (pv 5) pe_int (fun _ _ => rfl)) (pe_ix (show IxR _ (rIxT K) from ix_tup) (pv 1) pe_int (fun _ _ => rfl)) (nomark _))))))) pa_nil))))
  (pss_one (ps_ret pe_bl))
  pss_nil)
  (pss_one (ps_ret (pe_and (pe_cmpR op_ne (pe_ix ix_tup (pv 4) pe_int (fun _ _ => rfl)) (pe_ix ix_tup (pv 1) pe_int (fun _ _ => rfl)) (nomark _)) (pe_one (pe_cmpR op_ge (pe_op op_sub (pe_ix ix_tup (pv 4) pe_int (fun _ _ => rfl)) (pe_ix ix_tup (pv 4) pe_int (fun _ _ => rfl))) (pe_call G_lmany hr (by rfl) T.m_lmany F_lmany.kp b_lmany .nil pass0 (pa_cons (pv 3) pa_nil)) (nomark _)))))))))), ?_⟩
  rcases hd.cases with ⟨t, xs, ds, rfl, rfl, ht, hx⟩ | nt
  rotate_left
  · obtain ⟨ty, n1, n2⟩ := noTup_of (K := K) hd.dp nt
    have z := q _ (Same.refl _)
    rw [bundD_nt nt] at z
    exact ⟨_, rfl, _, _, _, _, _, rfl, .ty _, n1, n2, _, rfl, iteT z⟩
  refine ⟨_, rfl, _, _, _, _, _, rfl, .ty _, .base (.tup ht), k_tuple_tuple, _, rfl, iteF ?_⟩
  refine ⟨_, rfl, _, _, rfl, .inr (SqT.of ht), rfl, _, rfl, ?_⟩
  have lx := hx.len
  by_cases c : ds.length = 4
  rotate_left
  · have e : (!decide (V.int ((xs.length : Nat) : Int) = V.int 4)) = true := by
      simp
      omega
    rw [e]
    have z := q _ (Same.refl _)
    rw [bundD_no (fun k => c (by have k := of_decide_eq_true (p := (((ds.length : Nat) : Int) = ((4 : Nat) : Int))) k; omega))] at z
    exact iteT z
  have e : (!decide (V.int ((xs.length : Nat) : Int) = V.int 4)) = false := by
    simp
    omega
  rw [e]

  refine iteF ?_
  clear e
  obtain ⟨a, b, e, u, rfl⟩ : ∃ a b e u, ds = [a, b, e, u] := by
    match ds, c with
    | [a, b, e, u], _ => exact ⟨a, b, e, u, rfl⟩
  match xs, hx with
  | [x, y, z, w'], .cons h1 (.cons h2 (.cons h3 (.cons h4 .nil))) =>
  have i1 : a ∈ [a, b, e, u] := List.mem_cons_self
  have i3 : e ∈ [a, b, e, u] := by simp
  have i4 : u ∈ [a, b, e, u] := by simp
  have ce : cost e ≤ 8000000 := Nat.le_trans (by have := cost_part i3; omega) (Nat.le_trans (show costAll [a, b, e, u] ≤ cost (.tuple [a, b, e, u]) from Nat.le_add_right _ _) co)
  have no : ∀ {Hx : Hp}, Same H Hx → (runD a = false ∨ numD b 1 1000 = false ∨ runsD e = false ∨ runD u = false) → Q (.bl false) Hx := fun S k => by
    have z := q _ S
    have k2 : bundD (.tuple [a, b, e, u]) = false := by
      show ((runD a && runD u) && ((numD b 1 1000 && runsD e) && _)) = false
      rcases k with k | k | k | k <;> rw [k] <;> simp
    rw [k2] at z
    exact z
  refine ⟨_, rfl, t, _, _, _, rfl, rfl, SqT.of ht, rfl, x, a, N, rfl, h1, sm.part i1, hP2, fun H1 S1 => ?_⟩
  cases c1 : runD a with
  | false => exact ⟨_, rfl, iteT (no S1 (.inl c1))⟩
  | true =>
  refine ⟨true, rfl, iteF ?_⟩
  refine ⟨_, rfl, t, _, _, _, rfl, rfl, SqT.of (S1 _ _ ht), rfl, w', u, N, rfl, h4.same S1, sm.part i4, S1 _ _ hP2, fun H2 S2 => ?_⟩
  have S12 := S1.trans S2
  cases c4 : runD u with
  | false => exact ⟨_, rfl, iteT (no S12 (.inr (.inr (.inr c4))))⟩
  | true =>
  refine ⟨true, rfl, iteF ?_⟩
  refine ⟨_, rfl, t, _, rfl, SqT.of (S12 _ _ ht), rfl, _, _, rfl, _, _, rfl, _, _, rfl, _, _, rfl, rfl, ?_⟩
  refine ⟨_, rfl, y, b, N, 1, 1000, rfl, h2.same S12, fun H3 S3 => ?_⟩
  have S13 := S12.trans S3
  cases c2 : numD b 1 1000 with
  | false => exact ⟨_, rfl, iteT (no S13 (.inr (.inl c2)))⟩
  | true =>
  refine ⟨true, rfl, iteF ?_⟩
  refine ⟨_, rfl, z, e, N, rfl, h3.same S13, sm.part i3, S13 _ _ hP1, S13 _ _ hP2, fun H4 S4 => ?_⟩
  have S14 := S13.trans S4
  cases c3 : runsD e with
  | false => exact ⟨_, rfl, iteT (no S14 (.inr (.inr (.inl c3))))⟩
  | true =>
  refine ⟨true, rfl, iteF ?_⟩
  obtain ⟨R, rfl, okR, _⟩ := runD_rn c1
  obtain ⟨Z, rfl, okZ, _⟩ := runD_rn c4
  obtain ⟨S, rfl, ca, okS⟩ := runsD_rns c3
  obtain ⟨r, rfl, hr⟩ := dn_rn h1
  obtain ⟨s, rfl, hs⟩ := dn_rns (K := K) h3
  obtain ⟨st, rfl, hst⟩ := dn_rn h4
  have few := rns_few ce
  have e0 : bundD (.tuple [rnD R, b, rnsD S, rnD Z]) = partsB R S Z := by
    show ((runD (rnD R) && runD (rnD Z)) && ((numD b 1 1000 && runsD (rnsD S)) && partsB (rnOf (rnD R)) (rnsOf (rnsD S)) (rnOf (rnD Z)))) = _
    rw [c1, c2, c3, c4, rnsOf_D]
    rfl
  rw [e0] at q
  unfold partsB at q
  obtain ⟨qs, hqs, hg⟩ := id hs
  have hqs4 := SqT.sm S14 hqs
  refine ⟨_, rfl, s, rfl, ⟨_, hqs4⟩, fun D nD => ?_⟩
  refine lc_tup (K := K) (a := s) (xs := qs.map V.ref) (fun i H' => Same H4 H' ∧ H' D = some (.lst (((S.take i).map (inRun R)).map V.bl))) ⟨same_new nD _, upd_same⟩ (fun i H' _ h => SqT.sm h.1 hqs4) ?_ ?_
  · rintro i x H5 hx ⟨S5, hD5⟩
    obtain ⟨y, hy, rfl⟩ : ∃ y, qs[i]? = some y ∧ x = V.ref y := by
      rw [List.getElem?_map] at hx
      cases e : qs[i]? with
      | none => rw [e] at hx; cases hx
      | some p => rw [e] at hx; exact ⟨p, rfl, (Option.some.inj hx).symm⟩
    obtain ⟨r', hr1, hr2⟩ := Prd.get hg hy
    obtain ⟨hi, er⟩ := List.getElem?_eq_some_iff.mp hr1
    have S05 := S14.trans S5
    have put : ∀ bb : Bool, bb = inRun R r' → ∃ acc, H5 D = some (.lst acc) ∧ acc.length < sizeLine ∧ Same H4 (upd H5 D (.lst (acc ++ [.bl bb]))) ∧ upd H5 D (.lst (acc ++ [.bl bb])) D = some (.lst (((S.take (i + 1)).map (inRun R)).map V.bl)) := fun bb eb => by
      refine ⟨_, hD5, ?_, same_mut S5 nD, ?_⟩
      · rw [List.length_map, List.length_map, List.length_take]
        exact Nat.lt_of_le_of_lt (show _ ≤ 3000 by omega) (by decide)
      · rw [upd_same, List.take_succ_eq_append_getElem hi, er, List.map_append, List.map_append, eb]
        rfl
    have ev : ∀ x y : Str, decide (V.str x = V.str y) = decide (x = y) := fun x y => by simp
    refine ⟨rfl, _, rfl, y, _, _, _, rfl, rfl, SqT.of (S05 _ _ hr2), rfl, _, rfl, r, _, _, _, rfl, rfl, SqT.of (S05 _ _ hr), rfl, ?_⟩
    refine ⟨rfl, _, rfl, ?_⟩
    rw [ev]
    have pr := SqT.of (K := K) (S05 _ _ hr)
    have po := SqT.of (K := K) (S05 _ _ hr2)
    refine ite2 (fun k1 => ?_) (fun k1 => put _ (by unfold inRun; rw [Bool.eq_false_iff.mpr k1]; rfl))
    refine ⟨_, rfl, r, _, _, _, rfl, rfl, pr, rfl, _, rfl, y, _, _, _, rfl, rfl, po, rfl, _, _, rfl, rfl, _, rfl, ?_⟩
    refine ite2 (fun k2 => ?_) (fun k2 => put _ (by unfold inRun; rw [k1, Bool.eq_false_iff.mpr k2]; rfl))
    refine ⟨_, rfl, y, _, _, _, rfl, rfl, po, rfl, _, rfl, r, _, _, _, rfl, rfl, pr, rfl, _, _, rfl, rfl, ?_⟩
    exact put _ (by unfold inRun; rw [k1, k2]; rfl)
  rintro H5 ⟨S5, hD5⟩
  rw [List.length_map, hg.len, List.take_length] at hD5
  have S05 := S14.trans S5
  refine ⟨D, _, rfl, SqL.of hD5, ?_⟩
  have ea : ((S.map (inRun R)).all _root_.id) = S.all (inRun R) := by
    rw [List.all_map]
    rfl
  rw [ea]
  cases k0 : S.all (inRun R) with
  | false =>
    refine ⟨_, rfl, iteT ?_⟩
    have y := q _ S05
    rw [k0, Bool.false_and] at y
    exact y
  | true =>
  rw [k0, Bool.true_and] at q
  refine ⟨_, rfl, iteF ?_⟩
  have ev : ∀ x y : Str, decide (V.str x = V.str y) = decide (x = y) := fun x y => by simp
  refine ⟨_, rfl, st, _, _, _, rfl, rfl, SqT.of (S05 _ _ hst), rfl, _, rfl, r, _, _, _, rfl, rfl, SqT.of (S05 _ _ hr), rfl, rfl, _, rfl, ?_⟩
  rw [ev]
  refine ite2 (fun k2 => ?_) (fun k2 => ?_)
  rotate_left
  · have y := q _ S05
    rw [Bool.eq_false_iff.mpr k2, Bool.false_and] at y
    exact y
  rw [k2, Bool.true_and] at q
  refine ⟨_, rfl, st, _, _, _, rfl, rfl, SqT.of (S05 _ _ hst), rfl, _, rfl, st, _, _, _, rfl, rfl, SqT.of (S05 _ _ hst), rfl, _, _, rfl, rfl, ?_⟩
  refine ⟨_, rfl, s, S, rfl, hs.same S05, by omega, fun H6 S6 => ⟨_, _, rfl, rfl, ?_⟩⟩
  exact q H6 (S05.trans S6)

theorem ok_lmenu (F : Fun K "_law_menu" "_law_menu" s_lmenu f_lmenu d_lmenu) (T : Txt K mg f_is_number f_is_from_to f_is_word f_is_tuple_of f_is_run f_is_runs f_is_apart f_many_in f_both f_less f_what_is_left f_is_within f_is_bundling f_laid f_lfeed f_ldraw f_lnames f_lhas f_lmade f_lis_number f_lis_word f_lis_run f_lis_runs f_lalike f_lodd f_lbent f_lspoilt f_lbundling f_lmany f_lis_bundling f_lmenu f_llaid f_llot f_lright f_law)
    (F_lmany : Fun K "_law_many" "_law_many" s_lmany f_lmany d_lmany) (b_lmany : Binds K d_lmany ["_law_runs"] []) (G_lmany : FnOk P w K mg base CX0 (1) f_lmany d_lmany ["_law_runs"] (spLMany12 K)) :
    FnOk P w K mg base CX0 (2) f_lmenu d_lmenu ["_law_bundling_here"] spMenu12 := by
  refine F.ok sc_lmenu (fun vs H Q E h => ?_) (fun cdv A outer s H vs Q E hr h => ?_)

  · obtain ⟨a, B, rfl, _⟩ := h
    rfl
  obtain ⟨a, B, rfl, ⟨r, s, t, qs, bc⟩, ok, q⟩ := h
  refine ⟨_, (pss_cons (ps_asg (pv 0) (pg_tup rfl (pgs_cons (pg_name (i := 1) sc_lmenu.nd rfl (.inr rfl)) (pgs_cons (pg_name (i := 2) sc_lmenu.nd rfl (.inr rfl)) (pgs_cons (pg_name (i := 3) sc_lmenu.nd rfl (.inr rfl)) (pgs_cons (pg_name (i := 4) sc_lmenu.nd rfl (.inr rfl)) pgs_nil))))))
  (pss_cons (ps_asg (pv 1) (pg_tup rfl (pgs_cons (pg_name (i := 5) sc_lmenu.nd rfl (.inr rfl)) (pgs_cons (pg_name (i := 6) sc_lmenu.nd rfl (.inl rfl)) (pgs_cons (pg_name (i := 7) sc_lmenu.nd rfl (.inl rfl)) pgs_nil)))))
  (C8.pss_cut (ps_set (i := 8) sc_lmenu.nd rfl (.inl rfl) (pe_lst (pa_cons pe_non (pa_cons (pe_tup pa_nil) (pa_cons (pe_callTy call_list_of (by rfl) T.list (by decide +kernel) (pa_cons (pv 0) pa_nil)) (pa_cons (pe_slice sl_tupTk (pv 0) po_none (po_some pe_int)) (pa_cons (pe_op op_catTk (pv 0) (pe_tup (pa_cons (pe_tup pa_nil) pa_nil))) (pa_cons (pe_tup (pa_cons (pv 1) (pa_cons (pv 2) (pa_cons (pe_callTy call_list_of (by rfl) T.list (by decide +kernel) (pa_cons (pv 3) pa_nil)) (pa_cons (pv 4) pa_nil))))) pa_nil))))))))
  (C8.pss_cut (ps_set (i := 8) sc_lmenu.nd rfl (.inl rfl) (pe_op op_cat (pv 8) (pe_lc (own := [("_law_number", 9)]) (g := (gName 9)) (by rfl) sc_lmenu.nd (pi_tup (pe_tup (pa_cons pe_int (pa_cons pe_int (pa_cons pe_int (pa_cons pe_int (pa_cons (pe_un un_neg pe_int) (pa_cons pe_bl (pa_cons pe_non pa_nil))))))))) (blkOk_by (own := [("_law_number", 9)]) (N := ["_law_bundling_here", "_law_run", "_law_size", "_law_spoilt_here", "_law_stars", "_law_series", "_law_first", "_law_end", "_law_found", "_law_number", "_law_edges", "_law_long", "_law_edge", "_law_many_here", "_law_other", "_law_each_third", "_law_k", "_law_more"]) (sc := defScope s_lmenu) (by decide +kernel)) (fun _ _ _ _ _ => (pg_name (i := 9) sc_lmenu.nd rfl (.inl rfl))) (fun _ _ _ _ _ => pts_nil) (fun _ _ _ _ _ => (pe_tup (pa_cons (pv 1) (pa_cons (pv 9) (pa_cons (pv 3) (pa_cons (pv 4) pa_nil)))))))))
  (C8.pss_cut (ps_set (i := 10) sc_lmenu.nd rfl (.inl rfl) (pe_lst (pa_cons (pe_tup (pa_cons (pe_tup (pa_cons (pv 5) (pa_cons (pv 7) (pa_cons (pe_op op_add (pv 7) pe_int) pa_nil)))) pa_nil)) (pa_cons (pe_tup (pa_cons (pe_tup (pa_cons (pv 5) (pa_cons (pe_op op_sub (pv 7) pe_int) (pa_cons (pv 7) pa_nil)))) pa_nil)) (pa_cons (pe_tup (pa_cons (pe_tup (pa_cons (pv 5) (pa_cons (pv 6) (pa_cons (pe_op op_add (pv 6) pe_int) pa_nil)))) pa_nil)) (pa_cons (pe_tup (pa_cons (pv 1) pa_nil)) (pa_cons (pe_tup pa_nil) pa_nil)))))))
  (C8.pss_cut (ps_set (i := 10) sc_lmenu.nd rfl (.inl rfl) (pe_op op_cat (pv 10) (pe_lst (pa_cons (pe_tup (pa_cons (pe_tup (pa_cons (pv 5) (pa_cons (pe_callB (call_max2 rfl) (by rfl) T.max (by decide +kernel) (pa_cons pe_int (pa_cons (pe_op op_sub (pv 6) pe_int) pa_nil))) (pa_cons (pv 7) pa_nil)))) pa_nil)) (pa_cons (pe_tup (pa_cons (pe_tup (pa_cons (pe_op op_add_str (pv 5) pe_str) (pa_cons (pv 6) (pa_cons (pv 7) pa_nil)))) pa_nil)) (pa_cons (pe_tup (pa_cons (pe_tup (pa_cons (pe_ix ix_tup (pv 4) pe_int (fun _ _ => rfl)) (pa_cons (pv 6) (pa_cons (pv 7) pa_nil)))) pa_nil)) pa_nil))))))
  (C8.pss_cut (ps_set (i := 10) sc_lmenu.nd rfl (.inl rfl) (pe_op op_cat (pv 10) (pe_lst (pa_cons (pe_tup (pa_cons (pe_tup (pa_cons (pv 5) (pa_cons (pv 6) (pa_cons (pe_op op_add (pv 6) pe_int) pa_nil)))) (pa_cons (pe_tup (pa_cons (pv 5) (pa_cons (pe_op op_add (pv 6) pe_int) (pa_cons (pe_op op_add (pv 6) pe_int) pa_nil)))) pa_nil))) (pa_cons (pe_tup (pa_cons (pv 1) (pa_cons (pv 1) pa_nil))) pa_nil)))))
  (C8.pss_cut (ps_expr (pe_bm PySem.F.plainAttrs_list PySem.F.slot_list_append PySem.F.type_list_append mt_append (pv 10) (pa_cons (pe_tup (pa_cons (pe_tup (pa_cons (pv 5) (pa_cons (pv 6) (pa_cons (pe_op op_add (pv 7) pe_int) pa_nil)))) pa_nil)) pa_nil)))
  (C8.pss_cut (ps_set (i := 11) sc_lmenu.nd rfl (.inr rfl) (pe_tup (pa_cons (pe_ix ix_tup (pv 4) pe_int (fun _ _ => rfl)) (pa_cons pe_int (pa_cons (pe_op op_pow pe_int pe_int) pa_nil)))))
  (C8.pss_cut (ps_set (i := 8) sc_lmenu.nd rfl (.inl rfl) (pe_op op_cat (pv 8) (pe_lc (own := [("_law_edge", 12)]) (g := (gName 12)) (by rfl) sc_lmenu.nd (pi_list (pv 10)) (blkOk_by (own := [("_law_edge", 12)]) (N := ["_law_bundling_here", "_law_run", "_law_size", "_law_spoilt_here", "_law_stars", "_law_series", "_law_first", "_law_end", "_law_found", "_law_number", "_law_edges", "_law_long", "_law_edge", "_law_many_here", "_law_other", "_law_each_third", "_law_k", "_law_more"]) (sc := defScope s_lmenu) (by decide +kernel)) (fun _ _ _ _ _ => (pg_name (i := 12) sc_lmenu.nd rfl (.inl rfl))) (fun _ _ _ _ _ => pts_nil) (fun _ _ _ _ _ => (pe_tup (pa_cons (pv 1) (pa_cons (pv 2) (pa_cons (pv 12) (pa_cons (pv 11) pa_nil)))))))))
  (C8.pss_cut (ps_set (i := 13) sc_lmenu.nd rfl (.inl rfl) (pe_call G_lmany hr (by rfl) T.m_lmany F_lmany.kp b_lmany .nil pass0 (pa_cons (pv 3) pa_nil)))
  (pss_cons (ps_for PassesOwn.never rfl (pi_tup (pe_tup (pa_cons (pe_op op_sub (pv 13) pe_int) (pa_cons (pv 13) (pa_cons (pe_op op_add (pv 13) pe_int) pa_nil))))) (pg_name (i := 14) sc_lmenu.nd rfl (.inl rfl))
  (pss_one (ps_expr (pe_bm PySem.F.plainAttrs_list PySem.F.slot_list_append PySem.F.type_list_append mt_append (pv 8) (pa_cons (pe_tup (pa_cons (pv 1) (pa_cons (pv 2) (pa_cons (pv 3) (pa_cons (pe_tup (pa_cons (pe_ix ix_tup (pv 4) pe_int (fun _ _ => rfl)) (pa_cons pe_int (pa_cons (pe_op op_add pe_int (pv 14)) pa_nil)))) pa_nil))))) pa_nil)))))
  (C8.pss_cut (ps_set (i := 8) sc_lmenu.nd rfl (.inl rfl) (pe_op op_cat (pv 8) (pe_lst (pa_cons (pe_tup (pa_cons (pv 1) (pa_cons (pv 2) (pa_cons (pv 3) (pa_cons (pe_tup (pa_cons (pv 5) (pa_cons pe_int (pa_cons (pe_op op_pow pe_int pe_int) pa_nil)))) pa_nil))))) (pa_cons (pe_tup (pa_cons (pv 1) (pa_cons (pv 2) (pa_cons (pe_tup pa_nil) (pa_cons (pe_tup (pa_cons (pe_ix ix_tup (pv 4) pe_int (fun _ _ => rfl)) (pa_cons pe_int (pa_cons pe_int pa_nil)))) pa_nil))))) pa_nil)))))
  (C8.pss_cut (ps_set (i := 15) sc_lmenu.nd rfl (.inr rfl) (pe_callTy call_tuple_of (by rfl) T.tuple (by decide +kernel) (pa_cons (pe_lc (own := [("_law_k", 16)]) (g := (gName 16)) (by rfl) sc_lmenu.nd (pi_range1 (by rfl) T.range (pa_cons pe_int pa_nil)) (blkOk_by (own := [("_law_k", 16)]) (N := ["_law_bundling_here", "_law_run", "_law_size", "_law_spoilt_here", "_law_stars", "_law_series", "_law_first", "_law_end", "_law_found", "_law_number", "_law_edges", "_law_long", "_law_edge", "_law_many_here", "_law_other", "_law_each_third", "_law_k", "_law_more"]) (sc := defScope s_lmenu) (by decide +kernel)) (fun _ _ _ _ _ => (pg_name (i := 16) sc_lmenu.nd rfl (.inl rfl))) (fun _ _ _ _ _ => pts_nil) (fun _ _ _ _ _ => (pe_tup (pa_cons (pv 5) (pa_cons (pe_op op_mul pe_int (pv 16)) (pa_cons (pe_op op_add (pe_op op_mul pe_int (pv 16)) pe_int) pa_nil)))))) pa_nil)))
  (C8.pss_cut (ps_set (i := 8) sc_lmenu.nd rfl (.inl rfl) (pe_op op_cat (pv 8) (pe_lc (own := [("_law_more", 17)]) (g := (gName 17)) (by rfl) sc_lmenu.nd (pi_tup (pe_tup (pa_cons (pe_un un_neg pe_int) (pa_cons pe_int pa_nil)))) (blkOk_by (own := [("_law_more", 17)]) (N := ["_law_bundling_here", "_law_run", "_law_size", "_law_spoilt_here", "_law_stars", "_law_series", "_law_first", "_law_end", "_law_found", "_law_number", "_law_edges", "_law_long", "_law_edge", "_law_many_here", "_law_other", "_law_each_third", "_law_k", "_law_more"]) (sc := defScope s_lmenu) (by decide +kernel)) (fun _ _ _ _ _ => (pg_name (i := 17) sc_lmenu.nd rfl (.inl rfl))) (fun _ _ _ _ _ => pts_nil) (fun _ _ _ _ _ => (pe_tup (pa_cons (pe_tup (pa_cons (pv 5) (pa_cons pe_int (pa_cons pe_int pa_nil)))) (pa_cons (pv 2) (pa_cons (pv 15) (pa_cons (pe_tup (pa_cons (pe_ix (show IxR _ (rIxT K) from ix_tup) (pv 4) pe_int (fun _ _ => rfl)) (pa_cons pe_int (pa_cons (pe_op op_add pe_int (pv 17)) pa_nil)))) pa_nil)))))))))
  (pss_one (ps_ret (pe_op op_cat (pv 8) (pe_lst (pa_cons (pe_tup (pa_cons (pv 1) (pa_cons (pv 2) (pa_cons (pv 3) (pa_cons (pe_tup pa_nil) pa_nil))))) pa_nil)))))))))))))))))))), ?_⟩
  obtain ⟨ro0, ro1, ro2⟩ := ok.ro
  obtain ⟨so0, so1, so2⟩ := ok.so
  have chS := nm_ch ok.rn
  have lS : B.run.1.length ≤ 100 := Nat.le_trans ok.rn.1 (by decide)
  have chT := nm_ch ok.sn
  have lT : B.st.1.length ≤ 100 := Nat.le_trans ok.sn.1 (by decide)
  have chX : ChOk (B.run.1 ++ (("x" : String) : Str)) := ch_app chS chXx
  have lX : (B.run.1 ++ (("x" : String) : Str)).length ≤ 100 := by
    rw [str_len_app]
    have := ok.rn.1
    show _ + 1 ≤ 100
    omega
  have lX0 : B.run.1.length + ((("x" : String) : Str)).length ≤ sizeLine := by
    have := ok.rn.1
    exact Nat.le_trans (show B.run.1.length + 1 ≤ 100 by omega) (by decide)
  have small : ∀ {n : Nat}, n ≤ 100 → n < sizeLine := fun h => Nat.lt_of_le_of_lt h (by decide)
  refine ⟨_, rfl, a, _, rfl, SqT.of bc.ha, rfl, _, _, rfl, _, _, rfl, _, _, rfl, _, _, rfl, rfl, ?_⟩
  refine ⟨_, rfl, r, _, rfl, SqT.of bc.hr, rfl, _, _, rfl, _, _, rfl, _, _, rfl, rfl, ?_⟩
  refine ⟨fun σ H' => ∃ (F : Addr) (us : List V), σ = [some (.ref a), some (.ref r), some (.int B.size), some (.ref s), some (.ref t), some (.str B.run.1), some (.int B.run.2.1), some (.int B.run.2.2), some (.ref F), none, none, none, none, none, none, none, none, none] ∧ Same H H' ∧ H F = none ∧ Us (fun x => H x = none) H' F us 4 350000 6, ?_, ?_⟩
  · show tAsg _ _ _ [some (.ref a), some (.ref r), some (.int B.size), some (.ref s), some (.ref t), some (.str B.run.1), some (.int B.run.2.1), some (.int B.run.2.2), none, none, none, none, none, none, none, none, none, none] H
    have UG0 : Same H H := Same.refl _
    refine ⟨(show 0 ≤ sizeLine by decide), fun e0 ne0 => ?_⟩
    have SG1 := same_new ne0 (.tup [])
    have he0 : upd H e0 (.tup []) e0 = some (.tup []) := upd_same
    generalize hhG1 : upd H e0 (.tup []) = G1 at *
    clear hhG1
    have UG1 := UG0.trans SG1
    have bc := bc.same SG1
    refine ⟨_, rfl, a, _, rfl, .inr (SqT.of bc.ha), fun l1 nl1 => ?_⟩
    have SG2 := same_new nl1 (.lst [V.ref r, .int B.size, .ref s, .ref t])
    have hl1 : upd G1 l1 (.lst [V.ref r, .int B.size, .ref s, .ref t]) l1 = some (.lst [V.ref r, .int B.size, .ref s, .ref t]) := upd_same
    generalize hhG2 : upd G1 l1 (.lst [V.ref r, .int B.size, .ref s, .ref t]) = G2 at *
    clear hhG2
    have UG2 := UG1.trans SG2
    have he0 := SG2 _ _ he0
    have bc := bc.same SG2
    refine ⟨_, rfl, 3, rfl, a, _, rfl, bc.ha, fun p3 G3 SG3 hp3 => ?_⟩
    have UG3 := UG2.trans SG3
    have he0 := SG3 _ _ he0
    have hl1 := SG3 _ _ hl1
    have bc := bc.same SG3
    refine ⟨_, rfl, (show 0 ≤ sizeLine by decide), fun e1 ne1 => ?_⟩
    have SG4 := same_new ne1 (.tup [])
    have he1 : upd G3 e1 (.tup []) e1 = some (.tup []) := upd_same
    generalize hhG4 : upd G3 e1 (.tup []) = G4 at *
    clear hhG4
    have UG4 := UG3.trans SG4
    have he0 := SG4 _ _ he0
    have hl1 := SG4 _ _ hl1
    have hp3 := SG4 _ _ hp3
    have bc := bc.same SG4
    refine ⟨(show 1 ≤ sizeLine by decide), fun o1 no1 => ?_⟩
    have SG5 := same_new no1 (.tup [V.ref e1])
    have ho1 : upd G4 o1 (.tup [V.ref e1]) o1 = some (.tup [V.ref e1]) := upd_same
    generalize hhG5 : upd G4 o1 (.tup [V.ref e1]) = G5 at *
    clear hhG5
    have UG5 := UG4.trans SG5
    have he0 := SG5 _ _ he0
    have hl1 := SG5 _ _ hl1
    have hp3 := SG5 _ _ hp3
    have he1 := SG5 _ _ he1
    have bc := bc.same SG5
    refine ⟨a, o1, _, _, rfl, rfl, bc.ha, ho1, (show 4 + 1 ≤ sizeLine by decide), fun p5 G6 SG6 hp5 => ?_⟩
    have UG6 := UG5.trans SG6
    have he0 := SG6 _ _ he0
    have hl1 := SG6 _ _ hl1
    have hp3 := SG6 _ _ hp3
    have he1 := SG6 _ _ he1
    have ho1 := SG6 _ _ ho1
    have bc := bc.same SG6
    refine ⟨_, rfl, _, rfl, _, rfl, s, _, rfl, .inr (SqT.of bc.hs), fun l2 nl2 => ?_⟩
    have SG7 := same_new nl2 (.lst (qs.map V.ref))
    have hl2 : upd G6 l2 (.lst (qs.map V.ref)) l2 = some (.lst (qs.map V.ref)) := upd_same
    generalize hhG7 : upd G6 l2 (.lst (qs.map V.ref)) = G7 at *
    clear hhG7
    have UG7 := UG6.trans SG7
    have he0 := SG7 _ _ he0
    have hl1 := SG7 _ _ hl1
    have hp3 := SG7 _ _ hp3
    have he1 := SG7 _ _ he1
    have ho1 := SG7 _ _ ho1
    have hp5 := SG7 _ _ hp5
    have bc := bc.same SG7
    refine ⟨_, rfl, (show 4 ≤ sizeLine by decide), fun t4 nt4 => ?_⟩
    have SG8 := same_new nt4 (.tup [V.ref r, .int B.size, .ref l2, .ref t])
    have ht4 : upd G7 t4 (.tup [V.ref r, .int B.size, .ref l2, .ref t]) t4 = some (.tup [V.ref r, .int B.size, .ref l2, .ref t]) := upd_same
    generalize hhG8 : upd G7 t4 (.tup [V.ref r, .int B.size, .ref l2, .ref t]) = G8 at *
    clear hhG8
    have UG8 := UG7.trans SG8
    have he0 := SG8 _ _ he0
    have hl1 := SG8 _ _ hl1
    have hp3 := SG8 _ _ hp3
    have he1 := SG8 _ _ he1
    have ho1 := SG8 _ _ ho1
    have hp5 := SG8 _ _ hp5
    have hl2 := SG8 _ _ hl2
    have bc := bc.same SG8
    refine ⟨(show 6 ≤ sizeLine by decide), fun F nF => ?_⟩
    have SG9 := same_new nF (.lst [V.non, .ref e0, .ref l1, .ref p3, .ref p5, .ref t4])
    have hF : upd G8 F (.lst [V.non, .ref e0, .ref l1, .ref p3, .ref p5, .ref t4]) F = some (.lst [V.non, .ref e0, .ref l1, .ref p3, .ref p5, .ref t4]) := upd_same
    generalize hhG9 : upd G8 F (.lst [V.non, .ref e0, .ref l1, .ref p3, .ref p5, .ref t4]) = G9 at *
    clear hhG9
    have UG9 := UG8.trans SG9
    have he0 := SG9 _ _ he0
    have hl1 := SG9 _ _ hl1
    have hp3 := SG9 _ _ hp3
    have he1 := SG9 _ _ he1
    have ho1 := SG9 _ _ ho1
    have hp5 := SG9 _ _ hp5
    have hl2 := SG9 _ _ hl2
    have ht4 := SG9 _ _ ht4
    have bc := bc.same SG9
    have g0 : GV (fun x => H x = none) G9 1 2000 MB (.ref e0) := gl_tup (k := 0) he0 .nil (Nat.le_of_ble_eq_true rfl)
    have g1 : GV (fun x => H x = none) G9 1 2000 MB (.ref e1) := gl_tup (k := 0) he1 .nil (Nat.le_of_ble_eq_true rfl)
    have go : GV (fun x => H x = none) G9 3 3000 MB (.ref o1) := (gl_tup (k := 1) ho1 (.cons g1 .nil) (show _ ≤ 3000 from (Nat.le_of_ble_eq_true rfl))).mono (by decide) (Nat.le_refl _) (Int.le_refl _)
    have gr := bc.gr (N := (fun x => H x = none)) ok
    have gt := bc.gt (N := (fun x => H x = none)) ok
    have gp := (bc.gsp (N := (fun x => H x = none)) ok).mono (show 2 ≤ 3 by decide) (Nat.le_refl _) (Int.le_refl _)
    have gz := gsz (N := (fun x => H x = none)) (H := G9) ok
    have gl1 : GV (fun x => H x = none) G9 4 350000 MB (.ref l1) := gl_lst (k := 3) (UG1.free nl1) hl1 (.cons (gr) (.cons (gz) (.cons (gp) (.cons (gt) .nil)))) (Nat.le_of_ble_eq_true rfl)
    have hp3 : G9 p3 = some (.tup [.ref r, .int B.size, .ref s]) := hp3
    have gp3 : GV (fun x => H x = none) G9 4 350000 MB (.ref p3) := gl_tup (k := 3) hp3 (.cons (gr) (.cons (gz) (.cons (gp) .nil))) (Nat.le_of_ble_eq_true rfl)
    have hp5 : G9 p5 = some (.tup [.ref r, .int B.size, .ref s, .ref t, .ref e1]) := hp5
    have gp5 : GV (fun x => H x = none) G9 4 350000 MB (.ref p5) := gl_tup (k := 3) hp5 (.cons (gr) (.cons (gz) (.cons (gp) (.cons (gt) (.cons (g1.mono (by decide) (Nat.le_refl _) (Int.le_refl _)) .nil))))) (Nat.le_of_ble_eq_true rfl)
    have gl2 := (bc.gsl (N := (fun x => H x = none)) ok (UG6.free nl2) hl2).mono (show 2 ≤ 3 by decide) (Nat.le_refl _) (Int.le_refl _)
    have gt4 : GV (fun x => H x = none) G9 4 350000 MB (.ref t4) := gl_tup (k := 3) ht4 (.cons (gr) (.cons (gz) (.cons (gl2) (.cons (gt) .nil)))) (Nat.le_of_ble_eq_true rfl)
    exact ⟨F, _, rfl, UG9, UG8.free nF, ⟨hF, (show 6 ≤ 6 by decide), (gvs_cons (ma_non.mono (by decide) (by decide) (Int.le_refl _)) (gvs_cons (g0.mono (by decide) (by decide) (Int.le_refl _)) (gvs_cons (gl1.mono (by decide) (by decide) (Int.le_refl _)) (gvs_cons (gp3.mono (by decide) (by decide) (Int.le_refl _)) (gvs_cons (gp5.mono (by decide) (by decide) (Int.le_refl _)) (gvs_cons (gt4.mono (by decide) (by decide) (Int.le_refl _)) gvs_nil))))))⟩⟩
  rintro σ H1 ⟨F, us, rfl, S1, nF, uF⟩
  have bc1 := bc.same S1
  refine ⟨fun σ H' => ∃ (F : Addr) (us : List V), σ = [some (.ref a), some (.ref r), some (.int B.size), some (.ref s), some (.ref t), some (.str B.run.1), some (.int B.run.2.1), some (.int B.run.2.2), some (.ref F), none, none, none, none, none, none, none, none, none] ∧ Same H H' ∧ H F = none ∧ Us (fun x => H x = none) H' F us 4 350000 13, ?_, ?_⟩
  · refine ⟨_, rfl, 1, rfl, (show 7 ≤ sizeLine by decide), fun T0 nT0 => ?_⟩
    have N2 := same_new nT0 (.tup [V.int 0, .int 1, .int 1000, .int 1001, .int (-1), .bl true, .non])
    have hT0 : upd H1 T0 (.tup [V.int 0, .int 1, .int 1000, .int 1001, .int (-1), .bl true, .non]) T0 = some (.tup [V.int 0, .int 1, .int 1000, .int 1001, .int (-1), .bl true, .non]) := upd_same
    have S2 := S1.trans N2
    have bc2 := bc1.same N2
    have uF2 := uF.same N2
    generalize upd H1 T0 (.tup [V.int 0, .int 1, .int 1000, .int 1001, .int (-1), .bl true, .non]) = H2 at *
    refine ⟨T0, rfl, ⟨_, SqT.of hT0⟩, fun D hD => ?_⟩
    refine lc_tup (K := K) (a := T0) (xs := [V.int 0, .int 1, .int 1000, .int 1001, .int (-1), .bl true, .non]) (fun i H' => ∃ ws : List V, Same H2 H' ∧ Us (fun _ => False) H' D ws 4 350000 i) ⟨[], same_new hD _, ⟨upd_same, Nat.le_refl _, fun _ h => nomatch h⟩⟩ (fun i H' _ h => by obtain ⟨_, k, _⟩ := h; exact SqT.of (k _ _ hT0)) ?_ ?_
    · rintro i x H3 hx ⟨ws, S3, uD⟩
      have gx : ∀ Hx : Hp, GV (fun _ => False) Hx 3 2000 MB x := fun Hx => by
        have z := List.mem_of_getElem? hx
        simp only [List.mem_cons, List.not_mem_nil, or_false] at z
        rcases z with rfl | rfl | rfl | rfl | rfl | rfl | rfl
        · exact gi12 (by decide) (by decide)
        · exact gi12 (by decide) (by decide)
        · exact gi12 (by decide) (by decide)
        · exact gi12 (by decide) (by decide)
        · exact gi12 (by decide) (by decide)
        · exact gv_bl _ (by decide)
        · exact gv_non (by decide)
      have hi : i < 7 := (List.getElem?_eq_some_iff.mp hx).1
      refine ⟨rfl, _, rfl, _, rfl, _, rfl, _, rfl, (show 4 ≤ sizeLine by decide), fun w nw => ?_⟩
      have N4 := same_new nw (.tup [V.ref r, x, .ref s, .ref t])
      have bc4 := (bc2.same S3).same N4
      have uD4 := uD.same N4
      have gw : GV (fun _ => False) _ 4 350000 MB (.ref w) := gl_tup (k := 3) (upd_same (H := H3) (a := w) (o := .tup [V.ref r, x, .ref s, .ref t])) (.cons (bc4.gr ok) (.cons (gx _) (.cons ((bc4.gsp ok).mono (by decide) (Nat.le_refl _) (Int.le_refl _)) (.cons (bc4.gt ok) .nil)))) (Nat.le_of_ble_eq_true rfl)
      exact ⟨_, uD4.at_, small (by have := uD.len; omega), ws ++ [.ref w], same_mut (S3.trans N4) hD, uD4.put (fun _ z => z.elim) gw⟩
    rintro H3 ⟨ws, S3, uD⟩
    have uF3 := uF2.same S3
    refine ⟨F, D, _, _, rfl, rfl, uF3.at_, uD.at_, Nat.le_trans (Nat.add_le_add uF3.len uD.len) (by decide), fun F2 nF2 => ?_⟩
    have S03 := S2.trans S3
    exact ⟨F2, _, rfl, S03.trans (same_new nF2 _), S03.free nF2, us_cat uF3 (uD.imp fun _ z => z.elim) nF2⟩
  rintro σ H3 ⟨F, us, rfl, S3, nF, uF⟩
  have bc3 := bc.same S3
  refine ⟨fun σ H' => ∃ (F : Addr) (us : List V) (E : Addr) (es : List V), σ = [some (.ref a), some (.ref r), some (.int B.size), some (.ref s), some (.ref t), some (.str B.run.1), some (.int B.run.2.1), some (.int B.run.2.2), some (.ref F), none, some (.ref E), none, none, none, none, none, none, none] ∧ Same H H' ∧ H F = none ∧ H E = none ∧ F ≠ E ∧ Us (fun x => H x = none) H' F us 4 350000 13 ∧ Us (fun _ => False) H' E es 2 20000 5, ?_, ?_⟩
  · have bc := bc3
    have uF0 := uF
    have UV10 : Same H3 H3 := Same.refl _
    refine ⟨_, rfl, _, rfl, _, rfl, _, _, rfl, rfl, (show 3 ≤ sizeLine by decide), fun x1_1 nx1_1 => ?_⟩
    have SV11 := same_new nx1_1 (.tup [V.str (B.run.1), .int (B.run.2.2), .int (B.run.2.2 + 1)])
    have hx1_1 : upd H3 x1_1 (.tup [V.str (B.run.1), .int (B.run.2.2), .int (B.run.2.2 + 1)]) x1_1 = some (.tup [V.str (B.run.1), .int (B.run.2.2), .int (B.run.2.2 + 1)]) := upd_same
    generalize hhV11 : upd H3 x1_1 (.tup [V.str (B.run.1), .int (B.run.2.2), .int (B.run.2.2 + 1)]) = V11 at *
    clear hhV11
    have UV11 := UV10.trans SV11
    have bc := bc.same SV11
    have uF := uF.same SV11
    refine ⟨(show 1 ≤ sizeLine by decide), fun x1_2 nx1_2 => ?_⟩
    have SV12 := same_new nx1_2 (.tup [V.ref x1_1])
    have hx1_2 : upd V11 x1_2 (.tup [V.ref x1_1]) x1_2 = some (.tup [V.ref x1_1]) := upd_same
    generalize hhV12 : upd V11 x1_2 (.tup [V.ref x1_1]) = V12 at *
    clear hhV12
    have UV12 := UV11.trans SV12
    have hx1_1 := SV12 _ _ hx1_1
    have bc := bc.same SV12
    have uF := uF.same SV12
    refine ⟨_, rfl, _, rfl, _, _, rfl, rfl, _, rfl, (show 3 ≤ sizeLine by decide), fun x1_3 nx1_3 => ?_⟩
    have SV13 := same_new nx1_3 (.tup [V.str (B.run.1), .int (B.run.2.2 - 1), .int (B.run.2.2)])
    have hx1_3 : upd V12 x1_3 (.tup [V.str (B.run.1), .int (B.run.2.2 - 1), .int (B.run.2.2)]) x1_3 = some (.tup [V.str (B.run.1), .int (B.run.2.2 - 1), .int (B.run.2.2)]) := upd_same
    generalize hhV13 : upd V12 x1_3 (.tup [V.str (B.run.1), .int (B.run.2.2 - 1), .int (B.run.2.2)]) = V13 at *
    clear hhV13
    have UV13 := UV12.trans SV13
    have hx1_1 := SV13 _ _ hx1_1
    have hx1_2 := SV13 _ _ hx1_2
    have bc := bc.same SV13
    have uF := uF.same SV13
    refine ⟨(show 1 ≤ sizeLine by decide), fun x1_4 nx1_4 => ?_⟩
    have SV14 := same_new nx1_4 (.tup [V.ref x1_3])
    have hx1_4 : upd V13 x1_4 (.tup [V.ref x1_3]) x1_4 = some (.tup [V.ref x1_3]) := upd_same
    generalize hhV14 : upd V13 x1_4 (.tup [V.ref x1_3]) = V14 at *
    clear hhV14
    have UV14 := UV13.trans SV14
    have hx1_1 := SV14 _ _ hx1_1
    have hx1_2 := SV14 _ _ hx1_2
    have hx1_3 := SV14 _ _ hx1_3
    have bc := bc.same SV14
    have uF := uF.same SV14
    refine ⟨_, rfl, _, rfl, _, rfl, _, _, rfl, rfl, (show 3 ≤ sizeLine by decide), fun x1_5 nx1_5 => ?_⟩
    have SV15 := same_new nx1_5 (.tup [V.str (B.run.1), .int (B.run.2.1), .int (B.run.2.1 + 1)])
    have hx1_5 : upd V14 x1_5 (.tup [V.str (B.run.1), .int (B.run.2.1), .int (B.run.2.1 + 1)]) x1_5 = some (.tup [V.str (B.run.1), .int (B.run.2.1), .int (B.run.2.1 + 1)]) := upd_same
    generalize hhV15 : upd V14 x1_5 (.tup [V.str (B.run.1), .int (B.run.2.1), .int (B.run.2.1 + 1)]) = V15 at *
    clear hhV15
    have UV15 := UV14.trans SV15
    have hx1_1 := SV15 _ _ hx1_1
    have hx1_2 := SV15 _ _ hx1_2
    have hx1_3 := SV15 _ _ hx1_3
    have hx1_4 := SV15 _ _ hx1_4
    have bc := bc.same SV15
    have uF := uF.same SV15
    refine ⟨(show 1 ≤ sizeLine by decide), fun x1_6 nx1_6 => ?_⟩
    have SV16 := same_new nx1_6 (.tup [V.ref x1_5])
    have hx1_6 : upd V15 x1_6 (.tup [V.ref x1_5]) x1_6 = some (.tup [V.ref x1_5]) := upd_same
    generalize hhV16 : upd V15 x1_6 (.tup [V.ref x1_5]) = V16 at *
    clear hhV16
    have UV16 := UV15.trans SV16
    have hx1_1 := SV16 _ _ hx1_1
    have hx1_2 := SV16 _ _ hx1_2
    have hx1_3 := SV16 _ _ hx1_3
    have hx1_4 := SV16 _ _ hx1_4
    have hx1_5 := SV16 _ _ hx1_5
    have bc := bc.same SV16
    have uF := uF.same SV16
    refine ⟨_, rfl, (show 1 ≤ sizeLine by decide), fun x1_7 nx1_7 => ?_⟩
    have SV17 := same_new nx1_7 (.tup [V.ref r])
    have hx1_7 : upd V16 x1_7 (.tup [V.ref r]) x1_7 = some (.tup [V.ref r]) := upd_same
    generalize hhV17 : upd V16 x1_7 (.tup [V.ref r]) = V17 at *
    clear hhV17
    have UV17 := UV16.trans SV17
    have hx1_1 := SV17 _ _ hx1_1
    have hx1_2 := SV17 _ _ hx1_2
    have hx1_3 := SV17 _ _ hx1_3
    have hx1_4 := SV17 _ _ hx1_4
    have hx1_5 := SV17 _ _ hx1_5
    have hx1_6 := SV17 _ _ hx1_6
    have bc := bc.same SV17
    have uF := uF.same SV17
    refine ⟨(show 0 ≤ sizeLine by decide), fun x1_8 nx1_8 => ?_⟩
    have SV18 := same_new nx1_8 (.tup [])
    have hx1_8 : upd V17 x1_8 (.tup []) x1_8 = some (.tup []) := upd_same
    generalize hhV18 : upd V17 x1_8 (.tup []) = V18 at *
    clear hhV18
    have UV18 := UV17.trans SV18
    have hx1_1 := SV18 _ _ hx1_1
    have hx1_2 := SV18 _ _ hx1_2
    have hx1_3 := SV18 _ _ hx1_3
    have hx1_4 := SV18 _ _ hx1_4
    have hx1_5 := SV18 _ _ hx1_5
    have hx1_6 := SV18 _ _ hx1_6
    have hx1_7 := SV18 _ _ hx1_7
    have bc := bc.same SV18
    have uF := uF.same SV18
    refine ⟨(show 5 ≤ sizeLine by decide), fun x1_9 nx1_9 => ?_⟩
    have SV19 := same_new nx1_9 (.lst [V.ref x1_2, .ref x1_4, .ref x1_6, .ref x1_7, .ref x1_8])
    have hx1_9 : upd V18 x1_9 (.lst [V.ref x1_2, .ref x1_4, .ref x1_6, .ref x1_7, .ref x1_8]) x1_9 = some (.lst [V.ref x1_2, .ref x1_4, .ref x1_6, .ref x1_7, .ref x1_8]) := upd_same
    generalize hhV19 : upd V18 x1_9 (.lst [V.ref x1_2, .ref x1_4, .ref x1_6, .ref x1_7, .ref x1_8]) = V19 at *
    clear hhV19
    have UV19 := UV18.trans SV19
    have hx1_1 := SV19 _ _ hx1_1
    have hx1_2 := SV19 _ _ hx1_2
    have hx1_3 := SV19 _ _ hx1_3
    have hx1_4 := SV19 _ _ hx1_4
    have hx1_5 := SV19 _ _ hx1_5
    have hx1_6 := SV19 _ _ hx1_6
    have hx1_7 := SV19 _ _ hx1_7
    have hx1_8 := SV19 _ _ hx1_8
    have bc := bc.same SV19
    have uF := uF.same SV19
    have gx1_1 : GV (fun _ => False) V19 1 6009 MB (.ref x1_1) := gr12 hx1_1 chS lS (by omega) (by omega) (by omega) (by omega)
    have gx1_2 : GV (fun _ => False) V19 2 20000 MB (.ref x1_2) := gl_tup (k := 1) hx1_2 (.cons gx1_1 .nil) (Nat.le_of_ble_eq_true rfl)
    have gx1_3 : GV (fun _ => False) V19 1 6009 MB (.ref x1_3) := gr12 hx1_3 chS lS (by omega) (by omega) (by omega) (by omega)
    have gx1_4 : GV (fun _ => False) V19 2 20000 MB (.ref x1_4) := gl_tup (k := 1) hx1_4 (.cons gx1_3 .nil) (Nat.le_of_ble_eq_true rfl)
    have gx1_5 : GV (fun _ => False) V19 1 6009 MB (.ref x1_5) := gr12 hx1_5 chS lS (by omega) (by omega) (by omega) (by omega)
    have gx1_6 : GV (fun _ => False) V19 2 20000 MB (.ref x1_6) := gl_tup (k := 1) hx1_6 (.cons gx1_5 .nil) (Nat.le_of_ble_eq_true rfl)
    have gx1_7 : GV (fun _ => False) V19 2 20000 MB (.ref x1_7) := gl_tup (k := 1) hx1_7 (.cons (bc.gr1 ok) .nil) (Nat.le_of_ble_eq_true rfl)
    have gx1_8 : GV (fun _ => False) V19 1 20000 MB (.ref x1_8) := gl_tup (k := 0) hx1_8 .nil (Nat.le_of_ble_eq_true rfl)
    have uN : Us (fun _ => False) V19 x1_9 _ 2 20000 5 := ⟨hx1_9, (show 5 ≤ 5 by decide), (gvs_cons (gx1_2.mono (by decide) (by decide) (Int.le_refl _)) (gvs_cons (gx1_4.mono (by decide) (by decide) (Int.le_refl _)) (gvs_cons (gx1_6.mono (by decide) (by decide) (Int.le_refl _)) (gvs_cons (gx1_7.mono (by decide) (by decide) (Int.le_refl _)) (gvs_cons (gx1_8.mono (by decide) (by decide) (Int.le_refl _)) gvs_nil)))))⟩
    exact ⟨F, us, x1_9, _, rfl, S3.trans UV19, nF, (S3.trans UV18).free nx1_9, (uF0.same UV18).fresh nx1_9, uF, uN⟩
  rintro σ H4 ⟨F, us, E, es, rfl, S4, nF, nE, FE, uF, uE⟩
  have bc4 := bc.same S4
  refine ⟨fun σ H' => ∃ (F : Addr) (us : List V) (E : Addr) (es : List V), σ = [some (.ref a), some (.ref r), some (.int B.size), some (.ref s), some (.ref t), some (.str B.run.1), some (.int B.run.2.1), some (.int B.run.2.2), some (.ref F), none, some (.ref E), none, none, none, none, none, none, none] ∧ Same H H' ∧ H F = none ∧ H E = none ∧ F ≠ E ∧ Us (fun x => H x = none) H' F us 4 350000 13 ∧ Us (fun _ => False) H' E es 2 20000 8, ?_, ?_⟩
  · have bc := bc4
    have UV20 : Same H4 H4 := Same.refl _
    refine ⟨_, rfl, _, rfl, _, rfl, _, _, rfl, rfl, _, _, rfl, _, rfl, (show 3 ≤ sizeLine by decide), fun x2_1 nx2_1 => ?_⟩
    have SV21 := same_new nx2_1 (.tup [V.str (B.run.1), .int (if B.run.2.1 - 1 > 0 then B.run.2.1 - 1 else 0), .int (B.run.2.2)])
    have hx2_1 : upd H4 x2_1 (.tup [V.str (B.run.1), .int (if B.run.2.1 - 1 > 0 then B.run.2.1 - 1 else 0), .int (B.run.2.2)]) x2_1 = some (.tup [V.str (B.run.1), .int (if B.run.2.1 - 1 > 0 then B.run.2.1 - 1 else 0), .int (B.run.2.2)]) := upd_same
    generalize hhV21 : upd H4 x2_1 (.tup [V.str (B.run.1), .int (if B.run.2.1 - 1 > 0 then B.run.2.1 - 1 else 0), .int (B.run.2.2)]) = V21 at *
    clear hhV21
    have UV21 := UV20.trans SV21
    have bc := bc.same SV21
    have uF := uF.same SV21
    have uE := uE.same SV21
    refine ⟨(show 1 ≤ sizeLine by decide), fun x2_2 nx2_2 => ?_⟩
    have SV22 := same_new nx2_2 (.tup [V.ref x2_1])
    have hx2_2 : upd V21 x2_2 (.tup [V.ref x2_1]) x2_2 = some (.tup [V.ref x2_1]) := upd_same
    generalize hhV22 : upd V21 x2_2 (.tup [V.ref x2_1]) = V22 at *
    clear hhV22
    have UV22 := UV21.trans SV22
    have hx2_1 := SV22 _ _ hx2_1
    have bc := bc.same SV22
    have uF := uF.same SV22
    have uE := uE.same SV22
    refine ⟨_, rfl, _, _, rfl, rfl, lX0, _, rfl, _, rfl, (show 3 ≤ sizeLine by decide), fun x2_3 nx2_3 => ?_⟩
    have SV23 := same_new nx2_3 (.tup [V.str (B.run.1 ++ (("x" : String) : Str)), .int (B.run.2.1), .int (B.run.2.2)])
    have hx2_3 : upd V22 x2_3 (.tup [V.str (B.run.1 ++ (("x" : String) : Str)), .int (B.run.2.1), .int (B.run.2.2)]) x2_3 = some (.tup [V.str (B.run.1 ++ (("x" : String) : Str)), .int (B.run.2.1), .int (B.run.2.2)]) := upd_same
    generalize hhV23 : upd V22 x2_3 (.tup [V.str (B.run.1 ++ (("x" : String) : Str)), .int (B.run.2.1), .int (B.run.2.2)]) = V23 at *
    clear hhV23
    have UV23 := UV22.trans SV23
    have hx2_1 := SV23 _ _ hx2_1
    have hx2_2 := SV23 _ _ hx2_2
    have bc := bc.same SV23
    have uF := uF.same SV23
    have uE := uE.same SV23
    refine ⟨(show 1 ≤ sizeLine by decide), fun x2_4 nx2_4 => ?_⟩
    have SV24 := same_new nx2_4 (.tup [V.ref x2_3])
    have hx2_4 : upd V23 x2_4 (.tup [V.ref x2_3]) x2_4 = some (.tup [V.ref x2_3]) := upd_same
    generalize hhV24 : upd V23 x2_4 (.tup [V.ref x2_3]) = V24 at *
    clear hhV24
    have UV24 := UV23.trans SV24
    have hx2_1 := SV24 _ _ hx2_1
    have hx2_2 := SV24 _ _ hx2_2
    have hx2_3 := SV24 _ _ hx2_3
    have bc := bc.same SV24
    have uF := uF.same SV24
    have uE := uE.same SV24
    refine ⟨_, rfl, t, _, _, _, rfl, rfl, SqT.of bc.ht, rfl, _, rfl, _, rfl, (show 3 ≤ sizeLine by decide), fun x2_5 nx2_5 => ?_⟩
    have SV25 := same_new nx2_5 (.tup [V.str (B.st.1), .int (B.run.2.1), .int (B.run.2.2)])
    have hx2_5 : upd V24 x2_5 (.tup [V.str (B.st.1), .int (B.run.2.1), .int (B.run.2.2)]) x2_5 = some (.tup [V.str (B.st.1), .int (B.run.2.1), .int (B.run.2.2)]) := upd_same
    generalize hhV25 : upd V24 x2_5 (.tup [V.str (B.st.1), .int (B.run.2.1), .int (B.run.2.2)]) = V25 at *
    clear hhV25
    have UV25 := UV24.trans SV25
    have hx2_1 := SV25 _ _ hx2_1
    have hx2_2 := SV25 _ _ hx2_2
    have hx2_3 := SV25 _ _ hx2_3
    have hx2_4 := SV25 _ _ hx2_4
    have bc := bc.same SV25
    have uF := uF.same SV25
    have uE := uE.same SV25
    refine ⟨(show 1 ≤ sizeLine by decide), fun x2_6 nx2_6 => ?_⟩
    have SV26 := same_new nx2_6 (.tup [V.ref x2_5])
    have hx2_6 : upd V25 x2_6 (.tup [V.ref x2_5]) x2_6 = some (.tup [V.ref x2_5]) := upd_same
    generalize hhV26 : upd V25 x2_6 (.tup [V.ref x2_5]) = V26 at *
    clear hhV26
    have UV26 := UV25.trans SV26
    have hx2_1 := SV26 _ _ hx2_1
    have hx2_2 := SV26 _ _ hx2_2
    have hx2_3 := SV26 _ _ hx2_3
    have hx2_4 := SV26 _ _ hx2_4
    have hx2_5 := SV26 _ _ hx2_5
    have bc := bc.same SV26
    have uF := uF.same SV26
    have uE := uE.same SV26
    refine ⟨(show 3 ≤ sizeLine by decide), fun x2_7 nx2_7 => ?_⟩
    have SV27 := same_new nx2_7 (.lst [V.ref x2_2, .ref x2_4, .ref x2_6])
    have hx2_7 : upd V26 x2_7 (.lst [V.ref x2_2, .ref x2_4, .ref x2_6]) x2_7 = some (.lst [V.ref x2_2, .ref x2_4, .ref x2_6]) := upd_same
    generalize hhV27 : upd V26 x2_7 (.lst [V.ref x2_2, .ref x2_4, .ref x2_6]) = V27 at *
    clear hhV27
    have UV27 := UV26.trans SV27
    have hx2_1 := SV27 _ _ hx2_1
    have hx2_2 := SV27 _ _ hx2_2
    have hx2_3 := SV27 _ _ hx2_3
    have hx2_4 := SV27 _ _ hx2_4
    have hx2_5 := SV27 _ _ hx2_5
    have hx2_6 := SV27 _ _ hx2_6
    have bc := bc.same SV27
    have uF := uF.same SV27
    have uE := uE.same SV27
    have gx2_1 : GV (fun _ => False) V27 1 6009 MB (.ref x2_1) := gr12 hx2_1 chS lS (by omega) (by omega) (by omega) (by omega)
    have gx2_2 : GV (fun _ => False) V27 2 20000 MB (.ref x2_2) := gl_tup (k := 1) hx2_2 (.cons gx2_1 .nil) (Nat.le_of_ble_eq_true rfl)
    have gx2_3 : GV (fun _ => False) V27 1 6009 MB (.ref x2_3) := gr12 hx2_3 chX lX (by omega) (by omega) (by omega) (by omega)
    have gx2_4 : GV (fun _ => False) V27 2 20000 MB (.ref x2_4) := gl_tup (k := 1) hx2_4 (.cons gx2_3 .nil) (Nat.le_of_ble_eq_true rfl)
    have gx2_5 : GV (fun _ => False) V27 1 6009 MB (.ref x2_5) := gr12 hx2_5 chT lT (by omega) (by omega) (by omega) (by omega)
    have gx2_6 : GV (fun _ => False) V27 2 20000 MB (.ref x2_6) := gl_tup (k := 1) hx2_6 (.cons gx2_5 .nil) (Nat.le_of_ble_eq_true rfl)
    have uN : Us (fun _ => False) V27 x2_7 _ 2 20000 3 := ⟨hx2_7, (show 3 ≤ 3 by decide), (gvs_cons (gx2_2.mono (by decide) (by decide) (Int.le_refl _)) (gvs_cons (gx2_4.mono (by decide) (by decide) (Int.le_refl _)) (gvs_cons (gx2_6.mono (by decide) (by decide) (Int.le_refl _)) gvs_nil)))⟩
    refine ⟨E, x2_7, _, _, rfl, rfl, uE.at_, uN.at_, Nat.le_trans (Nat.add_le_add uE.len uN.len) (by decide), fun E2 nE2 => ?_⟩
    have S9 := S4.trans UV27
    exact ⟨F, us, E2, _, rfl, S9.trans (same_new nE2 _), nF, S9.free nE2, uF.fresh nE2, uF.same (same_new nE2 _), us_cat uE uN nE2⟩
  rintro σ H5 ⟨F, us, E, es, rfl, S5, nF, nE, FE, uF, uE⟩
  have bc5 := bc.same S5
  refine ⟨fun σ H' => ∃ (F : Addr) (us : List V) (E : Addr) (es : List V), σ = [some (.ref a), some (.ref r), some (.int B.size), some (.ref s), some (.ref t), some (.str B.run.1), some (.int B.run.2.1), some (.int B.run.2.2), some (.ref F), none, some (.ref E), none, none, none, none, none, none, none] ∧ Same H H' ∧ H F = none ∧ H E = none ∧ F ≠ E ∧ Us (fun z => (fun x => H x = none) z ∧ z ≠ E) H' F us 4 350000 13 ∧ Us (fun _ => False) H' E es 2 20000 10, ?_, ?_⟩
  · have bc := bc5
    have UV30 : Same H5 H5 := Same.refl _
    refine ⟨_, rfl, _, rfl, _, rfl, _, rfl, _, _, rfl, rfl, (show 3 ≤ sizeLine by decide), fun x3_1 nx3_1 => ?_⟩
    have SV31 := same_new nx3_1 (.tup [V.str (B.run.1), .int (B.run.2.1), .int (B.run.2.1 + 1)])
    have hx3_1 : upd H5 x3_1 (.tup [V.str (B.run.1), .int (B.run.2.1), .int (B.run.2.1 + 1)]) x3_1 = some (.tup [V.str (B.run.1), .int (B.run.2.1), .int (B.run.2.1 + 1)]) := upd_same
    generalize hhV31 : upd H5 x3_1 (.tup [V.str (B.run.1), .int (B.run.2.1), .int (B.run.2.1 + 1)]) = V31 at *
    clear hhV31
    have UV31 := UV30.trans SV31
    have bc := bc.same SV31
    have uF := uF.same SV31
    have uE := uE.same SV31
    refine ⟨_, rfl, _, rfl, _, _, rfl, rfl, _, rfl, _, _, rfl, rfl, (show 3 ≤ sizeLine by decide), fun x3_2 nx3_2 => ?_⟩
    have SV32 := same_new nx3_2 (.tup [V.str (B.run.1), .int (B.run.2.1 + 1), .int (B.run.2.1 + 2)])
    have hx3_2 : upd V31 x3_2 (.tup [V.str (B.run.1), .int (B.run.2.1 + 1), .int (B.run.2.1 + 2)]) x3_2 = some (.tup [V.str (B.run.1), .int (B.run.2.1 + 1), .int (B.run.2.1 + 2)]) := upd_same
    generalize hhV32 : upd V31 x3_2 (.tup [V.str (B.run.1), .int (B.run.2.1 + 1), .int (B.run.2.1 + 2)]) = V32 at *
    clear hhV32
    have UV32 := UV31.trans SV32
    have hx3_1 := SV32 _ _ hx3_1
    have bc := bc.same SV32
    have uF := uF.same SV32
    have uE := uE.same SV32
    refine ⟨(show 2 ≤ sizeLine by decide), fun x3_3 nx3_3 => ?_⟩
    have SV33 := same_new nx3_3 (.tup [V.ref x3_1, .ref x3_2])
    have hx3_3 : upd V32 x3_3 (.tup [V.ref x3_1, .ref x3_2]) x3_3 = some (.tup [V.ref x3_1, .ref x3_2]) := upd_same
    generalize hhV33 : upd V32 x3_3 (.tup [V.ref x3_1, .ref x3_2]) = V33 at *
    clear hhV33
    have UV33 := UV32.trans SV33
    have hx3_1 := SV33 _ _ hx3_1
    have hx3_2 := SV33 _ _ hx3_2
    have bc := bc.same SV33
    have uF := uF.same SV33
    have uE := uE.same SV33
    refine ⟨_, rfl, _, rfl, (show 2 ≤ sizeLine by decide), fun x3_4 nx3_4 => ?_⟩
    have SV34 := same_new nx3_4 (.tup [V.ref r, .ref r])
    have hx3_4 : upd V33 x3_4 (.tup [V.ref r, .ref r]) x3_4 = some (.tup [V.ref r, .ref r]) := upd_same
    generalize hhV34 : upd V33 x3_4 (.tup [V.ref r, .ref r]) = V34 at *
    clear hhV34
    have UV34 := UV33.trans SV34
    have hx3_1 := SV34 _ _ hx3_1
    have hx3_2 := SV34 _ _ hx3_2
    have hx3_3 := SV34 _ _ hx3_3
    have bc := bc.same SV34
    have uF := uF.same SV34
    have uE := uE.same SV34
    refine ⟨(show 2 ≤ sizeLine by decide), fun x3_5 nx3_5 => ?_⟩
    have SV35 := same_new nx3_5 (.lst [V.ref x3_3, .ref x3_4])
    have hx3_5 : upd V34 x3_5 (.lst [V.ref x3_3, .ref x3_4]) x3_5 = some (.lst [V.ref x3_3, .ref x3_4]) := upd_same
    generalize hhV35 : upd V34 x3_5 (.lst [V.ref x3_3, .ref x3_4]) = V35 at *
    clear hhV35
    have UV35 := UV34.trans SV35
    have hx3_1 := SV35 _ _ hx3_1
    have hx3_2 := SV35 _ _ hx3_2
    have hx3_3 := SV35 _ _ hx3_3
    have hx3_4 := SV35 _ _ hx3_4
    have bc := bc.same SV35
    have uF := uF.same SV35
    have uE := uE.same SV35
    have gx3_1 : GV (fun _ => False) V35 1 6009 MB (.ref x3_1) := gr12 hx3_1 chS lS (by omega) (by omega) (by omega) (by omega)
    have gx3_2 : GV (fun _ => False) V35 1 6009 MB (.ref x3_2) := gr12 hx3_2 chS lS (by omega) (by omega) (by omega) (by omega)
    have gx3_3 : GV (fun _ => False) V35 2 20000 MB (.ref x3_3) := gl_tup (k := 1) hx3_3 (.cons gx3_1 (.cons gx3_2 .nil)) (Nat.le_of_ble_eq_true rfl)
    have gx3_4 : GV (fun _ => False) V35 2 20000 MB (.ref x3_4) := gl_tup (k := 1) hx3_4 (.cons (bc.gr1 ok) (.cons (bc.gr1 ok) .nil)) (Nat.le_of_ble_eq_true rfl)
    have uN : Us (fun _ => False) V35 x3_5 _ 2 20000 2 := ⟨hx3_5, (show 2 ≤ 2 by decide), (gvs_cons (gx3_3.mono (by decide) (by decide) (Int.le_refl _)) (gvs_cons (gx3_4.mono (by decide) (by decide) (Int.le_refl _)) gvs_nil))⟩
    refine ⟨E, x3_5, _, _, rfl, rfl, uE.at_, uN.at_, Nat.le_trans (Nat.add_le_add uE.len uN.len) (by decide), fun E2 nE2 => ?_⟩
    have S9 := S5.trans UV35
    exact ⟨F, us, E2, _, rfl, S9.trans (same_new nE2 _), nF, S9.free nE2, uF.fresh nE2, (uF.off nE2).same (same_new nE2 _), us_cat uE uN nE2⟩
  rintro σ H6 ⟨F, us, E, es, rfl, S6, nF, nE, FE, uF, uE⟩
  have bc6 := bc.same S6
  refine ⟨fun σ H' => ∃ (F : Addr) (us : List V) (E : Addr) (es : List V), σ = [some (.ref a), some (.ref r), some (.int B.size), some (.ref s), some (.ref t), some (.str B.run.1), some (.int B.run.2.1), some (.int B.run.2.2), some (.ref F), none, some (.ref E), none, none, none, none, none, none, none] ∧ Same H H' ∧ H F = none ∧ H E = none ∧ F ≠ E ∧ Us (fun x => H x = none) H' F us 4 350000 13 ∧ Us (fun _ => False) H' E es 2 20000 11, ?_, ?_⟩
  · refine ⟨_, rfl, .inl ⟨rfl, _, SqL.of uE.at_⟩, _, rfl, _, rfl, _, rfl, _, _, rfl, rfl, (show 3 ≤ sizeLine by decide), fun w1 nw1 => ⟨(show 1 ≤ sizeLine by decide), fun w2 nw2 => ?_⟩⟩
    have N7 := (same_new nw1 (.tup [V.str B.run.1, .int B.run.2.1, .int (B.run.2.2 + 1)])).trans (same_new nw2 (.tup [V.ref w1]))
    have hw1 := (same_new nw2 (.tup [V.ref w1])) _ _ (upd_same (H := H6) (a := w1) (o := .tup [V.str B.run.1, .int B.run.2.1, .int (B.run.2.2 + 1)]))
    have gw1 : GV (fun _ => False) _ 1 6009 MB (.ref w1) := gr12 hw1 chS lS (by omega) (by omega) (by omega) (by omega)
    have gw2 : GV (fun _ => False) _ 2 20000 MB (.ref w2) := gl_tup (k := 1) upd_same (.cons gw1 .nil) (Nat.le_of_ble_eq_true rfl)
    have uE7 := uE.same N7
    have uF7 := uF.same N7
    refine ⟨E, _, _, rfl, rfl, uE7.at_, small (by have := uE7.len; omega), F, us, E, _, rfl, same_mut (S6.trans N7) nE, nF, nE, FE, ?_, uE7.put (fun _ z => z.elim) gw2⟩
    exact (uF7.mut (fun a z => z.2) FE uE7.at_).imp fun a z => z.1
  rintro σ H7 ⟨F, us, E, es, rfl, S7, nF, nE, FE, uF, uE⟩
  have bc7 := bc.same S7
  refine ⟨fun σ H' => ∃ (F : Addr) (us : List V) (E : Addr) (es : List V) (L : Addr), σ = [some (.ref a), some (.ref r), some (.int B.size), some (.ref s), some (.ref t), some (.str B.run.1), some (.int B.run.2.1), some (.int B.run.2.2), some (.ref F), none, some (.ref E), some (.ref L), none, none, none, none, none, none] ∧ Same H H' ∧ H F = none ∧ Us (fun x => H x = none) H' F us 4 350000 13 ∧ Us (fun _ => False) H' E es 2 20000 11 ∧ H' L = some (.tup [V.str B.st.1, .int 0, .int (10 ^ Int.toNat 9)]), ?_, ?_⟩
  · refine ⟨_, rfl, t, _, _, _, rfl, rfl, SqT.of bc7.ht, rfl, _, _, rfl, rfl, ⟨by decide, by decide, by decide⟩, (show 3 ≤ sizeLine by decide), fun L nL => ?_⟩
    have N8 := same_new nL (.tup [V.str B.st.1, .int 0, .int (10 ^ Int.toNat 9)])
    exact ⟨F, us, E, es, L, rfl, S7.trans N8, nF, uF.same N8, uE.same N8, upd_same⟩
  rintro σ H8 ⟨F, us, E, es, L, rfl, S8, nF, uF, uE, hL⟩
  have bc8 := bc.same S8
  have p9 : (10 : Int) ^ Int.toNat 9 = 1000000000 := rfl
  refine ⟨fun σ H' => ∃ (F : Addr) (us : List V) (E L : Addr), σ = [some (.ref a), some (.ref r), some (.int B.size), some (.ref s), some (.ref t), some (.str B.run.1), some (.int B.run.2.1), some (.int B.run.2.2), some (.ref F), none, some (.ref E), some (.ref L), none, none, none, none, none, none] ∧ Same H H' ∧ H F = none ∧ H' F ≠ none ∧ Us (fun z => (fun x => H x = none) z ∧ z ≠ F) H' F us 4 350000 24, ?_, ?_⟩
  · refine ⟨_, rfl, _, rfl, E, rfl, ⟨_, SqL.of uE.at_⟩, fun D hD => ?_⟩
    refine lc_list (K := K) (a := E) (xs := es) (fun i H' => ∃ ws : List V, Same H8 H' ∧ Us (fun _ => False) H' D ws 4 350000 i) ⟨[], same_new hD _, ⟨upd_same, Nat.le_refl _, fun _ h => nomatch h⟩⟩ (fun i H' _ h => by obtain ⟨_, k, _⟩ := h; exact SqL.of (k _ _ uE.at_)) ?_ ?_
    · rintro i x H3 hx ⟨ws, S3, uD⟩
      have hi : i < es.length := (List.getElem?_eq_some_iff.mp hx).1
      have hel := uE.len
      refine ⟨rfl, _, rfl, _, rfl, _, rfl, _, rfl, (show 4 ≤ sizeLine by decide), fun w nw => ?_⟩
      have N4 := same_new nw (.tup [V.ref r, .int B.size, x, .ref L])
      have bc4 := (bc8.same S3).same N4
      have uD4 := uD.same N4
      have gx := ((uE.all x (List.mem_of_getElem? hx)).same S3).same N4
      have gL : GV (fun _ => False) _ 1 6009 MB (.ref L) := gr12 ((S3.trans N4) _ _ hL) chT lT (by omega) (by omega) (by omega) (by omega)
      have gw : GV (fun _ => False) _ 4 350000 MB (.ref w) := gl_tup (k := 3) (upd_same (H := H3) (a := w) (o := .tup [V.ref r, .int B.size, x, .ref L])) (.cons (bc4.gr ok) (.cons (gsz ok) (.cons (gx.mono (by decide) (Nat.le_refl _) (Int.le_refl _)) (.cons (gL.mono (by decide) (Nat.le_refl _) (Int.le_refl _)) .nil)))) (Nat.le_of_ble_eq_true rfl)
      exact ⟨_, uD4.at_, small (by have := uD4.len; omega), ws ++ [.ref w], same_mut (S3.trans N4) hD, uD4.put (fun _ z => z.elim) gw⟩
    rintro H3 ⟨ws, S3, uD⟩
    have uF3 := uF.same S3
    have uD : Us (fun _ => False) H3 D ws 4 350000 11 := ⟨uD.at_, Nat.le_trans uD.len uE.len, uD.all⟩
    refine ⟨F, D, _, _, rfl, rfl, uF3.at_, uD.at_, Nat.le_trans (Nat.add_le_add uF3.len uD.len) (by decide), fun F2 nF2 => ?_⟩
    have S03 := S8.trans S3
    refine ⟨F2, us ++ ws, E, L, rfl, S03.trans (same_new nF2 _), S03.free nF2, fun z => (by rw [upd_same] at z; cases z), ?_⟩
    exact us_cat (uF3.off nF2) (uD.imp fun _ z => z.elim) nF2
  rintro σ H9 ⟨F, us, E, L, rfl, S9, nF, xF, uF⟩
  have bc9 := bc.same S9
  have cn0 : 0 ≤ cntL B.sp := cntL_nn ok.ca.2
  have cn1 : cntL B.sp ≤ 1000000000 := by
    have := ok.most
    unfold cnt at this
    omega
  refine ⟨fun σ H' => σ = [some (.ref a), some (.ref r), some (.int B.size), some (.ref s), some (.ref t), some (.str B.run.1), some (.int B.run.2.1), some (.int B.run.2.2), some (.ref F), none, some (.ref E), some (.ref L), none, some (.int (cntL B.sp)), none, none, none, none] ∧ Same H9 H', ?_, ?_⟩
  · refine ⟨_, rfl, s, B.sp, rfl, TpAt.of bc9.hs bc9.gs, by have := ok.len; omega, fun H3 S3 => ?_⟩
    exact ⟨rfl, S3⟩
  rintro σ H10 ⟨rfl, S10⟩
  have bc10 := bc9.same S10
  have uF10 := uF.same S10
  have S010 := S9.trans S10
  refine ⟨_, rfl, _, _, rfl, rfl, _, rfl, _, rfl, _, _, rfl, rfl, (show 3 ≤ sizeLine by decide), fun T0 nT0 => ?_⟩
  have N11 := same_new nT0 (.tup [V.int (cntL B.sp - 1), .int (cntL B.sp), .int (cntL B.sp + 1)])
  have hT0 : upd H10 T0 (.tup [V.int (cntL B.sp - 1), .int (cntL B.sp), .int (cntL B.sp + 1)]) T0 = some (.tup [V.int (cntL B.sp - 1), .int (cntL B.sp), .int (cntL B.sp + 1)]) := upd_same
  refine ⟨T0, rfl, ⟨_, SqT.of hT0⟩, ?_⟩
  refine for_tup (K := K) (a := T0) (xs := [V.int (cntL B.sp - 1), .int (cntL B.sp), .int (cntL B.sp + 1)]) (fun i σ H' => ∃ (us : List V) (v14 : Option V), σ = [some (.ref a), some (.ref r), some (.int B.size), some (.ref s), some (.ref t), some (.str B.run.1), some (.int B.run.2.1), some (.int B.run.2.2), some (.ref F), none, some (.ref E), some (.ref L), none, some (.int (cntL B.sp)), v14, none, none, none] ∧ Same H H' ∧ Us (fun z => (fun x => H x = none) z ∧ z ≠ F) H' F us 4 350000 (24 + i) ∧ H' T0 = some (.tup [V.int (cntL B.sp - 1), .int (cntL B.sp), .int (cntL B.sp + 1)])) ⟨us, none, rfl, S010.trans N11, uF10.same N11, hT0⟩ (fun i σ H' _ h => by obtain ⟨_, _, _, _, _, k⟩ := h; exact SqT.of k) ?_ ?_
  · rintro i x σ H3 hx ⟨us, v14, rfl, S3, uF3, hT3⟩
    have hi : i < 3 := (List.getElem?_eq_some_iff.mp hx).1
    obtain ⟨m, rfl, m0, m1⟩ : ∃ m : Int, x = .int m ∧ -1 ≤ m ∧ m ≤ 1000000001 := by
      have z := List.mem_of_getElem? hx
      simp only [List.mem_cons, List.not_mem_nil, or_false] at z
      rcases z with rfl | rfl | rfl
      · exact ⟨_, rfl, by omega, by omega⟩
      · exact ⟨_, rfl, by omega, by omega⟩
      · exact ⟨_, rfl, by omega, by omega⟩
    have bc3 := bc.same S3
    refine ⟨_, rfl, .inl ⟨rfl, _, SqL.of uF3.at_⟩, _, rfl, _, rfl, _, rfl, _, rfl, t, _, _, _, rfl, rfl, SqT.of bc3.ht, rfl, _, rfl, _, _, rfl, rfl, (show 3 ≤ sizeLine by decide), fun w nw => ⟨(show 4 ≤ sizeLine by decide), fun y ny => ?_⟩⟩
    have N4 := (same_new nw (.tup [V.str B.st.1, .int 3, .int (3 + m)])).trans (same_new ny (.tup [V.ref r, .int B.size, .ref s, .ref w]))
    have hw := (same_new ny (.tup [V.ref r, .int B.size, .ref s, .ref w])) _ _ (upd_same (H := H3) (a := w) (o := .tup [V.str B.st.1, .int 3, .int (3 + m)]))
    have bc4 := bc3.same N4
    have uF4 := uF3.same N4
    have gx : GV (fun z => (fun x => H x = none) z ∧ z ≠ F) _ 1 6009 MB (.ref w) := gr12 hw chT lT (by omega) (by omega) (by omega) (by omega)
    have gw : GV (fun z => (fun x => H x = none) z ∧ z ≠ F) _ 4 350000 MB (.ref y) := gl_tup (k := 3) upd_same (.cons (bc4.gr ok) (.cons (gsz ok) (.cons ((bc4.gsp ok).mono (by decide) (Nat.le_refl _) (Int.le_refl _)) (.cons (gx.mono (by decide) (Nat.le_refl _) (Int.le_refl _)) .nil)))) (Nat.le_of_ble_eq_true rfl)
    have hT4 := N4 _ _ hT3
    refine ⟨F, _, _, rfl, rfl, uF4.at_, small (by have := uF4.len; omega), us ++ [.ref y], _, rfl, same_mut (S3.trans N4) nF, uF4.put (fun _ z => z.2) gw, ?_⟩
    exact (upd_ne (ne_of hT4 uF4.at_ fun z => nomatch z)).trans hT4
  rintro σ H11 ⟨us, v14, rfl, S11, uF0, hT11⟩
  have uF : Us (fun x => H x = none) H11 F us 4 350000 27 := ⟨uF0.at_, uF0.len, fun v hv => (uF0.all v hv).imp fun a z => z.1⟩
  have bc11 := bc.same S11
  clear uF0 hT11 hT0 uF10 bc10 S10 S9 S8
  -- two more
  refine ⟨fun σ H' => ∃ (F : Addr) (us : List V), σ = [some (.ref a), some (.ref r), some (.int B.size), some (.ref s), some (.ref t), some (.str B.run.1), some (.int B.run.2.1), some (.int B.run.2.2), some (.ref F), none, some (.ref E), some (.ref L), none, some (.int (cntL B.sp)), v14, none, none, none] ∧ Same H H' ∧ Us (fun x => H x = none) H' F us 4 350000 29, ?_, ?_⟩
  · have bc := bc11
    have UV40 : Same H11 H11 := Same.refl _
    refine ⟨_, rfl, _, rfl, _, rfl, _, rfl, _, rfl, _, _, rfl, rfl, ⟨by decide, by decide, by decide⟩, (show 3 ≤ sizeLine by decide), fun x4_1 nx4_1 => ?_⟩
    have SV41 := same_new nx4_1 (.tup [V.str B.run.1, .int 0, .int (10 ^ Int.toNat 9)])
    have hx4_1 : upd H11 x4_1 (.tup [V.str B.run.1, .int 0, .int (10 ^ Int.toNat 9)]) x4_1 = some (.tup [V.str B.run.1, .int 0, .int (10 ^ Int.toNat 9)]) := upd_same
    generalize hhV41 : upd H11 x4_1 (.tup [V.str B.run.1, .int 0, .int (10 ^ Int.toNat 9)]) = V41 at *
    clear hhV41
    have UV41 := UV40.trans SV41
    have bc := bc.same SV41
    have uF := uF.same SV41
    refine ⟨(show 4 ≤ sizeLine by decide), fun x4_2 nx4_2 => ?_⟩
    have SV42 := same_new nx4_2 (.tup [V.ref r, .int B.size, .ref s, .ref x4_1])
    have hx4_2 : upd V41 x4_2 (.tup [V.ref r, .int B.size, .ref s, .ref x4_1]) x4_2 = some (.tup [V.ref r, .int B.size, .ref s, .ref x4_1]) := upd_same
    generalize hhV42 : upd V41 x4_2 (.tup [V.ref r, .int B.size, .ref s, .ref x4_1]) = V42 at *
    clear hhV42
    have UV42 := UV41.trans SV42
    have hx4_1 := SV42 _ _ hx4_1
    have bc := bc.same SV42
    have uF := uF.same SV42
    refine ⟨_, rfl, _, rfl, (show 0 ≤ sizeLine by decide), fun x4_e nx4_e => ?_⟩
    have SV43 := same_new nx4_e (.tup [])
    have hx4_e : upd V42 x4_e (.tup []) x4_e = some (.tup []) := upd_same
    generalize hhV43 : upd V42 x4_e (.tup []) = V43 at *
    clear hhV43
    have UV43 := UV42.trans SV43
    have hx4_1 := SV43 _ _ hx4_1
    have hx4_2 := SV43 _ _ hx4_2
    have bc := bc.same SV43
    have uF := uF.same SV43
    refine ⟨_, rfl, t, _, _, _, rfl, rfl, SqT.of bc.ht, rfl, (show 3 ≤ sizeLine by decide), fun x4_3 nx4_3 => ?_⟩
    have SV44 := same_new nx4_3 (.tup [V.str B.st.1, .int 7, .int 8])
    have hx4_3 : upd V43 x4_3 (.tup [V.str B.st.1, .int 7, .int 8]) x4_3 = some (.tup [V.str B.st.1, .int 7, .int 8]) := upd_same
    generalize hhV44 : upd V43 x4_3 (.tup [V.str B.st.1, .int 7, .int 8]) = V44 at *
    clear hhV44
    have UV44 := UV43.trans SV44
    have hx4_1 := SV44 _ _ hx4_1
    have hx4_2 := SV44 _ _ hx4_2
    have hx4_e := SV44 _ _ hx4_e
    have bc := bc.same SV44
    have uF := uF.same SV44
    refine ⟨(show 4 ≤ sizeLine by decide), fun x4_4 nx4_4 => ?_⟩
    have SV46 := same_new nx4_4 (.tup [V.ref r, .int B.size, .ref x4_e, .ref x4_3])
    have hx4_4 : upd V44 x4_4 (.tup [V.ref r, .int B.size, .ref x4_e, .ref x4_3]) x4_4 = some (.tup [V.ref r, .int B.size, .ref x4_e, .ref x4_3]) := upd_same
    generalize hhV46 : upd V44 x4_4 (.tup [V.ref r, .int B.size, .ref x4_e, .ref x4_3]) = V46 at *
    clear hhV46
    have UV46 := UV44.trans SV46
    have hx4_1 := SV46 _ _ hx4_1
    have hx4_2 := SV46 _ _ hx4_2
    have hx4_e := SV46 _ _ hx4_e
    have hx4_3 := SV46 _ _ hx4_3
    have bc := bc.same SV46
    have uF := uF.same SV46
    refine ⟨(show 2 ≤ sizeLine by decide), fun x4_5 nx4_5 => ?_⟩
    have SV46 := same_new nx4_5 (.lst [V.ref x4_2, .ref x4_4])
    have hx4_5 : upd V46 x4_5 (.lst [V.ref x4_2, .ref x4_4]) x4_5 = some (.lst [V.ref x4_2, .ref x4_4]) := upd_same
    generalize hhV46 : upd V46 x4_5 (.lst [V.ref x4_2, .ref x4_4]) = V46 at *
    clear hhV46
    have UV46 := UV46.trans SV46
    have hx4_1 := SV46 _ _ hx4_1
    have hx4_2 := SV46 _ _ hx4_2
    have hx4_e := SV46 _ _ hx4_e
    have hx4_3 := SV46 _ _ hx4_3
    have hx4_4 := SV46 _ _ hx4_4
    have bc := bc.same SV46
    have uF := uF.same SV46
    have g1 : GV (fun x => H x = none) V46 1 6009 MB (.ref x4_1) := gr12 hx4_1 chS lS (by omega) (by omega) (by omega) (by omega)
    have g3 : GV (fun x => H x = none) V46 1 6009 MB (.ref x4_3) := gr12 hx4_3 chT lT (by omega) (by omega) (by omega) (by omega)
    have ge : GV (fun x => H x = none) V46 1 2000 MB (.ref x4_e) := gl_tup (k := 0) hx4_e .nil (Nat.le_of_ble_eq_true rfl)
    have gA : GV (fun x => H x = none) V46 4 350000 MB (.ref x4_2) := gl_tup (k := 3) hx4_2 (.cons (bc.gr ok) (.cons (gsz ok) (.cons ((bc.gsp ok).mono (by decide) (Nat.le_refl _) (Int.le_refl _)) (.cons (g1.mono (by decide) (Nat.le_refl _) (Int.le_refl _)) .nil)))) (Nat.le_of_ble_eq_true rfl)
    have gB : GV (fun x => H x = none) V46 4 350000 MB (.ref x4_4) := gl_tup (k := 3) hx4_4 (.cons (bc.gr ok) (.cons (gsz ok) (.cons (ge.mono (by decide) (Nat.le_refl _) (Int.le_refl _)) (.cons (g3.mono (by decide) (Nat.le_refl _) (Int.le_refl _)) .nil)))) (Nat.le_of_ble_eq_true rfl)
    refine ⟨F, x4_5, _, _, rfl, rfl, uF.at_, hx4_5, Nat.le_trans (Nat.add_le_add uF.len (show _ ≤ 2 from Nat.le_refl _)) (by decide), fun F2 nF2 => ?_⟩
    have uN : Us (fun x => H x = none) V46 x4_5 _ 4 350000 2 := ⟨hx4_5, (show 2 ≤ 2 by decide), (gvs_cons gA (gvs_cons gB gvs_nil))⟩
    exact ⟨F2, _, rfl, (S11.trans UV46).trans (same_new nF2 _), us_cat uF uN nF2⟩
  rintro σ H12 ⟨F, us, rfl, S12, uF⟩
  have bc12 := bc.same S12
  refine ⟨fun σ H' => ∃ (A : Addr), σ = [some (.ref a), some (.ref r), some (.int B.size), some (.ref s), some (.ref t), some (.str B.run.1), some (.int B.run.2.1), some (.int B.run.2.2), some (.ref F), none, some (.ref E), some (.ref L), none, some (.int (cntL B.sp)), v14, some (.ref A), none, none] ∧ Same H12 H' ∧ GV (fun _ => False) H' 2 330000 MB (.ref A), ?_, ?_⟩
  · refine ⟨33, rfl, by decide, by decide, fun D hD => ?_⟩
    refine lc_range (lo := 0) (n := (33 : Int).toNat) (fun i H' => ∃ ws : List V, Same H12 H' ∧ Us (fun _ => False) H' D ws 1 6009 i) ⟨[], same_new hD _, ⟨upd_same, Nat.le_refl _, fun _ h => nomatch h⟩⟩ ?_ ?_
    · rintro i H3 hi ⟨ws, S3, uD⟩
      have hi : i < 33 := hi
      refine ⟨rfl, _, rfl, _, rfl, _, _, rfl, rfl, .inl ⟨by decide, by decide⟩, _, rfl, _, _, rfl, rfl, .inl ⟨by decide, by decide⟩, _, _, rfl, rfl, (show 3 ≤ sizeLine by decide), fun w nw => ?_⟩
      have N4 := same_new nw (.tup [V.str B.run.1, .int (3 * (0 + (i : Int))), .int (3 * (0 + (i : Int)) + 1)])
      have uD4 := uD.same N4
      have gw : GV (fun _ => False) _ 1 6009 MB (.ref w) := gr12 (upd_same (H := H3) (a := w) (o := .tup [V.str B.run.1, .int (3 * (0 + (i : Int))), .int (3 * (0 + (i : Int)) + 1)])) chS lS (by omega) (by omega) (by omega) (by omega)
      exact ⟨_, uD4.at_, small (by have := uD4.len; omega), ws ++ [.ref w], same_mut (S3.trans N4) hD, uD4.put (fun _ z => z.elim) gw⟩
    rintro H3 ⟨ws, S3, uD⟩
    refine ⟨D, _, rfl, .inl ⟨SqL.of uD.at_, fun A nA => ?_⟩⟩
    have N4 := same_new nA (.tup ws)
    have wl : ws.length ≤ 33 := uD.len
    refine ⟨A, rfl, S3.trans N4, gvt (k := 1) (c := 6009) upd_same (fun v hv => (uD.all v hv).same N4) ?_⟩
    have : (6009 + 2) * ws.length ≤ (6009 + 2) * 33 := Nat.mul_le_mul_left _ wl
    omega
  rintro σ H13 ⟨A, rfl, S13, gA⟩
  have bc13 := bc12.same S13
  have uF13 := uF.same S13
  have S013 := S12.trans S13
  refine ⟨fun σ H' => ∃ (F : Addr) (us : List V), σ = [some (.ref a), some (.ref r), some (.int B.size), some (.ref s), some (.ref t), some (.str B.run.1), some (.int B.run.2.1), some (.int B.run.2.2), some (.ref F), none, some (.ref E), some (.ref L), none, some (.int (cntL B.sp)), v14, some (.ref A), none, none] ∧ Same H H' ∧ Us (fun x => H x = none) H' F us 4 350000 31, ?_, ?_⟩
  · refine ⟨_, rfl, 1, rfl, (show 2 ≤ sizeLine by decide), fun T0 nT0 => ?_⟩
    have N2 := same_new nT0 (.tup [V.int (-1), .int 0])
    have hT0 : upd H13 T0 (.tup [V.int (-1), .int 0]) T0 = some (.tup [V.int (-1), .int 0]) := upd_same
    have S2 := S013.trans N2
    have bc2 := bc13.same N2
    have uF2 := uF13.same N2
    have gA2 := gA.same N2
    generalize upd H13 T0 (.tup [V.int (-1), .int 0]) = H2 at *
    refine ⟨T0, rfl, ⟨_, SqT.of hT0⟩, fun D hD => ?_⟩
    refine lc_tup (K := K) (a := T0) (xs := [V.int (-1), .int 0]) (fun i H' => ∃ ws : List V, Same H2 H' ∧ Us (fun _ => False) H' D ws 4 350000 i) ⟨[], same_new hD _, ⟨upd_same, Nat.le_refl _, fun _ h => nomatch h⟩⟩ (fun i H' _ h => by obtain ⟨_, k, _⟩ := h; exact SqT.of (k _ _ hT0)) ?_ ?_
    · rintro i x H3 hx ⟨ws, S3, uD⟩
      have hi : i < 2 := (List.getElem?_eq_some_iff.mp hx).1
      obtain ⟨m, rfl, m0, m1⟩ : ∃ m : Int, x = .int m ∧ -1 ≤ m ∧ m ≤ 0 := by
        have z := List.mem_of_getElem? hx
        simp only [List.mem_cons, List.not_mem_nil, or_false] at z
        rcases z with rfl | rfl
        · exact ⟨_, rfl, by omega, by omega⟩
        · exact ⟨_, rfl, by omega, by omega⟩
      have bc3 := bc2.same S3
      refine ⟨rfl, _, rfl, (show 3 ≤ sizeLine by decide), fun w1 nw1 => ?_⟩
      have N5 := same_new nw1 (.tup [V.str B.run.1, .int 0, .int 100])
      refine ⟨_, rfl, _, rfl, _, rfl, t, _, _, _, rfl, rfl, SqT.of (bc3.same N5).ht, rfl, _, rfl, _, _, rfl, rfl, (show 3 ≤ sizeLine by decide), fun w2 nw2 => ⟨(show 4 ≤ sizeLine by decide), fun w nw => ?_⟩⟩
      have N6 := same_new nw2 (.tup [V.str B.st.1, .int 0, .int (33 + m)])
      have N7 := same_new nw (.tup [V.ref w1, .int B.size, .ref A, .ref w2])
      have N57 := N5.trans (N6.trans N7)
      have hw1 := (N6.trans N7) _ _ (upd_same (H := H3) (a := w1) (o := .tup [V.str B.run.1, .int 0, .int 100]))
      have hw2 := N7 _ _ (upd_same (H := upd H3 w1 (.tup [V.str B.run.1, .int 0, .int 100])) (a := w2) (o := .tup [V.str B.st.1, .int 0, .int (33 + m)]))
      have g1 : GV (fun _ => False) _ 1 6009 MB (.ref w1) := gr12 hw1 chS lS (by omega) (by omega) (by omega) (by omega)
      have g2 : GV (fun _ => False) _ 1 6009 MB (.ref w2) := gr12 hw2 chT lT (by omega) (by omega) (by omega) (by omega)
      have gA3 := (gA2.same S3).same N57
      have uD4 := uD.same N57
      have gw : GV (fun _ => False) _ 4 350000 MB (.ref w) := gl_tup (k := 3) upd_same (.cons (g1.mono (by decide) (Nat.le_refl _) (Int.le_refl _)) (.cons (gsz ok) (.cons (gA3.mono (by decide) (Nat.le_refl _) (Int.le_refl _)) (.cons (g2.mono (by decide) (Nat.le_refl _) (Int.le_refl _)) .nil)))) (Nat.le_of_ble_eq_true rfl)
      exact ⟨_, uD4.at_, small (by have := uD4.len; omega), ws ++ [.ref w], same_mut (S3.trans N57) hD, uD4.put (fun _ z => z.elim) gw⟩
    rintro H3 ⟨ws, S3, uD⟩
    have uF3 := uF2.same S3
    refine ⟨F, D, _, _, rfl, rfl, uF3.at_, uD.at_, Nat.le_trans (Nat.add_le_add uF3.len uD.len) (by decide), fun F2 nF2 => ?_⟩
    have S03 := S2.trans S3
    exact ⟨F2, us ++ ws, rfl, S03.trans (same_new nF2 _), us_cat uF3 (uD.imp fun _ z => z.elim) nF2⟩
  rintro σ H14 ⟨F, us, rfl, S14, uF⟩
  have bc := bc.same S14
  have UV60 : Same H14 H14 := Same.refl _
  refine ⟨_, rfl, _, rfl, _, rfl, _, rfl, (show 0 ≤ sizeLine by decide), fun x6_1 nx6_1 => ?_⟩
  have SV61 := same_new nx6_1 (.tup [])
  have hx6_1 : upd H14 x6_1 (.tup []) x6_1 = some (.tup []) := upd_same
  generalize hhV61 : upd H14 x6_1 (.tup []) = V61 at *
  clear hhV61
  have UV61 := UV60.trans SV61
  have bc := bc.same SV61
  have uF := uF.same SV61
  refine ⟨(show 4 ≤ sizeLine by decide), fun x6_2 nx6_2 => ?_⟩
  have SV62 := same_new nx6_2 (.tup [V.ref r, .int B.size, .ref s, .ref x6_1])
  have hx6_2 : upd V61 x6_2 (.tup [V.ref r, .int B.size, .ref s, .ref x6_1]) x6_2 = some (.tup [V.ref r, .int B.size, .ref s, .ref x6_1]) := upd_same
  generalize hhV62 : upd V61 x6_2 (.tup [V.ref r, .int B.size, .ref s, .ref x6_1]) = V62 at *
  clear hhV62
  have UV62 := UV61.trans SV62
  have hx6_1 := SV62 _ _ hx6_1
  have bc := bc.same SV62
  have uF := uF.same SV62
  refine ⟨(show 1 ≤ sizeLine by decide), fun x6_3 nx6_3 => ?_⟩
  have SV63 := same_new nx6_3 (.lst [V.ref x6_2])
  have hx6_3 : upd V62 x6_3 (.lst [V.ref x6_2]) x6_3 = some (.lst [V.ref x6_2]) := upd_same
  generalize hhV63 : upd V62 x6_3 (.lst [V.ref x6_2]) = V63 at *
  clear hhV63
  have UV63 := UV62.trans SV63
  have hx6_1 := SV63 _ _ hx6_1
  have hx6_2 := SV63 _ _ hx6_2
  have bc := bc.same SV63
  have uF := uF.same SV63
  have ge : GV (fun x => H x = none) V63 1 2000 MB (.ref x6_1) := gl_tup (k := 0) hx6_1 .nil (Nat.le_of_ble_eq_true rfl)
  have gA : GV (fun x => H x = none) V63 4 350000 MB (.ref x6_2) := gl_tup (k := 3) hx6_2 (.cons (bc.gr ok) (.cons (gsz ok) (.cons ((bc.gsp ok).mono (by decide) (Nat.le_refl _) (Int.le_refl _)) (.cons (ge.mono (by decide) (Nat.le_refl _) (Int.le_refl _)) .nil)))) (Nat.le_of_ble_eq_true rfl)
  refine ⟨F, x6_3, _, _, rfl, rfl, uF.at_, hx6_3, Nat.le_trans (Nat.add_le_add uF.len (show _ ≤ 1 from Nat.le_refl _)) (by decide), fun F2 nF2 => ?_⟩
  have uN : Us (fun x => H x = none) V63 x6_3 _ 4 350000 1 := ⟨hx6_3, (show 1 ≤ 1 by decide), (gvs_cons gA gvs_nil)⟩
  have S15 := S14.trans UV63
  have z := us_cat uF uN nF2
  exact q F2 _ _ (S15.trans (same_new nF2 _)) (S15.free nF2) ⟨z.at_, Nat.le_trans z.len (by decide), z.all⟩

theorem ok_llaid (F : Fun K "_law_laid" "_law_laid" s_llaid f_llaid d_llaid) (T : Txt K mg f_is_number f_is_from_to f_is_word f_is_tuple_of f_is_run f_is_runs f_is_apart f_many_in f_both f_less f_what_is_left f_is_within f_is_bundling f_laid f_lfeed f_ldraw f_lnames f_lhas f_lmade f_lis_number f_lis_word f_lis_run f_lis_runs f_lalike f_lodd f_lbent f_lspoilt f_lbundling f_lmany f_lis_bundling f_lmenu f_llaid f_llot f_lright f_law)
    (F_laid : Fun K "laid" "laid" s_laid f_laid d_laid) (b_laid : Binds K d_laid ["run", "size", "spoilt", "stars"] []) (G_laid : FnOk P w K mg base (L2.CX P w) (3) f_laid d_laid ["run", "size", "spoilt", "stars"] (spKLaid K P_many_in (He.ga K "NoStars"))) :
    FnOk P w K mg base CX0 (4) f_llaid d_llaid ["_law_run", "_law_size", "_law_spoilt_here", "_law_stars"] (spLaidD K P_many_in) := by
  refine F.ok sc_llaid (fun vs H Q E h => ?_) (fun cdv A outer s H vs Q E hr h => ?_)

  · obtain ⟨r, s, t, n, R, Z, c, rfl, _⟩ := h
    rfl
  obtain ⟨r, s, t, n, R, Z, c, rfl, h2, hs, h4, okR, okZ, ca, lc, hP, q⟩ := h
  refine' ⟨_, (pss_cons (ps_set (i := 4) sc_llaid.nd rfl (.inl rfl) (pe_tup (pa_cons pe_str pa_nil)))
  (pss_cons (ps_try_as (i := 5) (Wout := fun _ _ _ _ => False) rfl rfl sc_llaid.nd rfl rfl ⟨rfl, by decide, .inl T.m_NoteError⟩ takes0
  (fun W pn xe tk _ => by apply PSs.as; exact (pss_one (ps_set (i := 4) sc_llaid.nd rfl (.inl rfl) (pe_tup (pa_cons pe_str (pa_cons (pe_callS G_laid hr (by rfl) T.m_laid F_laid.kp b_laid (fun σ => passAt tk σ) (pa_cons (pv 0) (pa_cons (pv 1) (pa_cons (pv 2) (pa_cons (pv 3) pa_nil))))) pa_nil))))); rfl)
  ?su)
  (pss_one (ps_ret (pv 4))))), ?rd⟩
  case su =>
    intro a oe cls d pn hz hf
    apply PSs.as
    · exact (pss_cons (ps_set (i := 6) sc_llaid.nd rfl (.inl rfl) (pe_callB (call_isN (by exact rfl) T.rf_NoStars hz hf (by exact List.mem_cons_self)) (by rfl) T.isinstance (by decide +kernel) (pa_cons (pv 5) (pa_cons (pe_tup (pa_cons (pe_glob (v := .ref (He.ga K "NoNumber")) (by rfl) T.m_NoNumber (by exact rfl)) (pa_cons (pe_glob (v := .ref (He.ga K "NoRow")) (by rfl) T.m_NoRow (by exact rfl)) (pa_cons (pe_glob (v := .ref (He.ga K "NoPage")) (by rfl) T.m_NoPage (by exact rfl)) (pa_cons (pe_glob (v := .ref (He.ga K "NoPaper")) (by rfl) T.m_NoPaper (by exact rfl)) (pa_cons (pe_glob (v := .ref (He.ga K "NoWorld")) (by rfl) T.m_NoWorld (by exact rfl)) (pa_cons (pe_glob (v := .ref (He.ga K "NoBack")) (by rfl) T.m_NoBack (by exact rfl)) (pa_cons (pe_glob (v := .ref (He.ga K "NoText")) (by rfl) T.m_NoText (by exact rfl)) (pa_cons (pe_glob (v := .ref (He.ga K "NoLine")) (by rfl) T.m_NoLine (by exact rfl)) pa_nil))))))))) pa_nil))))
  (pss_one (ps_if (PW.pt (pw_and (pt_val (pe_callB (call_is1 (by exact rfl) T.rf_NoStars hz hf (by exact List.mem_cons_self)) (by rfl) T.isinstance (by decide +kernel) (pa_cons (pv 5) (pa_cons (pe_glob (v := .ref (He.ga K "NoStars")) (by rfl) T.m_NoStars (by exact rfl)) pa_nil)))) (pw_and (pt_val (pe_callB (call_is1 (by exact rfl) T.rf_NoStars hz hf (by exact List.mem_cons_self)) (by rfl) T.isinstance (by decide +kernel) (pa_cons (pv 5) (pa_cons (pe_bltn (v := .ty "ValueError") (by rfl) T.ValueError (by decide +kernel) rfl) pa_nil)))) (pw_and1 (pt_not (pt_val (pv 6)))))))
  (pss_one (ps_set (i := 4) sc_llaid.nd rfl (.inl rfl) (pe_tup (pa_cons pe_str (pa_cons (pe_fld (by exact rfl) T.rf_NoStars hz hf (by exact List.mem_cons_self) (pv 5)) pa_nil)))))
  pss_nil)))
    · rfl
  case rd =>
  refine ⟨(show 1 ≤ sizeLine by decide), fun t0 n0 => ?_⟩
  have S0 := same_new n0 (.tup [V.str (("other" : String) : Str)])
  refine ⟨_, rfl, _, rfl, _, rfl, _, rfl, r, s, t, n, R, Z, c, rfl, S0 _ _ h2, hs.same S0, S0 _ _ h4, okR, okZ, ca, lc, S0 _ _ hP, fun le a w H1 S1 ha hw => ?_, fun lt d H1 nd S1 hd => ?_⟩
  · have S01 := S0.trans S1
    refine ⟨(show 2 ≤ sizeLine by decide), fun t2 n2 => ⟨_, rfl, q t2 _ (S01.trans (same_new n2 _)) ?_⟩⟩
    have N2 := same_new n2 (.tup [V.str (("told" : String) : Str), .ref a])
    unfold laidD
    rw [if_pos le]
    exact .tup (SqT.of upd_same) (.cons (.str _) (.cons (.tup (SqT.of (N2 _ _ ha)) (.cons (.tup (SqT.of (N2 _ _ (S01 _ _ h2))) (.cons (.str _) (.cons (.int _) (.cons (.int _) .nil)))) (.cons (.int _) (.cons (hw.same N2).dp (.cons (.tup (SqT.of (N2 _ _ (S01 _ _ h4))) (.cons (.str _) (.cons (.int _) (.cons (.int _) .nil)))) .nil))))) .nil))
  · refine ⟨true, T.rf_NoStars.ex, fun _ x nx => ?_, fun z => Bool.noConfusion z⟩
    refine ⟨_, rfl, (show 8 ≤ sizeLine by decide), fun tp ntp => ?_⟩
    have S2 := same_new ntp (.tup [V.ref (He.ga K "NoNumber"), V.ref (He.ga K "NoRow"), V.ref (He.ga K "NoPage"), V.ref (He.ga K "NoPaper"), V.ref (He.ga K "NoWorld"), V.ref (He.ga K "NoBack"), V.ref (He.ga K "NoText"), V.ref (He.ga K "NoLine")])
    have hd2 := S2 _ _ hd
    refine ⟨rfl, d, _, tp, [(He.ga K "NoNumber"), (He.ga K "NoRow"), (He.ga K "NoPage"), (He.ga K "NoPaper"), (He.ga K "NoWorld"), (He.ga K "NoBack"), (He.ga K "NoText"), (He.ga K "NoLine")], false, rfl, hd2, rfl, upd_same, T.rf_NoStars.isO, ?_⟩
    refine ⟨_, rfl, rfl, d, _, _, _, true, rfl, hd2, rfl, fun u h => h, kit_self, true, rfl, iteT ?_⟩
    refine ⟨_, rfl, rfl, d, _, _, _, true, rfl, hd2, rfl, fun u h => h, T.rf_NoStars.isV, true, rfl, iteT ?_⟩
    refine ⟨_, rfl, false, rfl, iteT ?_⟩
    refine ⟨_, rfl, rfl, rfl, d, _, _, rfl, hd2, look1, (show 2 ≤ sizeLine by decide), fun t5 n5 => ⟨_, rfl, q t5 _ (((S0.trans S1).trans S2).trans (same_new n5 _)) ?_⟩⟩
    unfold laidD
    rw [if_neg (by omega)]
    exact .tup (SqT.of upd_same) (.cons (.str _) (.cons (.int _) .nil))

theorem ok_llot (F : Fun K "_law_lot" "_law_lot" s_llot f_llot d_llot) (T : Txt K mg f_is_number f_is_from_to f_is_word f_is_tuple_of f_is_run f_is_runs f_is_apart f_many_in f_both f_less f_what_is_left f_is_within f_is_bundling f_laid f_lfeed f_ldraw f_lnames f_lhas f_lmade f_lis_number f_lis_word f_lis_run f_lis_runs f_lalike f_lodd f_lbent f_lspoilt f_lbundling f_lmany f_lis_bundling f_lmenu f_llaid f_llot f_lright f_law)
    (F_ldraw : Fun K "_law_draw" "_law_draw" s_ldraw f_ldraw d_ldraw) (b_ldraw : Binds K d_ldraw ["_law_feed_here", "_law_many_here"] []) (G_ldraw : FnOk P w K mg base CX0 (2) f_ldraw d_ldraw ["_law_feed_here", "_law_many_here"] spDraw)
    (F_lmade : Fun K "_law_made" "_law_made" s_lmade f_lmade d_lmade) (b_lmade : Binds K d_lmade ["_law_lots", "_law_rule"] []) (G_lmade : FnOk P w K mg base CX0 (2) f_lmade d_lmade ["_law_lots", "_law_rule"] (spMade K)) :
    FnOk P w K mg base CX0 (3) f_llot d_llot ["_law_feed_here", "_law_bundling_here", "_law_names_here"] (spLot12 K) := by
  refine F.ok sc_llot (fun vs H Q E h => ?_) (fun cdv A outer s H vs Q E hr h => ?_)

  · obtain ⟨f, c, a, l, n, B, xs, rfl, _⟩ := h
    rfl
  obtain ⟨f, c, a, l, n, B, xs, rfl, hf, hn, ⟨p, s, st, h1, h2, ⟨qs, ha, hg⟩, h4⟩, ok, hl, lf, xl, nms, q⟩ := h
  refine ⟨_, (pss_cons (ps_set (i := 3) sc_llot.nd rfl (.inl rfl) (pe_ix ix_tup (pv 1) pe_int (fun _ _ => rfl)))
  (pss_cons (ps_set (i := 4) sc_llot.nd rfl (.inl rfl) (pe_slice sl_list (pe_callTy call_list_of (by rfl) T.list (by decide +kernel) (pa_cons (pe_ix ix_tup (pv 1) pe_int (fun _ _ => rfl)) pa_nil)) po_none (po_some pe_int)))
  (pss_cons (ps_for PassesOwn.never rfl (pi_range1 (by rfl) T.range (pa_cons (pe_call G_ldraw hr (by rfl) T.m_ldraw F_ldraw.kp b_ldraw .nil pass0 (pa_cons (pv 0) (pa_cons pe_int pa_nil))) pa_nil)) (pg_name (i := 5) sc_llot.nd rfl (.inl rfl))
  (pss_cons (ps_set (i := 6) sc_llot.nd rfl (.inl rfl) (pe_ix ix_list (pe_lst (pa_cons (pe_ix ix_tup (pv 3) pe_int (fun _ _ => rfl)) (pa_cons (pe_ix ix_tup (pv 3) pe_int (fun _ _ => rfl)) (pa_cons (pe_op op_add (pe_ix ix_tup (pv 3) pe_int (fun _ _ => rfl)) (pe_call G_ldraw hr (by rfl) T.m_ldraw F_ldraw.kp b_ldraw .nil pass0 (pa_cons (pv 0) (pa_cons (pe_op op_sub (pe_ix ix_tup (pv 3) pe_int (fun _ _ => rfl)) (pe_ix ix_tup (pv 3) pe_int (fun _ _ => rfl))) pa_nil)))) pa_nil)))) (pe_call G_ldraw hr (by rfl) T.m_ldraw F_ldraw.kp b_ldraw .nil pass0 (pa_cons (pv 0) (pa_cons pe_int pa_nil))) (fun _ _ => rfl)))
  (pss_cons (ps_set (i := 7) sc_llot.nd rfl (.inl rfl) (pe_callB (call_max2 rfl) (by rfl) T.max (by decide +kernel) (pa_cons pe_int (pa_cons (pe_callB (call_min2 rfl) (by rfl) T.min (by decide +kernel) (pa_cons (pe_op op_sub (pe_op op_pow pe_int pe_int) pe_int) (pa_cons (pe_op op_sub (pv 6) (pe_call G_ldraw hr (by rfl) T.m_ldraw F_ldraw.kp b_ldraw .nil pass0 (pa_cons (pv 0) (pa_cons pe_int pa_nil)))) pa_nil))) pa_nil))))
  (pss_cons (ps_expr (pe_bm PySem.F.plainAttrs_list PySem.F.slot_list_append PySem.F.type_list_append mt_append (pv 4) (pa_cons (pe_tup (pa_cons (pe_ix ix_list (pe_lst (pa_cons (pe_ix ix_tup (pv 3) pe_int (fun _ _ => rfl)) (pa_cons (pe_ix ix_list (pv 2) (pe_call G_ldraw hr (by rfl) T.m_ldraw F_ldraw.kp b_ldraw .nil pass0 (pa_cons (pv 0) (pa_cons pe_int pa_nil))) (fun _ _ => rfl)) pa_nil))) (pe_call G_ldraw hr (by rfl) T.m_ldraw F_ldraw.kp b_ldraw .nil pass0 (pa_cons (pv 0) (pa_cons pe_int pa_nil))) (fun _ _ => rfl)) (pa_cons (pv 7) (pa_cons (pe_op op_add (pv 7) pe_int) pa_nil)))) pa_nil)))
  (pss_one (ps_expr (pe_bm PySem.F.plainAttrs_list PySem.F.slot_list_append PySem.F.type_list_append mt_append (pv 4) (pa_cons (pe_tup (pa_cons (pe_ix ix_tup (pv 3) pe_int (fun _ _ => rfl)) (pa_cons (pv 7) (pa_cons (pe_callB (call_min2 rfl) (by rfl) T.min (by decide +kernel) (pa_cons (pe_op op_pow pe_int pe_int) (pa_cons (pe_op op_add (pe_op op_add (pv 7) pe_int) (pe_call G_ldraw hr (by rfl) T.m_ldraw F_ldraw.kp b_ldraw .nil pass0 (pa_cons (pv 0) (pa_cons pe_int pa_nil)))) pa_nil))) pa_nil)))) pa_nil))))))))
  (pss_one (ps_ret (pe_slice sl_tupTk (pe_call G_lmade hr (by rfl) T.m_lmade F_lmade.kp b_lmade .nil pass0 (pa_cons (pe_lst (pa_cons (pv 4) pa_nil)) (pa_cons pe_str pa_nil))) po_none (po_some pe_int))))))), ?_⟩
  have l24 := ok.len
  obtain ⟨r0, r1, r2⟩ := ok.ro
  have gl := hg.len
  refine ⟨_, rfl, a, _, _, _, rfl, rfl, SqT.of h1, rfl, ?_⟩
  refine ⟨_, rfl, a, _, _, _, rfl, rfl, SqT.of h1, rfl, s, _, rfl, .inr ha, fun X nX => ?_⟩
  have NX := same_new nX (.lst (qs.map V.ref))
  refine ⟨20, rfl, X, _, rfl, SqL.of upd_same, fun L nL => ?_⟩
  rw [show cutV (qs.map V.ref) none (some (20 : Int)) = (qs.take 20).map V.ref from (cut_take _ 20).trans (List.map_take).symm]
  have NL := same_new nL (.lst ((qs.take 20).map V.ref))
  have S0 := NX.trans NL
  have nL0 : H L = none := NX.free nL
  have Lf := hf.ne nL0
  have hL0 : upd (upd H X (.lst (qs.map V.ref))) L (.lst ((qs.take 20).map V.ref)) L = some (.lst ((qs.take 20).map V.ref)) := upd_same
  have g0 : Prd (upd (upd H X (.lst (qs.map V.ref))) L (.lst ((qs.take 20).map V.ref))) (qs.take 20) (B.sp.take 20) := (Prd.same S0 hg).takeN 20
  have hf0 := hf.same S0
  have B0 : But f H _ := But.of_same S0
  have pf : p ≠ f := by
    obtain ⟨zs, hz⟩ := hf.at
    exact ne_of h2 hz (fun z => nomatch z)
  generalize upd (upd H X (.lst (qs.map V.ref))) L (.lst ((qs.take 20).map V.ref)) = H0 at *
  refine ⟨_, rfl, f, c, 4, _, rfl, hf0, by omega, by decide, by decide, fun d H1 d0 d1 hf1 b1 _ => ?_⟩
  have B1 := B0.trans b1
  have hL1 := b1 _ _ Lf.1 hL0
  have g1 := g0.but hf0 b1
  refine ⟨d, rfl, by omega, by omega, ?_⟩
  refine for_range (lo := 0) (n := d.toNat) (fun i σ H' => ∃ (ps : List Addr) (rs : List Rn) (v5 v6 v7 : Option V), σ = [some (.ref f), some (.ref a), some (.ref l), some (.ref p), some (.ref L), v5, v6, v7] ∧ Fd H' f c (n + 1 + 6 * i) ∧ But f H H' ∧ H' L = some (.lst (ps.map V.ref)) ∧ Prd H' ps rs ∧ rs.length ≤ 20 + 2 * i ∧ ∀ x ∈ rs, RnOk x ∧ NmOk x.1) ⟨qs.take 20, B.sp.take 20, none, none, none, rfl, hf1.mono (by omega), B1, hL1, g1, by rw [List.length_take]; omega, fun x hx => ok.ok x (List.mem_of_mem_take hx)⟩ ?_ ?_
  · rintro i σ H2 hi ⟨ps, rs, v5, v6, v7, rfl, hf2, b2, hL2, g2, len, all⟩
    have hi3 : (i : Int) ≤ 2 := by omega
    have p2 := SqT.of (K := K) (b2 _ _ pf h2)
    refine ⟨_, rfl, p, _, _, _, rfl, rfl, p2, rfl, _, rfl, p, _, _, _, rfl, rfl, p2, rfl, _, rfl, p, _, _, _, rfl, rfl, p2, rfl, _, rfl, _, rfl, p, _, _, _, rfl, rfl, p2, rfl, _, rfl, p, _, _, _, rfl, rfl, p2, rfl, _, _, rfl, rfl, f, c, B.run.2.2 - B.run.2.1, _, rfl, hf2, by omega, by omega, by omega, fun e H3 e0 e1 hf3 b3 _ => ⟨_, _, rfl, rfl, (show 3 ≤ sizeLine by decide), fun w nw => ?_⟩⟩
    refine ⟨_, rfl, f, c, 3, _, rfl, hf3.new nw, by omega, by decide, by decide, fun k H4 k0 k1 hf4 b4 _ => ?_⟩
    have wf := hf3.ne nw
    have hw := b4 _ _ wf.1 (upd_same (a := w) (o := .lst [.int B.run.2.1, .int B.run.2.2, .int (B.run.2.1 + e)]))
    have b34 := b3.trans ((But.new (o := .lst [.int B.run.2.1, .int B.run.2.2, .int (B.run.2.1 + e)]) nw).trans b4)
    obtain ⟨N, N0, N1, aN⟩ : ∃ N : Int, 0 ≤ N ∧ N ≤ 1000000000 ∧ atI [V.int B.run.2.1, .int B.run.2.2, .int (B.run.2.1 + e)] k = some (.int N) := by
      have k3 : k = 0 ∨ k = 1 ∨ k = 2 := by omega
      rcases k3 with rfl | rfl | rfl
      · exact ⟨_, by omega, by omega, rfl⟩
      · exact ⟨_, by omega, by omega, rfl⟩
      · exact ⟨_, by omega, by omega, rfl⟩
    refine ⟨w, _, _, _, rfl, rfl, SqL.of hw, aN, ?_⟩
    refine ⟨_, _, rfl, rfl, ⟨by decide, by decide, by decide⟩, _, _, rfl, rfl, _, rfl, _, rfl, f, c, 4, _, rfl, hf4, by omega, by decide, by decide, fun u H5 u0 u1 hf5 b5 _ => ⟨_, _, rfl, rfl, _, _, rfl, _, _, rfl, ?_⟩⟩
    have b25 := b34.trans b5
    have B5 := b2.trans b25
    have hL5 := b25 _ _ Lf.1 hL2
    have g5 := g2.but hf2 b25
    have p5 := SqT.of (K := K) (B5 _ _ pf h2)
    have hl5 := B5 _ _ lf hl
    have mi := mn_is (10 ^ Int.toNat 9 - 1) (N - u)
    have mi2 := mx_is 0 (mn (10 ^ Int.toNat 9 - 1) (N - u))
    have e9 : (10 : Int) ^ Int.toNat 9 = 1000000000 := rfl
    unfold mx mn at mi2
    unfold mn at mi
    generalize hF : (if (if N - u < 10 ^ Int.toNat 9 - 1 then N - u else 10 ^ Int.toNat 9 - 1) > 0 then (if N - u < 10 ^ Int.toNat 9 - 1 then N - u else 10 ^ Int.toNat 9 - 1) else 0) = F at *
    clear hF
    have F0' : 0 ≤ F := by omega
    have F1' : F ≤ 999999999 := by omega
    refine ⟨_, rfl, .inl ⟨rfl, _, SqL.of hL5⟩, _, rfl, p, _, _, _, rfl, rfl, p5, rfl, _, rfl, _, rfl, f, c, 4, _, rfl, hf5, by omega, by decide, by decide, fun v H6 v0 v1 hf6 b6 _ => ?_⟩
    obtain ⟨sv, sv1, sv2⟩ := atI_some (xs := xs.map V.str) v0 (by rw [List.length_map]; omega)
    obtain ⟨s1, hs1, rfl⟩ := List.mem_map.mp sv2
    have nm1 := nms _ hs1
    have hl6 := b6 _ _ lf hl5
    refine ⟨l, _, _, _, rfl, rfl, SqL.of hl6, sv1, (show 2 ≤ sizeLine by decide), fun w2 nw2 => ?_⟩
    refine ⟨_, rfl, f, c, 2, _, rfl, hf6.new nw2, by omega, by decide, by decide, fun y H7 y0 y1 hf7 b7 _ => ?_⟩
    have w2f := hf6.ne nw2
    have hw2 := b7 _ _ w2f.1 (upd_same (a := w2) (o := .lst [.str B.run.1, .str s1]))
    obtain ⟨s2, nm2, aS⟩ : ∃ s2 : Str, NmOk s2 ∧ atI [V.str B.run.1, .str s1] y = some (.str s2) := by
      have y2 : y = 0 ∨ y = 1 := by omega
      rcases y2 with rfl | rfl
      · exact ⟨_, ok.rn, rfl⟩
      · exact ⟨_, nm1, rfl⟩
    refine ⟨w2, _, _, _, rfl, rfl, SqL.of hw2, aS, _, rfl, _, rfl, _, _, rfl, rfl, (show 3 ≤ sizeLine by decide), fun t nt => ?_⟩
    have b57 := b6.trans ((But.new (o := .lst [.str B.run.1, .str s1]) nw2).trans b7)
    have hL7 := b57 _ _ Lf.1 hL5
    have g7 := g5.but hf5 b57
    have N8 := same_new nt (.tup (rnV (s2, F, F + 1)))
    have hL8 := N8 _ _ hL7
    have gp := g7.len
    refine ⟨L, _, _, rfl, rfl, hL8, ?_, ?_⟩
    · rw [List.length_map, gp]
      exact Nat.lt_of_lt_of_le (show _ < 100 by omega) (by decide)
    have g9 : Prd _ (ps ++ [t]) (rs ++ [(s2, F, F + 1)]) := Prd.put (o := .lst (ps.map V.ref ++ [V.ref t])) hL8 (Prd.app (Prd.same N8 g7) (Prd.one (upd_same (o := .tup (rnV (s2, F, F + 1))))))
    have hL9 : upd (upd H7 t (.tup (rnV (s2, F, F + 1)))) L (.lst (ps.map V.ref ++ [V.ref t])) L = some (.lst ((ps ++ [t]).map V.ref)) := by
      rw [upd_same, List.map_append]
      rfl
    have hf9 : Fd (upd (upd H7 t (.tup (rnV (s2, F, F + 1)))) L (.lst (ps.map V.ref ++ [V.ref t]))) f c (n + 1 + 6 * i + 5) := ((hf7.same N8).upd Lf).mono (by omega)
    have B9 : But f H (upd (upd H7 t (.tup (rnV (s2, F, F + 1)))) L (.lst (ps.map V.ref ++ [V.ref t]))) := (B5.trans (b57.trans (But.of_same N8))).mut nL0
    have p9 := SqT.of (K := K) (B9 _ _ pf h2)
    refine ⟨_, rfl, .inl ⟨rfl, _, SqL.of hL9⟩, _, rfl, p, _, _, _, rfl, rfl, p9, rfl, _, rfl, _, _, rfl, rfl, ⟨by decide, by decide, by decide⟩, _, rfl, _, _, rfl, rfl, _, rfl, f, c, 6, _, rfl, hf9, by omega, by decide, by decide, fun z H10 z0 z1 hf10 b10 _ => ⟨_, _, rfl, rfl, _, _, rfl, (show 3 ≤ sizeLine by decide), fun t2 nt2 => ?_⟩⟩
    have mj := mn_is (10 ^ Int.toNat 9) (F + 1 + z)
    unfold mn at mj
    generalize (if F + 1 + z < 10 ^ Int.toNat 9 then F + 1 + z else 10 ^ Int.toNat 9) = G at *
    have N11 := same_new nt2 (.tup (rnV (B.run.1, F, G)))
    have hL10 := b10 _ _ Lf.1 hL9
    have hL11 := N11 _ _ hL10
    have g10 := g9.but hf9 b10
    refine ⟨L, _, _, rfl, rfl, hL11, ?_, ps ++ [t] ++ [t2], rs ++ [(s2, F, F + 1)] ++ [(B.run.1, F, G)], _, _, _, rfl, ((hf10.same N11).upd Lf).mono (by omega), (B9.trans (b10.trans (But.of_same N11))).mut nL0, ?_, ?_, ?_, fun x hx => ?_⟩
    · rw [List.length_map, List.length_append, gp]
      exact Nat.lt_of_lt_of_le (show _ < 100 by show _ + 1 < _; omega) (by decide)
    · rw [upd_same, List.map_append (l₁ := ps ++ [t])]
      rfl
    · exact Prd.put hL11 (Prd.app (Prd.same N11 g10) (Prd.one upd_same))
    · rw [List.length_append, List.length_append]
      show rs.length + 1 + 1 ≤ _
      omega
    · rcases List.mem_append.mp hx with hx | hx
      · rcases List.mem_append.mp hx with hx | hx
        · exact all x hx
        · rw [List.mem_singleton.mp hx]
          exact ⟨⟨F0', by show F < F + 1; omega, by show F + 1 ≤ _; omega⟩, nm2⟩
      · rw [List.mem_singleton.mp hx]
        exact ⟨⟨F0', by show F < G; omega, by show G ≤ _; omega⟩, ok.rn⟩
  · rintro σ H2 ⟨ps, rs, v5, v6, v7, rfl, hf2, b2, hL2, g2, len, all⟩
    refine ⟨_, rfl, (show 1 ≤ sizeLine by decide), fun l1 n1 => ?_⟩
    have N3 := same_new n1 (.lst [V.ref L])
    have full : Full rs := fun x hx => (all x hx).1.2.1
    refine ⟨l1, [⟨true, L, ps, rs⟩], rfl, SqL.of upd_same, one_lot ⟨SqL.of (N3 _ _ hL2), Prd.same N3 g2, by show rs.length ≤ 200; omega⟩, (show 0 < 1 by decide), (show 1 ≤ 3 by decide), by rw [all_one]; exact full, fun t us H4 S4 n4 h4 g4 => ?_⟩
    rw [all_one] at g4
    obtain ⟨ra, rb⟩ := And.intro (runsOf_ok full).1 (runsOf_len rs)
    have rc := runsOf_all all
    generalize runsOf rs = zs at *
    refine ⟨24, rfl, t, _, rfl, h4, fun t2 H5 S5 h5 => ?_⟩
    rw [show cutV (us.map V.ref) none (some (24 : Int)) = (us.take 24).map V.ref from (cut_take _ 24).trans (List.map_take).symm] at h5
    have S35 := N3.trans (S4.trans S5)
    exact q t2 (zs.take 24) H5 ((hf2.same S35).mono (by omega)) (b2.trans (But.of_same S35)) (TpAt.of h5 ((Prd.same S5 g4).takeN 24)) (canon_pre 24 ra) (List.length_take_le _ _) fun x hx => rc x (List.mem_of_mem_take hx)

theorem ok_lright (F : Fun K "_law_right" "_law_right" s_lright f_lright d_lright) (T : Txt K mg f_is_number f_is_from_to f_is_word f_is_tuple_of f_is_run f_is_runs f_is_apart f_many_in f_both f_less f_what_is_left f_is_within f_is_bundling f_laid f_lfeed f_ldraw f_lnames f_lhas f_lmade f_lis_number f_lis_word f_lis_run f_lis_runs f_lalike f_lodd f_lbent f_lspoilt f_lbundling f_lmany f_lis_bundling f_lmenu f_llaid f_llot f_lright f_law)
    (F_llot : Fun K "_law_lot" "_law_lot" s_llot f_llot d_llot) (b_llot : Binds K d_llot ["_law_feed_here", "_law_bundling_here", "_law_names_here"] []) (G_llot : FnOk P w K mg base CX0 (6) f_llot d_llot ["_law_feed_here", "_law_bundling_here", "_law_names_here"] (spLot12 K))
    (F_lmade : Fun K "_law_made" "_law_made" s_lmade f_lmade d_lmade) (b_lmade : Binds K d_lmade ["_law_lots", "_law_rule"] []) (G_lmade : FnOk P w K mg base CX0 (6) f_lmade d_lmade ["_law_lots", "_law_rule"] (spMadeA K))
    (F_lmany : Fun K "_law_many" "_law_many" s_lmany f_lmany d_lmany) (b_lmany : Binds K d_lmany ["_law_runs"] []) (G_lmany : FnOk P w K mg base CX0 (6) f_lmany d_lmany ["_law_runs"] (spLMany12 K))
    (F_ldraw : Fun K "_law_draw" "_law_draw" s_ldraw f_ldraw d_ldraw) (b_ldraw : Binds K d_ldraw ["_law_feed_here", "_law_many_here"] []) (G_ldraw : FnOk P w K mg base CX0 (6) f_ldraw d_ldraw ["_law_feed_here", "_law_many_here"] spDraw)
    (F_llaid : Fun K "_law_laid" "_law_laid" s_llaid f_llaid d_llaid) (b_llaid : Binds K d_llaid ["_law_run", "_law_size", "_law_spoilt_here", "_law_stars"] []) (G_llaid : FnOk P w K mg base CX0 (6) f_llaid d_llaid ["_law_run", "_law_size", "_law_spoilt_here", "_law_stars"] (spLaidD K P_many_in))
    (F_lalike : Fun K "_law_alike" "_law_alike" s_lalike f_lalike d_lalike) (b_lalike : Binds K d_lalike ["_law_found", "_law_due"] []) (G_lalike : FnOk P w K mg base CX0 (6) f_lalike d_lalike ["_law_found", "_law_due"] (spAlike K 5)) :
    FnG P w K mg base 7 f_lright d_lright ["_law_feed_here", "_law_bundling_here", "_law_names_here"] (spRight12 K P_many_in) := by
  refine okG F sc_lright (fun vs H Q E h => ?_) (fun cdv A outer s H vs Q E hr hg h => ?_)

  · obtain ⟨f, c, a, l, n, B, xs, rfl, _⟩ := h
    rfl
  obtain ⟨f, c, a, l, n, B, xs, rfl, hf, hn, hB, ok, wide, hl, lf, xl, nms, hP, q⟩ := h
  refine ⟨_, (pss_cons (ps_asg (pv 1) (pg_tup rfl (pgs_cons (pg_name (i := 3) sc_lright.nd rfl (.inl rfl)) (pgs_cons (pg_name (i := 4) sc_lright.nd rfl (.inl rfl)) (pgs_cons (pg_name (i := 5) sc_lright.nd rfl (.inl rfl)) (pgs_cons (pg_name (i := 6) sc_lright.nd rfl (.inl rfl)) pgs_nil))))))
  (pss_cons (ps_set (i := 7) sc_lright.nd rfl (.inl rfl) (pe_call G_llot hr (by rfl) T.m_llot F_llot.kp b_llot .nil pass0 (pa_cons (pv 0) (pa_cons (pv 1) (pa_cons (pv 2) pa_nil)))))
  (C8.pss_cut (ps_set (i := 8) sc_lright.nd rfl (.inl rfl) (pe_call G_lmade hr (by rfl) T.m_lmade F_lmade.kp b_lmade .nil pass0 (pa_cons (pe_lst (pa_cons (pv 7) (pa_cons (pe_lst (pa_cons (pv 3) pa_nil)) pa_nil))) (pa_cons pe_str pa_nil))))
  (pss_cons (ps_set (i := 9) sc_lright.nd rfl (.inl rfl) (pe_callB (call_max2 rfl) (by rfl) T.max (by decide +kernel) (pa_cons pe_int (pa_cons (pe_op op_sub (pe_op op_add (pe_call G_lmany hr (by rfl) T.m_lmany F_lmany.kp b_lmany .nil pass0 (pa_cons (pv 8) pa_nil)) (pe_call G_ldraw hr (by rfl) T.m_ldraw F_ldraw.kp b_ldraw .nil pass0 (pa_cons (pv 0) (pa_cons pe_int pa_nil)))) pe_int) pa_nil))))
  (pss_cons (ps_par (by rfl) sc_lright.nd (i := 10) (j := 11) rfl rfl (by decide) rfl rfl (pa_cons (pe_ix ix_tup (pv 6) pe_int (fun _ _ => rfl)) (pa_cons (pe_callB (call_min2 rfl) (by rfl) T.min (by decide +kernel) (pa_cons (pe_ix ix_tup (pv 6) pe_int (fun _ _ => rfl)) (pa_cons (pe_callB (call_max2 rfl) (by rfl) T.max (by decide +kernel) (pa_cons pe_int (pa_cons (pe_op op_sub (pe_op op_pow pe_int pe_int) (pv 9)) pa_nil))) pa_nil))) pa_nil)) (by rfl))
  (C8.pss_cut (ps_set (i := 12) sc_lright.nd rfl (.inl rfl) (pe_tup (pa_cons (pv 10) (pa_cons (pv 11) (pa_cons (pe_op op_add (pv 11) (pv 9)) pa_nil)))))
  (pss_cons (ps_set (i := 13) sc_lright.nd rfl (.inl rfl) (pe_op op_sub (pe_call G_lmany hr (by rfl) T.m_lmany F_lmany.kp b_lmany .nil pass0 (pa_cons (pv 8) pa_nil)) (pv 9)))
  (C8.pss_cut (ps_set (i := 14) sc_lright.nd rfl (.inl rfl) (pe_ifExp (pt_cmpR op_gt (pv 13) pe_int (nomark _)) (pe_tup (pa_cons pe_str (pa_cons (pv 13) pa_nil))) (pe_tup (pa_cons pe_str (pa_cons (pe_tup (pa_cons (pv 3) (pa_cons (pv 4) (pa_cons (pv 8) (pa_cons (pv 12) pa_nil))))) pa_nil)))))
  (pss_cons (ps_set (i := 15) sc_lright.nd rfl (.inl rfl) (pe_callB (show CallR _ (.builtin "repr") (rReprD K) from cr_reprD hg hr) (by rfl) T.repr (by decide +kernel) (pa_cons (pe_tup (pa_cons (pv 3) (pa_cons (pv 4) (pa_cons (pv 7) (pa_cons (pv 12) pa_nil))))) pa_nil)))
  (pss_cons (ps_for PassesOwn.never rfl (pi_range1 (by rfl) T.range (pa_cons pe_int pa_nil)) (pg_name (i := 16) sc_lright.nd rfl (.inl rfl))
  (pss_one (ps_if (PW.pt (pw_or (pt_not (pt_val (pe_call G_lalike hr (by rfl) T.m_lalike F_lalike.kp b_lalike .nil pass0 (pa_cons (pe_call G_llaid hr (by rfl) T.m_llaid F_llaid.kp b_llaid .nil pass0 (pa_cons (pv 3) (pa_cons (pv 4) (pa_cons (pv 7) (pa_cons (pv 12) pa_nil))))) (pa_cons (pv 14) pa_nil))))) (pw_or1 (pt_cmpR op_ne (pe_callB (show CallR _ (.builtin "repr") (rReprD K) from cr_reprD hg hr) (by rfl) T.repr (by decide +kernel) (pa_cons (pe_tup (pa_cons (pv 3) (pa_cons (pv 4) (pa_cons (pv 7) (pa_cons (pv 12) pa_nil))))) pa_nil)) (pv 15) (nomark _)))))
  (pss_one (ps_ret pe_bl))
  pss_nil)))
  (pss_one (ps_ret (pe_call G_lalike hr (by rfl) T.m_lalike F_lalike.kp b_lalike .nil pass0 (pa_cons (pe_call G_llaid hr (by rfl) T.m_llaid F_llaid.kp b_llaid .nil pass0 (pa_cons (pv 3) (pa_cons (pv 4) (pa_cons (pv 5) (pa_cons (pv 6) pa_nil))))) (pa_cons (pe_tup (pa_cons pe_str (pa_cons (pv 1) pa_nil))) pa_nil))))))))))))))), ?_⟩
  obtain ⟨r, s, st, h1, h2, h3, h4⟩ := id hB
  have zz : ∀ {x : Addr} {ys : List V}, H x = some (.tup ys) → x ≠ f := fun h => by
    obtain ⟨zs, hz⟩ := hf.at
    exact ne_of h hz (fun z => nomatch z)
  have l24 := ok.len
  refine ⟨_, rfl, a, _, rfl, SqT.of h1, rfl, _, _, rfl, _, _, rfl, _, _, rfl, _, _, rfl, rfl, ?_⟩
  refine ⟨_, rfl, _, rfl, _, rfl, f, c, a, l, n, B, xs, rfl, hf, by omega, hB, ok, hl, lf, xl, nms, fun so ss H1 hf1 b1 hso cs lss oks => ?_⟩
  refine ⟨fun σ H' => ∃ ow : Addr, σ = [some (.ref f), some (.ref a), some (.ref l), some (.ref r), some (.int B.size), some (.ref s), some (.ref st), some (.ref so), some (.ref ow), none, none, none, none, none, none, none, none] ∧ Same H1 H' ∧ TpAt K H' ow (bothL ss [B.run]), ?_, ?_⟩
  · refine ⟨_, rfl, _, rfl, (show 1 ≤ sizeLine by decide), fun U nU => ?_⟩
    have NU := same_new nU (.lst [V.ref r])
    refine ⟨(show 2 ≤ sizeLine by decide), fun W nW => ?_⟩
    have NW := same_new nW (.lst [V.ref so, .ref U])
    have r1 := b1 _ _ (zz h2) h2
    obtain ⟨us, hus, gus⟩ := id hso
    refine ⟨W, ⟨false, so, us, ss⟩, ⟨true, U, [r], [B.run]⟩, rfl, SqL.of upd_same, ⟨SqT.sm (NU.trans NW) hus, Prd.same (NU.trans NW) gus, by show ss.length ≤ 200; omega⟩, ⟨SqL.of (NW _ _ upd_same), .cons ((NU.trans NW) _ _ r1) .nil, (show 1 ≤ 200 by decide)⟩, cs, canon_of1 ok.ro.2.1, fun ow os H2 S2 now how gow => ?_⟩
    exact ⟨ow, rfl, NU.trans (NW.trans S2), TpAt.of how gow⟩
  rintro σ H2 ⟨ow, rfl, S12, tow⟩
  have bl := both_few ss [B.run]
  have bl : (bothL ss [B.run]).length ≤ ss.length + 1 := bl
  obtain ⟨cn0, cn1⟩ := cnt_in12 cs ok.ro
  have hf2 := hf1.same S12
  have hP2 := S12 _ _ (tab_but hf b1 hP)
  refine ⟨_, rfl, ow, _, rfl, tow, by omega, fun H3 S3 => ?_⟩
  refine ⟨_, rfl, f, c, 7, _, rfl, hf2.same S3, by omega, by decide, by decide, fun e H4 e0 e1 hf4 b4 _ => ⟨_, _, rfl, rfl, _, _, rfl, rfl, _, _, rfl, ?_⟩⟩
  have b24 := (But.of_same S3).trans b4
  have tow4 := tow.but hf2 b24
  have tso4 := (hso.same S12).but hf2 b24
  have B4 := b1.trans ((But.of_same S12).trans b24)
  have r4 := B4 _ _ (zz h2) h2
  have st4 := B4 _ _ (zz h4) h4
  have s4 : TpAt K H4 s B.sp := h3.but hf B4
  have a4 := B4 _ _ (zz h1) h1
  have hP4 := tab_but hf2 b24 hP2
  have mi := mx_is 1 (cntL (bothL ss [B.run]) + e - 3)
  unfold mx at mi
  generalize hM : (if cntL (bothL ss [B.run]) + e - 3 > 1 then cntL (bothL ss [B.run]) + e - 3 else 1) = M at *
  have M1 : 1 ≤ M := by omega
  have M2 : M ≤ 999990103 := by omega
  have p6 := SqT.of (K := K) st4
  refine ⟨_, rfl, st, _, _, _, rfl, rfl, p6, rfl, _, rfl, st, _, _, _, rfl, rfl, p6, rfl, _, _, rfl, rfl, ⟨by decide, by decide, by decide⟩, _, rfl, _, _, rfl, rfl, _, _, rfl, _, _, rfl, ?_⟩
  have m1 := mx_is 0 (10 ^ Int.toNat 9 - M)
  have m2 := mn_is B.st.2.1 (mx 0 (10 ^ Int.toNat 9 - M))
  unfold mx at m1
  unfold mn mx at m2
  have e9 : (10 : Int) ^ Int.toNat 9 = 1000000000 := rfl
  obtain ⟨so0, so1, so2⟩ := ok.so
  generalize hBG : (if (if 10 ^ Int.toNat 9 - M > 0 then 10 ^ Int.toNat 9 - M else 0) < B.st.2.1 then (if 10 ^ Int.toNat 9 - M > 0 then 10 ^ Int.toNat 9 - M else 0) else B.st.2.1) = BG at *
  have bg0 : 0 ≤ BG := by omega
  have bg1 : BG + M ≤ 1000000000 := by omega
  clear hM hBG m1 m2 mi
  refine ⟨_, _, rfl, ?_⟩
  refine ⟨fun σ H' => ∃ ot : Addr, σ = [some (.ref f), some (.ref a), some (.ref l), some (.ref r), some (.int B.size), some (.ref s), some (.ref st), some (.ref so), some (.ref ow), some (.int M), some (.str B.st.1), some (.int BG), some (.ref ot), none, none, none, none] ∧ Same H4 H' ∧ H' ot = some (.tup (rnV (B.st.1, BG, BG + M))), ?_, ?_⟩
  · refine ⟨_, rfl, _, rfl, _, rfl, _, rfl, _, _, rfl, rfl, (show 3 ≤ sizeLine by decide), fun ot not => ?_⟩
    exact ⟨ot, rfl, same_new not (.tup (rnV (B.st.1, BG, BG + M))), upd_same⟩
  rintro σ HO ⟨ot, rfl, NO, hot⟩
  refine ⟨_, rfl, ow, _, rfl, tow4.same NO, by omega, fun H5 S5 => ⟨_, rfl, _, _, rfl, rfl, ?_⟩⟩
  have N45 := NO.trans S5
  have hot5 := S5 _ _ hot
  have r5 := N45 _ _ r4
  have st5 := N45 _ _ st4
  have s5 := s4.same N45
  have a5 := N45 _ _ a4
  have tow5 := tow4.same N45
  have tso5 := tso4.same N45
  have hf5 := hf4.same N45
  have hP5 := N45 _ _ hP4
  have B5 := B4.trans (But.of_same N45)
  have okZ : RnOk (B.st.1, BG, BG + M) := ⟨bg0, by show BG < BG + M; omega, bg1⟩
  have cz : cnt (B.st.1, BG, BG + M) = M := by
    unfold cnt
    show BG + M - BG = M
    omega
  obtain ⟨sh1, sh2, sh3⟩ := four_shown ok.ro ok.rn ok.s0 ok.s1 oks (by omega) okZ ok.sn (c := ss) (Z := (B.st.1, BG, BG + M)) (n := B.size)
  obtain ⟨fs1, fs2⟩ := fine_show _ sh1
  have fs3 : (fourD B.run B.size ss (B.st.1, BG, BG + M)).shown.length ≤ sizeLine := Nat.le_trans (shown_cost _ sh1) (Nat.le_trans sh3 (by decide))
  have LK : V.int (cntL (bothL ss [B.run]) - M) = V.int (cntL (bothL ss [B.run]) - M) := rfl
  refine ⟨fun σ H' => ∃ du : Addr, σ = [some (.ref f), some (.ref a), some (.ref l), some (.ref r), some (.int B.size), some (.ref s), some (.ref st), some (.ref so), some (.ref ow), some (.int M), some (.str B.st.1), some (.int BG), some (.ref ot), some (.int (cntL (bothL ss [B.run]) - M)), some (.ref du), none, none] ∧ Same H5 H' ∧ Dp K H' (.ref du) (laidD B.run B.size ss (B.st.1, BG, BG + M)) ∧ Nice 4 (laidD B.run B.size ss (B.st.1, BG, BG + M)), ?_, ?_⟩
  · refine ⟨_, rfl, _, _, rfl, rfl, _, rfl, ?_⟩
    refine ite2 (fun k => ?_) (fun k => ?_)
    · have k := of_decide_eq_true k
      refine ⟨_, rfl, (show 2 ≤ sizeLine by decide), fun du ndu => ⟨du, rfl, same_new ndu _, ?_, ?_⟩⟩
      · unfold laidD
        rw [cz, if_neg (by omega)]
        exact .tup (SqT.of upd_same) (.cons (.str _) (.cons (.int _) .nil))
      · unfold laidD
        rw [cz, if_neg (by omega)]
        exact no_nice _
    · have k : ¬ 0 < cntL (bothL ss [B.run]) - M := fun z => k (decide_eq_true z)
      refine ⟨_, rfl, _, rfl, _, rfl, _, rfl, (show 4 ≤ sizeLine by decide), fun in_ nin => ⟨(show 2 ≤ sizeLine by decide), fun du ndu => ?_⟩⟩
      have NI := same_new nin (.tup [.ref r, .int B.size, .ref ow, .ref ot])
      have ND := NI.trans (same_new ndu (.tup [.str (("told" : String) : Str), .ref in_]))
      have hin := (same_new ndu (.tup [.str (("told" : String) : Str), .ref in_])) _ _ (upd_same (H := H5) (a := in_) (o := .tup [.ref r, .int B.size, .ref ow, .ref ot]))
      refine ⟨du, rfl, ND, ?_, ?_⟩
      · unfold laidD
        rw [cz, if_pos (by omega)]
        exact .tup (SqT.of upd_same) (.cons (.str _) (.cons (four_dp hin (ND _ _ r5) (tow5.same ND) (ND _ _ hot5)) .nil))
      · unfold laidD
        rw [cz, if_pos (by omega)]
        exact four_nice (Nat.le_trans bl (by omega))
  rintro σ H6 ⟨du, rfl, S6, dd, dn⟩
  have V4 : 4 ≤ sizeLine := by decide
  have hd60 : (fourD B.run B.size ss (B.st.1, BG, BG + M)).depth ≤ 60 := sh2
  refine ⟨_, rfl, _, rfl, _, rfl, _, rfl, V4, fun p4 np4 => ?_⟩
  have N7 := same_new np4 (.tup [.ref r, .int B.size, .ref so, .ref ot])
  have S57 := S6.trans N7
  refine ⟨.ref p4, fourD B.run B.size ss (B.st.1, BG, BG + M), rfl, four_dp upd_same (S57 _ _ r5) (tso5.same S57) (S57 _ _ hot5), fs1, fs2, hd60, fs3, ?_⟩
  have dd7 := Dp.sm N7 dd
  generalize upd H6 p4 (.tup [.ref r, .int B.size, .ref so, .ref ot]) = H7 at *
  refine ⟨2, rfl, by decide, by decide, ?_⟩
  refine for_range (lo := 0) (n := (2 : Int).toNat) (fun i σ H' => ∃ v16 : Option V, σ = [some (.ref f), some (.ref a), some (.ref l), some (.ref r), some (.int B.size), some (.ref s), some (.ref st), some (.ref so), some (.ref ow), some (.int M), some (.str B.st.1), some (.int BG), some (.ref ot), some (.int (cntL (bothL ss [B.run]) - M)), some (.ref du), some (.str (fourD B.run B.size ss (B.st.1, BG, BG + M)).shown), v16] ∧ Same H7 H') ⟨none, rfl, Same.refl _⟩ ?_ ?_
  · rintro i σ H8 hi ⟨v16, rfl, S8⟩
    have S58 := S57.trans S8
    refine ⟨_, rfl, _, rfl, _, rfl, _, rfl, r, so, ot, B.size, B.run, (B.st.1, BG, BG + M), ss, rfl, S58 _ _ r5, tso5.same S58, S58 _ _ hot5, ok.ro, okZ, cs, by omega, S58 _ _ hP5, fun x H9 S9 dx => ?_⟩
    refine ⟨_, rfl, .ref x, .ref du, _, rfl, dx, Dp.sm (S8.trans S9) dd7, dn, fun H10 S10 => ⟨true, rfl, iteF ?_⟩⟩
    have S510 := S58.trans (S9.trans S10)
    refine ⟨_, rfl, _, rfl, _, rfl, _, rfl, V4, fun p5 np5 => ?_⟩
    have N11 := same_new np5 (.tup [.ref r, .int B.size, .ref so, .ref ot])
    have S511 := S510.trans N11
    refine ⟨.ref p5, fourD B.run B.size ss (B.st.1, BG, BG + M), rfl, four_dp upd_same (S511 _ _ r5) (tso5.same S511) (S511 _ _ hot5), fs1, fs2, hd60, fs3, _, rfl, rfl, ?_⟩
    have e1 : (!decide (V.str (fourD B.run B.size ss (B.st.1, BG, BG + M)).shown = V.str (fourD B.run B.size ss (B.st.1, BG, BG + M)).shown)) = false := by rw [decide_eq_true rfl]; rfl
    rw [e1]
    exact ⟨_, rfl, iteF ⟨_, rfl, S8.trans (S9.trans (S10.trans N11))⟩⟩
  rintro σ H8 ⟨v16, rfl, S8⟩
  have S58 := S57.trans S8
  refine ⟨_, rfl, _, rfl, _, rfl, _, rfl, r, s, st, B.size, B.run, B.st, B.sp, rfl, S58 _ _ r5, s5.same S58, S58 _ _ st5, ok.ro, ok.so, ok.ca, by omega, S58 _ _ hP5, fun x H9 S9 dx => ?_⟩
  rw [laidD_own ok] at dx
  refine ⟨_, rfl, (show 2 ≤ sizeLine by decide), fun tt ntt => ?_⟩
  have N10 := same_new ntt (.tup [.str (("told" : String) : Str), .ref a])
  have S510 := S58.trans (S9.trans N10)
  refine ⟨.ref x, .ref tt, _, rfl, Dp.sm N10 dx, .tup (SqT.of upd_same) (.cons (.str _) (.cons (four_dp (S510 _ _ a5) (S510 _ _ r5) (s5.same S510) (S510 _ _ st5)) .nil)), four_nice (by omega), fun H11 S11 => ?_⟩
  have S511 := S510.trans S11
  exact q H11 ((hf5.same S511).mono (by omega)) (B5.trans (But.of_same S511))

theorem ok_law (F : Fun K "law" "law" s_law f_law d_law) (T : Txt K mg f_is_number f_is_from_to f_is_word f_is_tuple_of f_is_run f_is_runs f_is_apart f_many_in f_both f_less f_what_is_left f_is_within f_is_bundling f_laid f_lfeed f_ldraw f_lnames f_lhas f_lmade f_lis_number f_lis_word f_lis_run f_lis_runs f_lalike f_lodd f_lbent f_lspoilt f_lbundling f_lmany f_lis_bundling f_lmenu f_llaid f_llot f_lright f_law)
    (F_lfeed : Fun K "_law_feed" "_law_feed" s_lfeed f_lfeed d_lfeed) (b_lfeed : Binds K d_lfeed ["_law_script"] []) (G_lfeed : FnOk P w K mg base CX0 (8) f_lfeed d_lfeed ["_law_script"] (spFeed K))
    (F_lnames : Fun K "_law_names" "_law_names" s_lnames f_lnames d_lnames) (b_lnames : Binds K d_lnames ["_law_feed_here"] []) (G_lnames : FnOk P w K mg base CX0 (8) f_lnames d_lnames ["_law_feed_here"] spNamesD)
    (F_lbundling : Fun K "_law_bundling" "_law_bundling" s_lbundling f_lbundling d_lbundling) (b_lbundling : Binds K d_lbundling ["_law_feed_here", "_law_names_here", "_law_small"] []) (G_lbundling : FnOk P w K mg base CX0 (8) f_lbundling d_lbundling ["_law_feed_here", "_law_names_here", "_law_small"] spBundT)
    (F_lmenu : Fun K "_law_menu" "_law_menu" s_lmenu f_lmenu d_lmenu) (b_lmenu : Binds K d_lmenu ["_law_bundling_here"] []) (G_lmenu : FnOk P w K mg base CX0 (8) f_lmenu d_lmenu ["_law_bundling_here"] spMenu12)
    (F_lbent : Fun K "_law_bent" "_law_bent" s_lbent f_lbent d_lbent) (b_lbent : Binds K d_lbent ["_law_feed_here", "_law_thing"] []) (G_lbent : FnOk P w K mg base CX0 (8) f_lbent d_lbent ["_law_feed_here", "_law_thing"] (spBentK 5))
    (F_is_bundling : Fun K "is_bundling" "is_bundling" s_is_bundling f_is_bundling d_is_bundling) (b_is_bundling : Binds K d_is_bundling ["thing"] []) (G_is_bundling : FnOk P w K mg base CX0 (8) f_is_bundling d_is_bundling ["thing"] (spKBund P_is_runs P_is_word P_many_in))
    (F_lis_bundling : Fun K "_law_is_bundling" "_law_is_bundling" s_lis_bundling f_lis_bundling d_lis_bundling) (b_lis_bundling : Binds K d_lis_bundling ["_law_thing"] []) (G_lis_bundling : FnOk P w K mg base CX0 (8) f_lis_bundling d_lis_bundling ["_law_thing"] (spKBund P_is_runs P_is_word P_many_in))
    (F_lright : Fun K "_law_right" "_law_right" s_lright f_lright d_lright) (b_lright : Binds K d_lright ["_law_feed_here", "_law_bundling_here", "_law_names_here"] []) (G_lright : FnG P w K mg base (8) f_lright d_lright ["_law_feed_here", "_law_bundling_here", "_law_names_here"] (spRight12 K P_many_in)) :
    FnG P w K mg base 9 f_law d_law ["_law_script"] (spLawT K [P_is_runs, P_is_word, P_many_in]) := by
  refine okG F sc_law (fun vs H Q E h => ?_) (fun cdv A outer s H vs Q E hr hg h => ?_)

  · obtain ⟨a, ns, rfl, _⟩ := h
    rfl
  obtain ⟨a, ns, rfl, hs, ht, q⟩ := h
  refine ⟨_, (pss_cons (ps_set (i := 1) sc_law.nd rfl (.inl rfl) (pe_call G_lfeed hr (by rfl) T.m_lfeed F_lfeed.kp b_lfeed .nil pass0 (pa_cons (pv 0) pa_nil)))
  (pss_cons (ps_set (i := 2) sc_law.nd rfl (.inl rfl) (pe_call G_lnames hr (by rfl) T.m_lnames F_lnames.kp b_lnames .nil pass0 (pa_cons (pv 1) pa_nil)))
  (pss_cons (ps_for PassesOwn.never rfl (pi_tup (pe_tup (pa_cons pe_int (pa_cons pe_int (pa_cons pe_int pa_nil))))) (pg_name (i := 3) sc_law.nd rfl (.inl rfl))
  (pss_cons (ps_set (i := 4) sc_law.nd rfl (.inl rfl) (pe_call G_lbundling hr (by rfl) T.m_lbundling F_lbundling.kp b_lbundling .nil pass0 (pa_cons (pv 1) (pa_cons (pv 2) (pa_cons (pv 3) pa_nil)))))
  (pss_cons (ps_set (i := 5) sc_law.nd rfl (.inl rfl) (pe_op op_cat (pe_lst (pa_cons (pv 4) pa_nil)) (pe_call G_lmenu hr (by rfl) T.m_lmenu F_lmenu.kp b_lmenu .nil pass0 (pa_cons (pv 4) pa_nil))))
  (pss_cons (ps_for PassesOwn.never rfl (pi_range1 (by rfl) T.range (pa_cons pe_int pa_nil)) (pg_name (i := 6) sc_law.nd rfl (.inl rfl))
  (pss_cons (ps_set (i := 7) sc_law.nd rfl (.inl rfl) (pe_call G_lbent hr (by rfl) T.m_lbent F_lbent.kp b_lbent .nil pass0 (pa_cons (pv 1) (pa_cons (pv 4) pa_nil))))
  (pss_one (ps_set (i := 5) sc_law.nd rfl (.inl rfl) (pe_op op_cat (pv 5) (pe_lst (pa_cons (pv 7) (pa_cons (pe_call G_lbent hr (by rfl) T.m_lbent F_lbent.kp b_lbent .nil pass0 (pa_cons (pv 1) (pa_cons (pv 7) pa_nil))) pa_nil))))))))
  (pss_cons (ps_for PassesOwn.never rfl (pi_list (pv 5)) (pg_name (i := 8) sc_law.nd rfl (.inl rfl))
  (pss_cons (ps_set (i := 9) sc_law.nd rfl (.inl rfl) (pe_callB (show CallR _ (.builtin "repr") (rReprD K) from cr_reprD hg hr) (by rfl) T.repr (by decide +kernel) (pa_cons (pv 8) pa_nil)))
  (pss_cons (ps_set (i := 10) sc_law.nd rfl (.inl rfl) (pe_call G_is_bundling hr (by rfl) T.m_is_bundling F_is_bundling.kp b_is_bundling .nil pass0 (pa_cons (pv 8) pa_nil)))
  (pss_one (ps_if (PW.pt (pw_or (pt_not (pt_val (pe_callB call_isi (by rfl) T.isinstance (by decide +kernel) (pa_cons (pv 10) (pa_cons (pe_bltn (v := .ty "bool") (by rfl) T.bool (by decide +kernel) rfl) pa_nil))))) (pw_or (pt_cmpR op_ne (pv 10) (pe_call G_lis_bundling hr (by rfl) T.m_lis_bundling F_lis_bundling.kp b_lis_bundling .nil pass0 (pa_cons (pv 8) pa_nil)) (nomark _)) (pw_or1 (pt_cmpR op_ne (pe_callB (show CallR _ (.builtin "repr") (rReprD K) from cr_reprD hg hr) (by rfl) T.repr (by decide +kernel) (pa_cons (pv 8) pa_nil)) (pv 9) (nomark _))))))
  (pss_one (ps_ret pe_bl))
  pss_nil)))))
  (pss_one (ps_if (PW.pt (pw_or (pt_not (pt_val (pe_callG G_lright hg hr (by rfl) T.m_lright F_lright.kp b_lright .nil pass0 (pa_cons (pv 1) (pa_cons (pv 4) (pa_cons (pv 2) pa_nil)))))) (pw_or1 (pt_not (pt_val (pe_callG G_lright hg hr (by rfl) T.m_lright F_lright.kp b_lright .nil pass0 (pa_cons (pv 1) (pa_cons (pv 4) (pa_cons (pv 2) pa_nil)))))))))
  (pss_one (ps_ret pe_bl))
  pss_nil)))))))
  (pss_one (ps_ret pe_bl))))), ?_⟩
  refine ⟨_, rfl, a, ns, rfl, hs, fun f c H1 nf S1 hf1 => ?_⟩
  have hP1 : H1 P_is_runs = some (TabO P_is_runs) := S1 _ _ (ht _ List.mem_cons_self)
  have hP2 : H1 P_is_word = some (TabO P_is_word) := S1 _ _ (ht _ (List.mem_cons_of_mem _ List.mem_cons_self))
  have hP3 : H1 P_many_in = some (TabO P_many_in) := S1 _ _ (ht _ (List.mem_cons_of_mem _ (List.mem_cons_of_mem _ List.mem_cons_self)))
  refine ⟨_, rfl, f, c, 0, rfl, hf1, by decide, fun l xs H2 hf2 b2 lf lc nl hl xl nms un => ?_⟩
  have hP1 := tab_but hf1 b2 hP1
  have hP2 := tab_but hf1 b2 hP2
  have hP3 := tab_but hf1 b2 hP3
  refine ⟨(show 3 ≤ sizeLine by decide), fun T0 nT0 => ?_⟩
  have N3 := same_new nT0 (.tup [V.int 1, .int 0, .int 1])
  have hT0 : upd H2 T0 (.tup [V.int 1, .int 0, .int 1]) T0 = some (.tup [V.int 1, .int 0, .int 1]) := upd_same
  have hf3 := hf2.same N3
  have hl := N3 _ _ hl
  have hP1 := N3 _ _ hP1
  have hP2 := N3 _ _ hP2
  have hP3 := N3 _ _ hP3
  have T0f : T0 ≠ f := (hf2.ne nT0).1
  generalize upd H2 T0 (.tup [V.int 1, .int 0, .int 1]) = H3 at *
  refine ⟨T0, rfl, ⟨_, SqT.of hT0⟩, ?_⟩
  refine for_tup (K := K) (a := T0) (xs := [V.int 1, .int 0, .int 1]) (fun i σ H' => ∃ (v3 v4 v5 v6 v7 v8 v9 v10 : Option V), σ = [some (.ref a), some (.ref f), some (.ref l), v3, v4, v5, v6, v7, v8, v9, v10] ∧ Fd H' f c (8 + 4000 * i) ∧ But f H3 H') ⟨none, none, none, none, none, none, none, none, rfl, hf3.mono (by omega), But.refl _ _⟩ (fun i σ H' _ h => by obtain ⟨_, _, _, _, _, _, _, _, _, _, b⟩ := h; exact SqT.of (b _ _ T0f hT0)) ?_ ?_
  · rintro i x σ H4 hx ⟨v3, v4, v5, v6, v7, v8, v9, v10, rfl, hf4, b4⟩
    have hi : i < 3 := (List.getElem?_eq_some_iff.mp hx).1
    obtain ⟨k, rfl, hk⟩ : ∃ k : Int, x = .int k ∧ (k = 0 ∨ k = 1) := by
      have z := List.mem_of_getElem? hx
      simp only [List.mem_cons, List.not_mem_nil, or_false] at z
      rcases z with rfl | rfl | rfl
      · exact ⟨_, rfl, .inr rfl⟩
      · exact ⟨_, rfl, .inl rfl⟩
      · exact ⟨_, rfl, .inr rfl⟩
    have hl4 := b4 _ _ lf hl
    refine ⟨_, rfl, _, rfl, _, rfl, f, c, l, k, _, xs, rfl, hf4, by omega, hk, hl4, lf, xl, nms, un, fun A B H5 hf5 b5 bd ok wide _ => ?_⟩
    have b35 := b4.trans b5
    have hl5 := b35 _ _ lf hl
    obtain ⟨r, s, t, qs, bc⟩ := id bd
    have BB : (1000000010 : Int) ≤ 10 ^ 40 := by decide +kernel
    have B39 : (1000000010 : Int) + 1 ≤ 10 ^ 39 := by decide +kernel
    have gB : GV (fun x => x ≠ f) H5 3 200000 1000000010 (.ref A) := by
      have g1 : GV (fun x => x ≠ f) H5 2 5000 1000000010 (.ref r) := (rn_gv bc.hr ok.ro ok.rn (by decide) BB).mono (by decide) (Nat.le_refl _) (Int.le_refl _)
      have g2 : GV (fun x => x ≠ f) H5 2 2000 1000000010 (.int B.size) := by
        have s0 := ok.s0
        have s1 := ok.s1
        exact gv_int (by omega) (by omega) BB (Nat.le_refl _)
      have g3 : GV (fun x => x ≠ f) H5 2 121000 1000000010 (.ref s) := gvt bc.hs (prd_gvs (by decide) BB bc.gs ok.ok) (by
        have e := bc.gs.len
        have lk := ok.len
        rw [List.length_map]
        have : (5000 + 2) * qs.length ≤ (5000 + 2) * 24 := Nat.mul_le_mul_left _ (by omega)
        omega)
      have g4 : GV (fun x => x ≠ f) H5 2 5000 1000000010 (.ref t) := (rn_gv bc.ht ok.so ok.sn (by decide) BB).mono (by decide) (Nat.le_refl _) (Int.le_refl _)
      exact gl_tup (k := 2) bc.ha (.cons g1 (.cons g2 (.cons g3 (.cons g4 .nil)))) (by decide)
    have gBM : GV (fun x => x ≠ f) H5 6 2000000 MB (.ref A) := gB.mono (by decide) (by decide) (by unfold MB; decide +kernel)
    refine ⟨_, rfl, (show 1 ≤ sizeLine by decide), fun L1 nL1 => ⟨_, rfl, A, B, rfl, ⟨_, _, _, _, bc.same (same_new nL1 _)⟩, ok, fun M us H6 S6 nM uM => ?_⟩⟩
    have S1 := same_new nL1 (.lst [V.ref A])
    have hL1 : H6 L1 = some (.lst [V.ref A]) := S6 _ _ upd_same
    have hf6 := (hf5.same S1).same S6
    have S56 := S1.trans S6
    refine ⟨L1, M, _, _, rfl, rfl, hL1, uM.at_, Nat.le_trans (Nat.add_le_add (show _ ≤ 1 from Nat.le_refl _) uM.len) (by decide), fun F nF => ?_⟩
    have S7 := same_new nF (.lst ([V.ref A] ++ us))
    have nfF : F ≠ f := (hf6.ne nF).1
    have hF7 : upd H6 F (.lst ([V.ref A] ++ us)) F = some (.lst (V.ref A :: us)) := upd_same
    have S57 := S56.trans S7
    have hf7 := hf6.same S7
    have b37 := b35.trans (But.of_same S57)
    have gA7 : GV (fun x => x ≠ f) _ 6 2000000 MB (.ref A) := gBM.same S57
    have gM7 : ∀ v ∈ us, GV (fun x => x ≠ f) _ 6 2000000 MB v := fun v hv => ((((uM.all v hv).imp fun x hx => ((hf5.same S1).ne hx).1).mono (by decide) (by decide) (Int.le_refl _)).same S7 : _)
    have bc7 := bc.same S57
    have gB7 := gB.same S57
    have lM := uM.len
    generalize upd H6 F (.lst ([V.ref A] ++ us)) = H7 at *
    have zi : 8 + 4000 * (i : Int) ≤ 8008 := by omega
    generalize en0 : 8 + 4000 * (i : Int) = n0 at *
    refine ⟨6, rfl, by decide, by decide, ?_⟩
    refine for_range (lo := 0) (n := 6) (fun j σ H' => ∃ (F : Addr) (us : List V) (v6 v7 : Option V), σ = [some (.ref a), some (.ref f), some (.ref l), some (.int k), some (.ref A), some (.ref F), v6, v7, v8, v9, v10] ∧ Fd H' f c (n0 + 200 + 200 * j) ∧ But f H7 H' ∧ F ≠ f ∧ H' F = some (.lst us) ∧ us.length ≤ 61 + 2 * j ∧ ∀ v ∈ us, GV (fun x => x ≠ f) H' 6 2000000 MB v) ?_ ?_ ?_
    · exact ⟨F, _, _, _, rfl, hf7.mono (by omega), But.refl _ _, nfF, hF7, by rw [List.length_cons]; omega, gvs_cons gA7 gM7⟩
    · clear hF7 gM7 nfF nF F
      rintro j σ H8 hj ⟨F, us, v6, v7, rfl, hf8, b8, nfF, hF8, lu, gu⟩
      have gB8 := gB7.but b8 hf7
      obtain ⟨dx, hdx, gdx⟩ := gB8
      refine ⟨_, rfl, _, rfl, f, c, _, dx, _, 3, 200000, 1000000010, rfl, hf8, (show _ + 20 * (((4 : Nat) : Int) + 1) ≤ (800000 : Int) by omega), hdx, gdx, by decide, by decide, by decide, by decide, by decide +kernel, fun y Hk hfk bk gy => ?_⟩
      have hfk : Fd Hk f c (n0 + 200 + 200 * j + 20 * (((4 : Nat) : Int) + 1)) := hfk
      obtain ⟨dy, hdy, gdy⟩ := gy
      refine ⟨_, rfl, _, rfl, _, rfl, _, rfl, f, c, y, dy, _, 4, 3 * 200000 + 5000, 1000000010 + 1, rfl, hfk, (show _ + 20 * (((4 : Nat) : Int) + 1) ≤ (800000 : Int) by omega), hdy, gdy, by decide, by decide, by decide, by decide, B39, fun z Hm hfm bm gz => ?_⟩
      have hfm : Fd Hm f c (n0 + 200 + 200 * j + 20 * (((4 : Nat) : Int) + 1) + 20 * (((4 : Nat) : Int) + 1)) := hfm
      refine ⟨(show 2 ≤ sizeLine by decide), fun l4 nl4 => ?_⟩
      have Sm4 := same_new nl4 (.lst [y, z])
      have bkm := bk.trans bm
      refine ⟨F, l4, _, _, rfl, rfl, Sm4 _ _ (bkm _ _ nfF hF8), upd_same, Nat.le_trans (show us.length + 2 ≤ 200 by omega) (by decide), fun F2 nF2 => ?_⟩
      have Sm5 := same_new nF2 (.lst (us ++ [y, z]))
      have Sm := Sm4.trans Sm5
      have bj2 := bkm.trans (But.of_same Sm)
      refine ⟨F2, us ++ [y, z], _, _, rfl, (hfm.same Sm).mono (by omega), b8.trans bj2, ((hfm.same Sm4).ne nF2).1, upd_same, ?_, fun v hv => ?_⟩
      · rw [List.length_append]
        show us.length + 2 ≤ _
        omega
      · rcases List.mem_append.mp hv with hv | hv
        · exact (gu v hv).but bj2 hf8
        · have top : (1000000010 : Int) + 1 + 1 ≤ MB := by unfold MB; decide +kernel
          have yy : GV (fun a => a ≠ f) _ 6 2000000 MB y := (GV.but (bm.trans (But.of_same Sm)) hfk ⟨dy, hdy, gdy⟩).mono (by decide) (by decide) (by unfold MB; decide +kernel)
          have zz : GV (fun a => a ≠ f) _ 6 2000000 MB z := (gz.same Sm).mono (by decide) (by decide) top
          exact gvs_cons yy (gvs_cons zz gvs_nil) v hv
    clear hF7 gM7 nfF nF F lM uM S6
    rintro σ H8 ⟨F, us, v6, v7, rfl, hf8, b8, nfF, hF8, lu, gu⟩
    have hf8 : Fd H8 f c (n0 + 200 + 200 * 6) := hf8
    have b38 := b37.trans b8
    have hP1 := tab_but hf3 b38 hP1
    have hP2 := tab_but hf3 b38 hP2
    have hP3 := tab_but hf3 b38 hP3
    refine ⟨_, rfl, F, rfl, ⟨_, SqL.of hF8⟩, ?_⟩
    refine for_list (K := K) (a := F) (xs := us) (fun j σ H' => ∃ (v8 v9 v10 : Option V), σ = [some (.ref a), some (.ref f), some (.ref l), some (.int k), some (.ref A), some (.ref F), v6, v7, v8, v9, v10] ∧ Same H8 H') ⟨_, _, _, rfl, Same.refl _⟩ (fun j σ H' _ h => by obtain ⟨_, _, _, _, S⟩ := h; exact SqL.of (S _ _ hF8)) ?_ ?_
    · rintro j x σ H9 hx ⟨v8, v9, v10, rfl, S9⟩
      obtain ⟨d, hd, fd, cd⟩ := gu x (List.mem_of_getElem? hx)
      have hd9 := hd.same S9
      have sm : Sm d := ⟨Nat.le_trans fd.dep (by decide), Nat.le_trans cd (by decide)⟩
      obtain ⟨s1, s2⟩ := fine_show _ fd.fine
      have s3 : d.depth ≤ 60 := Nat.le_trans fd.dep (by decide)
      have s4 : d.shown.length ≤ sizeLine := Nat.le_trans (shown_cost _ fd.fine) (Nat.le_trans cd (by decide))
      have cd8 : cost d ≤ 8000000 := Nat.le_trans cd (by decide)
      refine ⟨_, rfl, x, d, rfl, hd9.dp, s1, s2, s3, s4, ?_⟩
      refine ⟨_, rfl, x, d, _, rfl, hd9, sm, cd8, S9 _ _ hP1, S9 _ _ hP2, S9 _ _ hP3, fun Ha Sa => ?_⟩
      have Ta := S9.trans Sa
      refine ⟨_, rfl, _, _, _, _, _, rfl, .ty _, .base (.bl (bundD d)), k_bool_bool, true, rfl, iteF ?_⟩
      refine ⟨_, rfl, _, rfl, x, d, _, rfl, hd9.same Sa, sm, cd8, Ta _ _ hP1, Ta _ _ hP2, Ta _ _ hP3, fun Hb Sb => ?_⟩
      have Tb := Ta.trans Sb
      have e1 : (!decide (V.bl (bundD d) = V.bl (bundD d))) = false := by rw [decide_eq_true rfl]; rfl
      refine ⟨rfl, ?_⟩
      rw [e1]
      refine ⟨_, rfl, iteF ?_⟩
      refine ⟨_, rfl, x, d, rfl, (hd.same Tb).dp, s1, s2, s3, s4, _, rfl, rfl, ?_⟩
      have e2 : (!decide (V.str d.shown = V.str d.shown)) = false := by rw [decide_eq_true rfl]; rfl
      rw [e2]
      exact ⟨_, rfl, iteF ⟨_, _, _, rfl, Tb⟩⟩
    rintro σ H9 ⟨v8, v9, v10, rfl, S9⟩
    have hf9 := hf8.same S9
    have b39 := b38.trans (But.of_same S9)
    have bT := BdT.at (K := K) bd
    have b59 := (But.of_same S57).trans (b8.trans (But.of_same S9))
    have bT9 := bT.but hf5 b59
    have hl9 := b39 _ _ lf hl
    refine ⟨_, rfl, _, rfl, _, rfl, f, c, A, l, _, B, xs, rfl, hf9, by omega, bT9, ok, wide, hl9, lf, xl, nms, S9 _ _ hP3, fun Hx hfx bx => ⟨true, rfl, iteF ?_⟩⟩
    refine ⟨_, rfl, _, rfl, _, rfl, f, c, A, l, _, B, xs, rfl, hfx, by omega, bT9.but hf9 bx, ok, wide, bx _ _ lf hl9, lf, xl, nms, tab_but hf9 bx (S9 _ _ hP3), fun Hy hfy by_ => ⟨true, rfl, iteF ?_⟩⟩
    exact ⟨_, _, _, _, _, _, _, _, rfl, hfy.mono (by omega), b39.trans (bx.trans by_)⟩
  rintro σ H4 ⟨v3, v4, v5, v6, v7, v8, v9, v10, rfl, hf4, b4⟩
  refine q _ fun t ht => ?_
  simp only [List.mem_cons, List.not_mem_nil, or_false] at ht
  rcases ht with rfl | rfl | rfl
  · exact tab_but hf3 b4 hP1
  · exact tab_but hf3 b4 hP2
  · exact tab_but hf3 b4 hP3

end
def e_is_number : He.DefD := ⟨("is_number", none), "is_number", "is_number", defArgs s_is_number, defBody s_is_number, defScope s_is_number, [], []⟩
def e_is_from_to : He.DefD := ⟨("is_from_to", none), "is_from_to", "is_from_to", defArgs s_is_from_to, defBody s_is_from_to, defScope s_is_from_to, [], []⟩
def e_is_word : He.DefD := ⟨("is_word", none), "is_word", "is_word", defArgs s_is_word, defBody s_is_word, defScope s_is_word, [], []⟩
def e_is_tuple_of : He.DefD := ⟨("is_tuple_of", none), "is_tuple_of", "is_tuple_of", defArgs s_is_tuple_of, defBody s_is_tuple_of, defScope s_is_tuple_of, [], []⟩
def e_is_run : He.DefD := ⟨("is_run", none), "is_run", "is_run", defArgs s_is_run, defBody s_is_run, defScope s_is_run, [], []⟩
def e_is_runs : He.DefD := ⟨("is_runs", none), "is_runs", "is_runs", defArgs s_is_runs, defBody s_is_runs, defScope s_is_runs, [], []⟩
def e_is_apart : He.DefD := ⟨("is_apart", none), "is_apart", "is_apart", defArgs s_is_apart, defBody s_is_apart, defScope s_is_apart, [], []⟩
def e_many_in : He.DefD := ⟨("many_in", none), "many_in", "many_in", defArgs s_many_in, defBody s_many_in, defScope s_many_in, [], []⟩
def e_both : He.DefD := ⟨("both", none), "both", "both", defArgs s_both, defBody s_both, defScope s_both, [], []⟩
def e_less : He.DefD := ⟨("less", none), "less", "less", defArgs s_less, defBody s_less, defScope s_less, [], []⟩
def e_what_is_left : He.DefD := ⟨("what_is_left", none), "what_is_left", "what_is_left", defArgs s_what_is_left, defBody s_what_is_left, defScope s_what_is_left, [], []⟩
def e_is_within : He.DefD := ⟨("is_within", none), "is_within", "is_within", defArgs s_is_within, defBody s_is_within, defScope s_is_within, [], []⟩
def e_is_bundling : He.DefD := ⟨("is_bundling", none), "is_bundling", "is_bundling", defArgs s_is_bundling, defBody s_is_bundling, defScope s_is_bundling, [], []⟩
def e_laid : He.DefD := ⟨("laid", none), "laid", "laid", defArgs s_laid, defBody s_laid, defScope s_laid, [], []⟩
def e_lfeed : He.DefD := ⟨("_law_feed", none), "_law_feed", "_law_feed", defArgs s_lfeed, defBody s_lfeed, defScope s_lfeed, [], []⟩
def e_ldraw : He.DefD := ⟨("_law_draw", none), "_law_draw", "_law_draw", defArgs s_ldraw, defBody s_ldraw, defScope s_ldraw, [], []⟩
def e_lnames : He.DefD := ⟨("_law_names", none), "_law_names", "_law_names", defArgs s_lnames, defBody s_lnames, defScope s_lnames, [], []⟩
def e_lhas : He.DefD := ⟨("_law_has", none), "_law_has", "_law_has", defArgs s_lhas, defBody s_lhas, defScope s_lhas, [], []⟩
def e_lmade : He.DefD := ⟨("_law_made", none), "_law_made", "_law_made", defArgs s_lmade, defBody s_lmade, defScope s_lmade, [], []⟩
def e_lis_number : He.DefD := ⟨("_law_is_number", none), "_law_is_number", "_law_is_number", defArgs s_lis_number, defBody s_lis_number, defScope s_lis_number, [], []⟩
def e_lis_word : He.DefD := ⟨("_law_is_word", none), "_law_is_word", "_law_is_word", defArgs s_lis_word, defBody s_lis_word, defScope s_lis_word, [], []⟩
def e_lis_run : He.DefD := ⟨("_law_is_run", none), "_law_is_run", "_law_is_run", defArgs s_lis_run, defBody s_lis_run, defScope s_lis_run, [], []⟩
def e_lis_runs : He.DefD := ⟨("_law_is_runs", none), "_law_is_runs", "_law_is_runs", defArgs s_lis_runs, defBody s_lis_runs, defScope s_lis_runs, [], []⟩
def e_lalike : He.DefD := ⟨("_law_alike", none), "_law_alike", "_law_alike", defArgs s_lalike, defBody s_lalike, defScope s_lalike, [], []⟩
def e_lodd : He.DefD := ⟨("_law_odd", none), "_law_odd", "_law_odd", defArgs s_lodd, defBody s_lodd, defScope s_lodd, [], []⟩
def e_lbent : He.DefD := ⟨("_law_bent", none), "_law_bent", "_law_bent", defArgs s_lbent, defBody s_lbent, defScope s_lbent, [], []⟩
def e_lspoilt : He.DefD := ⟨("_law_spoilt", none), "_law_spoilt", "_law_spoilt", defArgs s_lspoilt, defBody s_lspoilt, defScope s_lspoilt, [], []⟩
def e_lbundling : He.DefD := ⟨("_law_bundling", none), "_law_bundling", "_law_bundling", defArgs s_lbundling, defBody s_lbundling, defScope s_lbundling, [], []⟩
def e_lmany : He.DefD := ⟨("_law_many", none), "_law_many", "_law_many", defArgs s_lmany, defBody s_lmany, defScope s_lmany, [], []⟩
def e_lis_bundling : He.DefD := ⟨("_law_is_bundling", none), "_law_is_bundling", "_law_is_bundling", defArgs s_lis_bundling, defBody s_lis_bundling, defScope s_lis_bundling, [], []⟩
def e_lmenu : He.DefD := ⟨("_law_menu", none), "_law_menu", "_law_menu", defArgs s_lmenu, defBody s_lmenu, defScope s_lmenu, [], []⟩
def e_llaid : He.DefD := ⟨("_law_laid", none), "_law_laid", "_law_laid", defArgs s_llaid, defBody s_llaid, defScope s_llaid, [], []⟩
def e_llot : He.DefD := ⟨("_law_lot", none), "_law_lot", "_law_lot", defArgs s_llot, defBody s_llot, defScope s_llot, [], []⟩
def e_lright : He.DefD := ⟨("_law_right", none), "_law_right", "_law_right", defArgs s_lright, defBody s_lright, defScope s_lright, [], []⟩
def e_law : He.DefD := ⟨("law", none), "law", "law", defArgs s_law, defBody s_law, defScope s_law, [], []⟩
def e_NoStars : He.DefD := ⟨("NoStars", some "__init__"), "__init__", "NoStars.__init__", defArgs s_NoStars, defBody s_NoStars, defScope s_NoStars, [], []⟩
def fn : List He.DefD := [e_is_number, e_is_from_to, e_is_word, e_is_tuple_of, e_is_run, e_is_runs, e_is_apart, e_many_in, e_both, e_less, e_what_is_left, e_is_within, e_is_bundling, e_laid, e_lfeed, e_ldraw, e_lnames, e_lhas, e_lmade, e_lis_number, e_lis_word, e_lis_run, e_lis_runs, e_lalike, e_lodd, e_lbent, e_lspoilt, e_lbundling, e_lmany, e_lis_bundling, e_lmenu, e_llaid, e_llot, e_lright, e_law, e_NoStars]
def fa : List He.Fa := [.glo "is_number", .glo "is_from_to", .glo "is_word", .glo "is_tuple_of", .glo "is_run", .glo "is_runs", .glo "is_apart", .glo "many_in", .glo "both", .glo "less", .glo "what_is_left", .glo "is_within", .glo "is_bundling", .glo "laid", .glo "_law_feed", .glo "_law_draw", .glo "_law_names", .glo "_law_has", .glo "_law_made", .glo "_law_is_number", .glo "_law_is_word", .glo "_law_is_run", .glo "_law_is_runs", .glo "_law_alike", .glo "_law_odd", .glo "_law_bent", .glo "_law_spoilt", .glo "_law_bundling", .glo "_law_many", .glo "_law_is_bundling", .glo "_law_menu", .glo "_law_laid", .glo "_law_lot", .glo "_law_right", .glo "law", .free "len", .free "range", .free "sorted", .free "tuple", .free "list", .free "isinstance", .free "repr", .free "min", .free "max", .free "all", .free "any", .free "zip", .free "int", .free "bool", .free "str", .free "set", .free "sum", .free "ValueError", .glo "NoteError", .glo "NoNumber", .glo "NoStars", .glo "NoRow", .glo "NoPage", .glo "NoPaper", .glo "NoWorld", .glo "NoBack", .glo "NoText", .glo "NoLine", .int "NUMBERS" 1000000000]
abbrev R : PySem.W.OpenRow := PySem.W.OpenLaw.row PySem.Challenge.rw_pressnotes_k12_bundlings_by_kind_and_sta
def tf : List He.Defn := [("is_runs", none), ("is_word", none), ("many_in", none)]
def exB (K : PySem.W.Frag) : Bool := rfB K "NoStars" "many" "NoteError" ["NoNumber", "NoRow", "NoPage", "NoPaper", "NoWorld", "NoBack", "NoText", "NoLine"]
abbrev hk : PySem.W.Hook := He.hookX 6 fa fn [] tf exB
def ob (s : PySem.W.SharedT) : He.AlX := He.obsX 6 fa fn [] tf exB (HandSHeadRun.getT s)
theorem ob_eq (s : PySem.W.SharedT) : ob s = hk.obs s.abs := He.obsX_eq (HandSHeadRun.getT_eq s)
def loose : List Str := [("NoteError" : PySem.Str), ("NoNumber" : PySem.Str), ("NoStars" : PySem.Str), ("NoRow" : PySem.Str), ("NoPage" : PySem.Str), ("NoPaper" : PySem.Str), ("NoWorld" : PySem.Str), ("NoBack" : PySem.Str), ("NoText" : PySem.Str), ("NoLine" : PySem.Str), ("is_number" : PySem.Str), ("is_from_to" : PySem.Str), ("is_word" : PySem.Str), ("is_tuple_of" : PySem.Str), ("is_run" : PySem.Str), ("is_runs" : PySem.Str), ("is_apart" : PySem.Str), ("many_in" : PySem.Str), ("both" : PySem.Str), ("less" : PySem.Str), ("what_is_left" : PySem.Str), ("is_within" : PySem.Str), ("is_bundling" : PySem.Str), ("laid" : PySem.Str), ("_law_feed" : PySem.Str), ("_law_draw" : PySem.Str), ("_law_names" : PySem.Str), ("_law_has" : PySem.Str), ("_law_made" : PySem.Str), ("_law_is_number" : PySem.Str), ("_law_is_word" : PySem.Str), ("_law_is_run" : PySem.Str), ("_law_is_runs" : PySem.Str), ("_law_alike" : PySem.Str), ("_law_odd" : PySem.Str), ("_law_bent" : PySem.Str), ("_law_spoilt" : PySem.Str), ("_law_bundling" : PySem.Str), ("_law_many" : PySem.Str), ("_law_is_bundling" : PySem.Str), ("_law_menu" : PySem.Str), ("_law_laid" : PySem.Str), ("_law_lot" : PySem.Str), ("_law_right" : PySem.Str), ("NUMBERS" : PySem.Str)]
theorem run (w : World) : HandSHeadRun.RunEq R (PySem.W.view R.prog [51]) hk ob 8000 [("NoteError" : PySem.Str), ("NoNumber" : PySem.Str), ("NoStars" : PySem.Str), ("NoRow" : PySem.Str), ("NoPage" : PySem.Str), ("NoPaper" : PySem.Str), ("NoWorld" : PySem.Str), ("NoBack" : PySem.Str), ("NoText" : PySem.Str), ("NoLine" : PySem.Str), ("is_number" : PySem.Str), ("is_from_to" : PySem.Str), ("is_word" : PySem.Str), ("is_tuple_of" : PySem.Str), ("is_run" : PySem.Str), ("is_runs" : PySem.Str), ("is_apart" : PySem.Str), ("many_in" : PySem.Str), ("both" : PySem.Str), ("less" : PySem.Str), ("what_is_left" : PySem.Str), ("is_within" : PySem.Str), ("is_bundling" : PySem.Str), ("laid" : PySem.Str), ("_law_feed" : PySem.Str), ("_law_draw" : PySem.Str), ("_law_names" : PySem.Str), ("_law_has" : PySem.Str), ("_law_made" : PySem.Str), ("_law_is_number" : PySem.Str), ("_law_is_word" : PySem.Str), ("_law_is_run" : PySem.Str), ("_law_is_runs" : PySem.Str), ("_law_alike" : PySem.Str), ("_law_odd" : PySem.Str), ("_law_bent" : PySem.Str), ("_law_spoilt" : PySem.Str), ("_law_bundling" : PySem.Str), ("_law_many" : PySem.Str), ("_law_is_bundling" : PySem.Str), ("_law_menu" : PySem.Str), ("_law_laid" : PySem.Str), ("_law_lot" : PySem.Str), ("_law_right" : PySem.Str), ("NUMBERS" : PySem.Str)] w := by
  intro os
  kernel_rfl
theorem toFun {K : PySem.W.Frag} {x : Str} {st : Stmt} {f : Addr} {fd : FuncData} (F : FunD K x x (defArgs st) (defBody st) (defScope st) [] [] f fd) : Fun K x x st f fd := by
  obtain ⟨oc, od, dV, kV, doc, pm, an, cdv, ct, osl, e, lk, hcd, hd, hk⟩ := F.ex
  have z : dV = .none := by
    rcases hd with h | h
    · exact h.2
    · exact absurd rfl h.1
  subst z
  exact ⟨⟨oc, od, kV, doc, pm, an, cdv, ct, osl, e, lk, hcd⟩, F.kp⟩
theorem toFunQ {K : PySem.W.Frag} {x q : Str} {st : Stmt} {f : Addr} {fd : FuncData} (F : FunD K x q (defArgs st) (defBody st) (defScope st) [] [] f fd) : Fun K x q st f fd := by
  obtain ⟨oc, od, dV, kV, doc, pm, an, cdv, ct, osl, e, lk, hcd, hd, hk⟩ := F.ex
  have z : dV = .none := by
    rcases hd with h | h
    · exact h.2
    · exact absurd rfl h.1
  subst z
  exact ⟨⟨oc, od, kV, doc, pm, an, cdv, ct, osl, e, lk, hcd⟩, F.kp⟩
theorem facts {w : World} {K : PySem.W.Frag} {h : Heap} {mg : Str → Option Value} {f : Addr} (X : K.In h) (G : h.Ns mainGlobals mg) (hfa : mg ("law" : Str) = some (.ref f)) (c : He.SaysD fa fn K) (rf_NoStars : Rf K "NoStars" "many" "NoteError" ["NoNumber", "NoRow", "NoPage", "NoPaper", "NoWorld", "NoBack", "NoText", "NoLine"]) :
    ∃ fd : FuncData, (∀ (s : Shared) (v : Value), BindsTo s fd ⟨[v], []⟩ [("_law_script", v)]) ∧ ∀ base : Heap, K.In base → base.Ns mainGlobals mg → (∀ p ∈ tf.map (He.cT K), GxR.TabB base mg p.1 p.2) → FnG (PySem.Challenge.rw_pressnotes_k12_bundlings_by_kind_and_sta).prog w K mg base 9 f fd ["_law_script"] (spLawT K ((tf.map (He.cT K)).map (·.2))) := by
  obtain ⟨d_is_number, F0_is_number⟩ := c.def_ 0 (d := e_is_number) rfl
  have F_is_number := toFun (st := s_is_number) F0_is_number
  obtain ⟨d_is_from_to, F0_is_from_to⟩ := c.def_ 1 (d := e_is_from_to) rfl
  have F_is_from_to := toFun (st := s_is_from_to) F0_is_from_to
  obtain ⟨d_is_word, F0_is_word⟩ := c.def_ 2 (d := e_is_word) rfl
  have F_is_word := toFun (st := s_is_word) F0_is_word
  obtain ⟨d_is_tuple_of, F0_is_tuple_of⟩ := c.def_ 3 (d := e_is_tuple_of) rfl
  have F_is_tuple_of := toFun (st := s_is_tuple_of) F0_is_tuple_of
  obtain ⟨d_is_run, F0_is_run⟩ := c.def_ 4 (d := e_is_run) rfl
  have F_is_run := toFun (st := s_is_run) F0_is_run
  obtain ⟨d_is_runs, F0_is_runs⟩ := c.def_ 5 (d := e_is_runs) rfl
  have F_is_runs := toFun (st := s_is_runs) F0_is_runs
  obtain ⟨d_is_apart, F0_is_apart⟩ := c.def_ 6 (d := e_is_apart) rfl
  have F_is_apart := toFun (st := s_is_apart) F0_is_apart
  obtain ⟨d_many_in, F0_many_in⟩ := c.def_ 7 (d := e_many_in) rfl
  have F_many_in := toFun (st := s_many_in) F0_many_in
  obtain ⟨d_both, F0_both⟩ := c.def_ 8 (d := e_both) rfl
  have F_both := toFun (st := s_both) F0_both
  obtain ⟨d_less, F0_less⟩ := c.def_ 9 (d := e_less) rfl
  have F_less := toFun (st := s_less) F0_less
  obtain ⟨d_what_is_left, F0_what_is_left⟩ := c.def_ 10 (d := e_what_is_left) rfl
  have F_what_is_left := toFun (st := s_what_is_left) F0_what_is_left
  obtain ⟨d_is_within, F0_is_within⟩ := c.def_ 11 (d := e_is_within) rfl
  have F_is_within := toFun (st := s_is_within) F0_is_within
  obtain ⟨d_is_bundling, F0_is_bundling⟩ := c.def_ 12 (d := e_is_bundling) rfl
  have F_is_bundling := toFun (st := s_is_bundling) F0_is_bundling
  obtain ⟨d_laid, F0_laid⟩ := c.def_ 13 (d := e_laid) rfl
  have F_laid := toFun (st := s_laid) F0_laid
  obtain ⟨d_lfeed, F0_lfeed⟩ := c.def_ 14 (d := e_lfeed) rfl
  have F_lfeed := toFun (st := s_lfeed) F0_lfeed
  obtain ⟨d_ldraw, F0_ldraw⟩ := c.def_ 15 (d := e_ldraw) rfl
  have F_ldraw := toFun (st := s_ldraw) F0_ldraw
  obtain ⟨d_lnames, F0_lnames⟩ := c.def_ 16 (d := e_lnames) rfl
  have F_lnames := toFun (st := s_lnames) F0_lnames
  obtain ⟨d_lhas, F0_lhas⟩ := c.def_ 17 (d := e_lhas) rfl
  have F_lhas := toFun (st := s_lhas) F0_lhas
  obtain ⟨d_lmade, F0_lmade⟩ := c.def_ 18 (d := e_lmade) rfl
  have F_lmade := toFun (st := s_lmade) F0_lmade
  obtain ⟨d_lis_number, F0_lis_number⟩ := c.def_ 19 (d := e_lis_number) rfl
  have F_lis_number := toFun (st := s_lis_number) F0_lis_number
  obtain ⟨d_lis_word, F0_lis_word⟩ := c.def_ 20 (d := e_lis_word) rfl
  have F_lis_word := toFun (st := s_lis_word) F0_lis_word
  obtain ⟨d_lis_run, F0_lis_run⟩ := c.def_ 21 (d := e_lis_run) rfl
  have F_lis_run := toFun (st := s_lis_run) F0_lis_run
  obtain ⟨d_lis_runs, F0_lis_runs⟩ := c.def_ 22 (d := e_lis_runs) rfl
  have F_lis_runs := toFun (st := s_lis_runs) F0_lis_runs
  obtain ⟨d_lalike, F0_lalike⟩ := c.def_ 23 (d := e_lalike) rfl
  have F_lalike := toFun (st := s_lalike) F0_lalike
  obtain ⟨d_lodd, F0_lodd⟩ := c.def_ 24 (d := e_lodd) rfl
  have F_lodd := toFun (st := s_lodd) F0_lodd
  obtain ⟨d_lbent, F0_lbent⟩ := c.def_ 25 (d := e_lbent) rfl
  have F_lbent := toFun (st := s_lbent) F0_lbent
  obtain ⟨d_lspoilt, F0_lspoilt⟩ := c.def_ 26 (d := e_lspoilt) rfl
  have F_lspoilt := toFun (st := s_lspoilt) F0_lspoilt
  obtain ⟨d_lbundling, F0_lbundling⟩ := c.def_ 27 (d := e_lbundling) rfl
  have F_lbundling := toFun (st := s_lbundling) F0_lbundling
  obtain ⟨d_lmany, F0_lmany⟩ := c.def_ 28 (d := e_lmany) rfl
  have F_lmany := toFun (st := s_lmany) F0_lmany
  obtain ⟨d_lis_bundling, F0_lis_bundling⟩ := c.def_ 29 (d := e_lis_bundling) rfl
  have F_lis_bundling := toFun (st := s_lis_bundling) F0_lis_bundling
  obtain ⟨d_lmenu, F0_lmenu⟩ := c.def_ 30 (d := e_lmenu) rfl
  have F_lmenu := toFun (st := s_lmenu) F0_lmenu
  obtain ⟨d_llaid, F0_llaid⟩ := c.def_ 31 (d := e_llaid) rfl
  have F_llaid := toFun (st := s_llaid) F0_llaid
  obtain ⟨d_llot, F0_llot⟩ := c.def_ 32 (d := e_llot) rfl
  have F_llot := toFun (st := s_llot) F0_llot
  obtain ⟨d_lright, F0_lright⟩ := c.def_ 33 (d := e_lright) rfl
  have F_lright := toFun (st := s_lright) F0_lright
  obtain ⟨d_law, F0_law⟩ := c.def_ 34 (d := e_law) rfl
  have F_law := toFun (st := s_law) F0_law
  obtain ⟨d_NoStars, F0_NoStars⟩ := c.def_ 35 (d := e_NoStars) rfl
  have F_NoStars := toFunQ (st := s_NoStars) F0_NoStars
  have b_NoStars := F_NoStars.binds (ps := ["self", "many"]) fun _ _ _ _ _ _ us hl => match us, hl with | [_, _], _ => rfl
  have T : Txt K mg _ _ _ _ _ _ _ _ _ _ _ _ _ _ _ _ _ _ _ _ _ _ _ _ _ _ _ _ _ _ _ _ _ _ _ := ⟨He.glo_ok X G (c.fact 53 (f := .glo "NoteError") rfl), He.glo_ok X G (c.fact 54 (f := .glo "NoNumber") rfl), He.glo_ok X G (c.fact 55 (f := .glo "NoStars") rfl), He.glo_ok X G (c.fact 56 (f := .glo "NoRow") rfl), He.glo_ok X G (c.fact 57 (f := .glo "NoPage") rfl), He.glo_ok X G (c.fact 58 (f := .glo "NoPaper") rfl), He.glo_ok X G (c.fact 59 (f := .glo "NoWorld") rfl), He.glo_ok X G (c.fact 60 (f := .glo "NoBack") rfl), He.glo_ok X G (c.fact 61 (f := .glo "NoText") rfl), He.glo_ok X G (c.fact 62 (f := .glo "NoLine") rfl), rf_NoStars, He.glo_ok X G (c.fact 0 (f := .glo "is_number") rfl), He.glo_ok X G (c.fact 1 (f := .glo "is_from_to") rfl), He.glo_ok X G (c.fact 2 (f := .glo "is_word") rfl), He.glo_ok X G (c.fact 3 (f := .glo "is_tuple_of") rfl), He.glo_ok X G (c.fact 4 (f := .glo "is_run") rfl), He.glo_ok X G (c.fact 5 (f := .glo "is_runs") rfl), He.glo_ok X G (c.fact 6 (f := .glo "is_apart") rfl), He.glo_ok X G (c.fact 7 (f := .glo "many_in") rfl), He.glo_ok X G (c.fact 8 (f := .glo "both") rfl), He.glo_ok X G (c.fact 9 (f := .glo "less") rfl), He.glo_ok X G (c.fact 10 (f := .glo "what_is_left") rfl), He.glo_ok X G (c.fact 11 (f := .glo "is_within") rfl), He.glo_ok X G (c.fact 12 (f := .glo "is_bundling") rfl), He.glo_ok X G (c.fact 13 (f := .glo "laid") rfl), He.glo_ok X G (c.fact 14 (f := .glo "_law_feed") rfl), He.glo_ok X G (c.fact 15 (f := .glo "_law_draw") rfl), He.glo_ok X G (c.fact 16 (f := .glo "_law_names") rfl), He.glo_ok X G (c.fact 17 (f := .glo "_law_has") rfl), He.glo_ok X G (c.fact 18 (f := .glo "_law_made") rfl), He.glo_ok X G (c.fact 19 (f := .glo "_law_is_number") rfl), He.glo_ok X G (c.fact 20 (f := .glo "_law_is_word") rfl), He.glo_ok X G (c.fact 21 (f := .glo "_law_is_run") rfl), He.glo_ok X G (c.fact 22 (f := .glo "_law_is_runs") rfl), He.glo_ok X G (c.fact 23 (f := .glo "_law_alike") rfl), He.glo_ok X G (c.fact 24 (f := .glo "_law_odd") rfl), He.glo_ok X G (c.fact 25 (f := .glo "_law_bent") rfl), He.glo_ok X G (c.fact 26 (f := .glo "_law_spoilt") rfl), He.glo_ok X G (c.fact 27 (f := .glo "_law_bundling") rfl), He.glo_ok X G (c.fact 28 (f := .glo "_law_many") rfl), He.glo_ok X G (c.fact 29 (f := .glo "_law_is_bundling") rfl), He.glo_ok X G (c.fact 30 (f := .glo "_law_menu") rfl), He.glo_ok X G (c.fact 31 (f := .glo "_law_laid") rfl), He.glo_ok X G (c.fact 32 (f := .glo "_law_lot") rfl), He.glo_ok X G (c.fact 33 (f := .glo "_law_right") rfl), He.glo_ok X G (c.fact 34 (f := .glo "law") rfl), He.free_ok X G (c.fact 35 (f := .free "len") rfl), He.free_ok X G (c.fact 36 (f := .free "range") rfl), He.free_ok X G (c.fact 37 (f := .free "sorted") rfl), He.free_ok X G (c.fact 38 (f := .free "tuple") rfl), He.free_ok X G (c.fact 39 (f := .free "list") rfl), He.free_ok X G (c.fact 40 (f := .free "isinstance") rfl), He.free_ok X G (c.fact 41 (f := .free "repr") rfl), He.free_ok X G (c.fact 42 (f := .free "min") rfl), He.free_ok X G (c.fact 43 (f := .free "max") rfl), He.free_ok X G (c.fact 44 (f := .free "all") rfl), He.free_ok X G (c.fact 45 (f := .free "any") rfl), He.free_ok X G (c.fact 46 (f := .free "zip") rfl), He.free_ok X G (c.fact 47 (f := .free "int") rfl), He.free_ok X G (c.fact 48 (f := .free "bool") rfl), He.free_ok X G (c.fact 49 (f := .free "str") rfl), He.free_ok X G (c.fact 50 (f := .free "set") rfl), He.free_ok X G (c.fact 51 (f := .free "sum") rfl), He.free_ok X G (c.fact 52 (f := .free "ValueError") rfl), He.int_ok X G (c.fact 63 (f := .int "NUMBERS" 1000000000) rfl)⟩
  have el := hfa.symm.trans T.m_law
  cases el
  have b_is_number := F_is_number.binds (ps := ["thing"]) fun _ _ _ _ _ _ us hl => match us, hl with | [_], _ => rfl
  have b_is_from_to := F_is_from_to.binds (ps := ["thing", "least", "most"]) fun _ _ _ _ _ _ us hl => match us, hl with | [_, _, _], _ => rfl
  have b_is_word := F_is_word.binds (ps := ["thing"]) fun _ _ _ _ _ _ us hl => match us, hl with | [_], _ => rfl
  have b_is_tuple_of := F_is_tuple_of.binds (ps := ["thing", "many"]) fun _ _ _ _ _ _ us hl => match us, hl with | [_, _], _ => rfl
  have b_is_run := F_is_run.binds (ps := ["thing"]) fun _ _ _ _ _ _ us hl => match us, hl with | [_], _ => rfl
  have b_is_runs := F_is_runs.binds (ps := ["thing"]) fun _ _ _ _ _ _ us hl => match us, hl with | [_], _ => rfl
  have b_is_apart := F_is_apart.binds (ps := ["run", "later"]) fun _ _ _ _ _ _ us hl => match us, hl with | [_, _], _ => rfl
  have b_many_in := F_many_in.binds (ps := ["runs"]) fun _ _ _ _ _ _ us hl => match us, hl with | [_], _ => rfl
  have b_both := F_both.binds (ps := ["one", "other"]) fun _ _ _ _ _ _ us hl => match us, hl with | [_, _], _ => rfl
  have b_less := F_less.binds (ps := ["one", "other"]) fun _ _ _ _ _ _ us hl => match us, hl with | [_, _], _ => rfl
  have b_what_is_left := F_what_is_left.binds (ps := ["run", "other", "at"]) fun _ _ _ _ _ _ us hl => match us, hl with | [_, _, _], _ => rfl
  have b_is_within := F_is_within.binds (ps := ["one", "other"]) fun _ _ _ _ _ _ us hl => match us, hl with | [_, _], _ => rfl
  have b_is_bundling := F_is_bundling.binds (ps := ["thing"]) fun _ _ _ _ _ _ us hl => match us, hl with | [_], _ => rfl
  have b_laid := F_laid.binds (ps := ["run", "size", "spoilt", "stars"]) fun _ _ _ _ _ _ us hl => match us, hl with | [_, _, _, _], _ => rfl
  have b_lfeed := F_lfeed.binds (ps := ["_law_script"]) fun _ _ _ _ _ _ us hl => match us, hl with | [_], _ => rfl
  have b_ldraw := F_ldraw.binds (ps := ["_law_feed_here", "_law_many_here"]) fun _ _ _ _ _ _ us hl => match us, hl with | [_, _], _ => rfl
  have b_lnames := F_lnames.binds (ps := ["_law_feed_here"]) fun _ _ _ _ _ _ us hl => match us, hl with | [_], _ => rfl
  have b_lhas := F_lhas.binds (ps := ["_law_runs", "_law_series", "_law_number"]) fun _ _ _ _ _ _ us hl => match us, hl with | [_, _, _], _ => rfl
  have b_lmade := F_lmade.binds (ps := ["_law_lots", "_law_rule"]) fun _ _ _ _ _ _ us hl => match us, hl with | [_, _], _ => rfl
  have b_lis_number := F_lis_number.binds (ps := ["_law_thing", "_law_least", "_law_most"]) fun _ _ _ _ _ _ us hl => match us, hl with | [_, _, _], _ => rfl
  have b_lis_word := F_lis_word.binds (ps := ["_law_thing"]) fun _ _ _ _ _ _ us hl => match us, hl with | [_], _ => rfl
  have b_lis_run := F_lis_run.binds (ps := ["_law_thing"]) fun _ _ _ _ _ _ us hl => match us, hl with | [_], _ => rfl
  have b_lis_runs := F_lis_runs.binds (ps := ["_law_thing"]) fun _ _ _ _ _ _ us hl => match us, hl with | [_], _ => rfl
  have b_lalike := F_lalike.binds (ps := ["_law_found", "_law_due"]) fun _ _ _ _ _ _ us hl => match us, hl with | [_, _], _ => rfl
  have b_lodd := F_lodd.binds (ps := ["_law_feed_here", "_law_thing"]) fun _ _ _ _ _ _ us hl => match us, hl with | [_, _], _ => rfl
  have b_lbent := F_lbent.binds (ps := ["_law_feed_here", "_law_thing"]) fun _ _ _ _ _ _ us hl => match us, hl with | [_, _], _ => rfl
  have b_lspoilt := F_lspoilt.binds (ps := ["_law_feed_here", "_law_run", "_law_most"]) fun _ _ _ _ _ _ us hl => match us, hl with | [_, _, _], _ => rfl
  have b_lbundling := F_lbundling.binds (ps := ["_law_feed_here", "_law_names_here", "_law_small"]) fun _ _ _ _ _ _ us hl => match us, hl with | [_, _, _], _ => rfl
  have b_lmany := F_lmany.binds (ps := ["_law_runs"]) fun _ _ _ _ _ _ us hl => match us, hl with | [_], _ => rfl
  have b_lis_bundling := F_lis_bundling.binds (ps := ["_law_thing"]) fun _ _ _ _ _ _ us hl => match us, hl with | [_], _ => rfl
  have b_lmenu := F_lmenu.binds (ps := ["_law_bundling_here"]) fun _ _ _ _ _ _ us hl => match us, hl with | [_], _ => rfl
  have b_llaid := F_llaid.binds (ps := ["_law_run", "_law_size", "_law_spoilt_here", "_law_stars"]) fun _ _ _ _ _ _ us hl => match us, hl with | [_, _, _, _], _ => rfl
  have b_llot := F_llot.binds (ps := ["_law_feed_here", "_law_bundling_here", "_law_names_here"]) fun _ _ _ _ _ _ us hl => match us, hl with | [_, _, _], _ => rfl
  have b_lright := F_lright.binds (ps := ["_law_feed_here", "_law_bundling_here", "_law_names_here"]) fun _ _ _ _ _ _ us hl => match us, hl with | [_, _, _], _ => rfl
  have b_law := F_law.binds (ps := ["_law_script"]) fun _ _ _ _ _ _ us hl => match us, hl with | [_], _ => rfl
  refine ⟨d_law, fun s v => FunD.bindsA (ps := ["_law_script"]) F0_law (fun _ _ _ _ _ _ us hl => match us, hl with | [_], _ => rfl) s [v] rfl, fun base _ _ TBs => ?_⟩
  have hc_is_runs := code_of (p := ("is_runs", none)) F0_is_runs
  have TB_is_runs := TBs (He.cT K ("is_runs", none)) (List.mem_map.mpr ⟨_, by simp [tf], rfl⟩)
  have hc_is_word := code_of (p := ("is_word", none)) F0_is_word
  have TB_is_word := TBs (He.cT K ("is_word", none)) (List.mem_map.mpr ⟨_, by simp [tf], rfl⟩)
  have hc_many_in := code_of (p := ("many_in", none)) F0_many_in
  have TB_many_in := TBs (He.cT K ("many_in", none)) (List.mem_map.mpr ⟨_, by simp [tf], rfl⟩)
  have G_NoStars : FnOk (PySem.Challenge.rw_pressnotes_k12_bundlings_by_kind_and_sta).prog w K mg base CX0 1 _ _ _ (spIn (He.ga K "NoStars") "many") := init_ok F_NoStars sc_NoStars rfl rf_NoStars.o rf_NoStars.no (fun X h1 h2 h3 => pss_one (ps_ost (pv 0 (by rw [h1]; rfl) (by rw [h3]; exact Or.inl rfl)) (pv 1 (by rw [h1]; rfl) (by rw [h3]; exact Or.inl rfl)))) rfl
  have G_is_number : FnOk (PySem.Challenge.rw_pressnotes_k12_bundlings_by_kind_and_sta).prog w K mg base CX0 1 _ _ _ _ := ok_is_number F_is_number T
  have G_is_from_to : FnOk (PySem.Challenge.rw_pressnotes_k12_bundlings_by_kind_and_sta).prog w K mg base CX0 2 _ _ _ _ := ok_is_from_to F_is_from_to T F_is_number b_is_number (G_is_number.mono (by decide))
  have G_is_word : FnOk (PySem.Challenge.rw_pressnotes_k12_bundlings_by_kind_and_sta).prog w K mg base CX0 2 _ _ _ _ := ok_is_word F_is_word T hc_is_word TB_is_word
  have G_is_tuple_of : FnOk (PySem.Challenge.rw_pressnotes_k12_bundlings_by_kind_and_sta).prog w K mg base CX0 1 _ _ _ _ := ok_is_tuple_of F_is_tuple_of T
  have G_is_run : FnOk (PySem.Challenge.rw_pressnotes_k12_bundlings_by_kind_and_sta).prog w K mg base CX0 4 _ _ _ _ := ok_is_run F_is_run T F_is_tuple_of b_is_tuple_of (G_is_tuple_of.mono (by decide)) F_is_word b_is_word (G_is_word.mono (by decide)) F_is_from_to b_is_from_to (G_is_from_to.mono (by decide))
  have G_is_apart : FnOk (PySem.Challenge.rw_pressnotes_k12_bundlings_by_kind_and_sta).prog w K mg base CX0 1 _ _ _ _ := ok_is_apart F_is_apart T
  have G_is_runs : FnOk (PySem.Challenge.rw_pressnotes_k12_bundlings_by_kind_and_sta).prog w K mg base CX0 6 _ _ _ _ := ok_is_runs F_is_runs T F_is_run b_is_run (G_is_run.mono (by decide)) F_is_apart b_is_apart (G_is_apart.mono (by decide)) hc_is_runs TB_is_runs
  have G_many_in : FnOk (PySem.Challenge.rw_pressnotes_k12_bundlings_by_kind_and_sta).prog w K mg base CX0 2 _ _ _ _ := ok_many_in F_many_in T hc_many_in TB_many_in
  have G_both : FnOk (PySem.Challenge.rw_pressnotes_k12_bundlings_by_kind_and_sta).prog w K mg base CX0 1 _ _ _ _ := ok_both F_both T
  have G_what_is_left : FnOk (PySem.Challenge.rw_pressnotes_k12_bundlings_by_kind_and_sta).prog w K mg base CX0 1 _ _ _ _ := ok_what_is_left F_what_is_left T
  have G_less : FnOk (PySem.Challenge.rw_pressnotes_k12_bundlings_by_kind_and_sta).prog w K mg base CX0 2 _ _ _ _ := ok_less F_less T F_what_is_left b_what_is_left (G_what_is_left.mono (by decide))
  have G_is_within : FnOk (PySem.Challenge.rw_pressnotes_k12_bundlings_by_kind_and_sta).prog w K mg base CX0 3 _ _ _ _ := ok_is_within F_is_within T F_less b_less (G_less.mono (by decide))
  have G_is_bundling : FnOk (PySem.Challenge.rw_pressnotes_k12_bundlings_by_kind_and_sta).prog w K mg base CX0 7 _ _ _ _ := ok_is_bundling F_is_bundling T F_is_tuple_of b_is_tuple_of (G_is_tuple_of.mono (by decide)) F_is_run b_is_run (G_is_run.mono (by decide)) F_is_from_to b_is_from_to (G_is_from_to.mono (by decide)) F_is_runs b_is_runs (G_is_runs.mono (by decide)) F_is_within b_is_within (G_is_within.mono (by decide)) F_many_in b_many_in (G_many_in.mono (by decide))
  have G_laid : FnOk (PySem.Challenge.rw_pressnotes_k12_bundlings_by_kind_and_sta).prog w K mg base (L2.CX _ w) 3 _ _ _ _ := ok_laid F_laid T F_both b_both (G_both.mono (by decide)) F_many_in b_many_in (G_many_in.mono (by decide)) G_NoStars b_NoStars
  have G_lfeed : FnOk (PySem.Challenge.rw_pressnotes_k12_bundlings_by_kind_and_sta).prog w K mg base CX0 1 _ _ _ _ := ok_lfeed F_lfeed T
  have G_ldraw : FnOk (PySem.Challenge.rw_pressnotes_k12_bundlings_by_kind_and_sta).prog w K mg base CX0 1 _ _ _ _ := ok_ldraw F_ldraw T
  have G_lnames : FnOk (PySem.Challenge.rw_pressnotes_k12_bundlings_by_kind_and_sta).prog w K mg base CX0 2 _ _ _ _ := ok_lnames F_lnames T F_ldraw b_ldraw (G_ldraw.mono (by decide))
  have G_lhas : FnOk (PySem.Challenge.rw_pressnotes_k12_bundlings_by_kind_and_sta).prog w K mg base CX0 1 _ _ _ _ := ok_lhas F_lhas T
  have G_lmade : FnOk (PySem.Challenge.rw_pressnotes_k12_bundlings_by_kind_and_sta).prog w K mg base CX0 2 _ _ _ _ := ok_lmade F_lmade T F_lhas b_lhas (G_lhas.mono (by decide))
  have G_lmadeA : FnOk (PySem.Challenge.rw_pressnotes_k12_bundlings_by_kind_and_sta).prog w K mg base CX0 2 _ _ _ (spMadeA K) := ok_lmadeA F_lmade T F_lhas b_lhas (G_lhas.mono (by decide))
  have G_lis_number : FnOk (PySem.Challenge.rw_pressnotes_k12_bundlings_by_kind_and_sta).prog w K mg base CX0 1 _ _ _ _ := ok_lis_number F_lis_number T
  have G_lis_word : ∀ P : Addr, FnOk (PySem.Challenge.rw_pressnotes_k12_bundlings_by_kind_and_sta).prog w K mg base CX0 1 _ _ _ (spKWord P) := fun (P : Addr) => ok_lis_word (P_is_word := P) F_lis_word T
  have G_lis_run : ∀ P : Addr, FnOk (PySem.Challenge.rw_pressnotes_k12_bundlings_by_kind_and_sta).prog w K mg base CX0 2 _ _ _ (spKRun P) := fun (P : Addr) => ok_lis_run (P_is_word := P) F_lis_run T F_lis_word b_lis_word (G_lis_word P) F_lis_number b_lis_number (G_lis_number.mono (by decide))
  have G_lis_runs : ∀ P R : Addr, FnOk (PySem.Challenge.rw_pressnotes_k12_bundlings_by_kind_and_sta).prog w K mg base CX0 3 _ _ _ (spKRuns R P) := fun (P R : Addr) => ok_lis_runs (P_is_word := P) (P_is_runs := R) F_lis_runs T F_lis_run b_lis_run (G_lis_run P)
  have A1 : FnOk (PySem.Challenge.rw_pressnotes_k12_bundlings_by_kind_and_sta).prog w K mg base CX0 2 _ _ _ (spAlike K 1) := ok_lalike F_lalike T F_lalike b_lalike alike_none
  have A2 : FnOk (PySem.Challenge.rw_pressnotes_k12_bundlings_by_kind_and_sta).prog w K mg base CX0 3 _ _ _ (spAlike K 2) := ok_lalike F_lalike T F_lalike b_lalike A1
  have A3 : FnOk (PySem.Challenge.rw_pressnotes_k12_bundlings_by_kind_and_sta).prog w K mg base CX0 4 _ _ _ (spAlike K 3) := ok_lalike F_lalike T F_lalike b_lalike A2
  have A4 : FnOk (PySem.Challenge.rw_pressnotes_k12_bundlings_by_kind_and_sta).prog w K mg base CX0 5 _ _ _ (spAlike K 4) := ok_lalike F_lalike T F_lalike b_lalike A3
  have G_lalike : FnOk (PySem.Challenge.rw_pressnotes_k12_bundlings_by_kind_and_sta).prog w K mg base CX0 6 _ _ _ (spAlike K 5) := ok_lalike F_lalike T F_lalike b_lalike A4
  have G_lodd : FnOk (PySem.Challenge.rw_pressnotes_k12_bundlings_by_kind_and_sta).prog w K mg base CX0 2 _ _ _ _ := ok_lodd F_lodd T F_ldraw b_ldraw (G_ldraw.mono (by decide))
  have B1 : FnOk (PySem.Challenge.rw_pressnotes_k12_bundlings_by_kind_and_sta).prog w K mg base CX0 3 _ _ _ (spBentK 1) := ok_lbent F_lbent T F_ldraw b_ldraw (G_ldraw.mono (by decide)) F_lodd b_lodd (G_lodd.mono (by decide)) F_lbent b_lbent bent_none
  have B2 : FnOk (PySem.Challenge.rw_pressnotes_k12_bundlings_by_kind_and_sta).prog w K mg base CX0 4 _ _ _ (spBentK 2) := ok_lbent F_lbent T F_ldraw b_ldraw (G_ldraw.mono (by decide)) F_lodd b_lodd (G_lodd.mono (by decide)) F_lbent b_lbent B1
  have B3 : FnOk (PySem.Challenge.rw_pressnotes_k12_bundlings_by_kind_and_sta).prog w K mg base CX0 5 _ _ _ (spBentK 3) := ok_lbent F_lbent T F_ldraw b_ldraw (G_ldraw.mono (by decide)) F_lodd b_lodd (G_lodd.mono (by decide)) F_lbent b_lbent B2
  have B4 : FnOk (PySem.Challenge.rw_pressnotes_k12_bundlings_by_kind_and_sta).prog w K mg base CX0 6 _ _ _ (spBentK 4) := ok_lbent F_lbent T F_ldraw b_ldraw (G_ldraw.mono (by decide)) F_lodd b_lodd (G_lodd.mono (by decide)) F_lbent b_lbent B3
  have G_lbent : FnOk (PySem.Challenge.rw_pressnotes_k12_bundlings_by_kind_and_sta).prog w K mg base CX0 7 _ _ _ (spBentK 5) := ok_lbent F_lbent T F_ldraw b_ldraw (G_ldraw.mono (by decide)) F_lodd b_lodd (G_lodd.mono (by decide)) F_lbent b_lbent B4
  have G_lspoilt : FnOk (PySem.Challenge.rw_pressnotes_k12_bundlings_by_kind_and_sta).prog w K mg base CX0 3 _ _ _ _ := ok_lspoilt F_lspoilt T F_ldraw b_ldraw (G_ldraw.mono (by decide)) F_lmade b_lmade (G_lmade.mono (by decide))
  have G_lbundling : FnOk (PySem.Challenge.rw_pressnotes_k12_bundlings_by_kind_and_sta).prog w K mg base CX0 4 _ _ _ _ := ok_lbundling F_lbundling T F_ldraw b_ldraw (G_ldraw.mono (by decide)) F_lspoilt b_lspoilt (G_lspoilt.mono (by decide))
  have G_lmany : FnOk (PySem.Challenge.rw_pressnotes_k12_bundlings_by_kind_and_sta).prog w K mg base CX0 1 _ _ _ _ := ok_lmany F_lmany T
  have G_lis_bundling : ∀ P1 P2 P3 : Addr, FnOk (PySem.Challenge.rw_pressnotes_k12_bundlings_by_kind_and_sta).prog w K mg base CX0 7 _ _ _ (spKBund P1 P2 P3) := fun (P1 P2 P3 : Addr) => ok_lis_bundling (P_is_runs := P1) (P_is_word := P2) (P_many_in := P3) F_lis_bundling T F_lis_run b_lis_run ((G_lis_run _).mono (by decide)) F_lis_number b_lis_number (G_lis_number.mono (by decide)) F_lis_runs b_lis_runs ((G_lis_runs _ _).mono (by decide)) F_lmany b_lmany (G_lmany.mono (by decide))
  have G_lmenu : FnOk (PySem.Challenge.rw_pressnotes_k12_bundlings_by_kind_and_sta).prog w K mg base CX0 2 _ _ _ _ := ok_lmenu F_lmenu T F_lmany b_lmany (G_lmany.mono (by decide))
  have G_llaid : FnOk (PySem.Challenge.rw_pressnotes_k12_bundlings_by_kind_and_sta).prog w K mg base CX0 4 _ _ _ _ := ok_llaid F_llaid T F_laid b_laid (G_laid.mono (by decide))
  have G_llot : FnOk (PySem.Challenge.rw_pressnotes_k12_bundlings_by_kind_and_sta).prog w K mg base CX0 3 _ _ _ _ := ok_llot F_llot T F_ldraw b_ldraw (G_ldraw.mono (by decide)) F_lmade b_lmade (G_lmade.mono (by decide))
  have G_lright : FnG (PySem.Challenge.rw_pressnotes_k12_bundlings_by_kind_and_sta).prog w K mg base 7 _ _ _ _ := ok_lright F_lright T F_llot b_llot (G_llot.mono (by decide)) F_lmade b_lmade (G_lmadeA.mono (by decide)) F_lmany b_lmany (G_lmany.mono (by decide)) F_ldraw b_ldraw (G_ldraw.mono (by decide)) F_llaid b_llaid (G_llaid.mono (by decide)) F_lalike b_lalike (G_lalike.mono (by decide))
  exact ok_law F_law T F_lfeed b_lfeed (G_lfeed.mono (by decide)) F_lnames b_lnames (G_lnames.mono (by decide)) F_lbundling b_lbundling (G_lbundling.mono (by decide)) F_lmenu b_lmenu (G_lmenu.mono (by decide)) F_lbent b_lbent (G_lbent.mono (by decide)) F_is_bundling b_is_bundling (G_is_bundling.mono (by decide)) F_lis_bundling b_lis_bundling ((G_lis_bundling _ _ _).mono (by decide)) F_lright b_lright (G_lright.mono (by decide))

end Pn
open PySem PySem.W PySem.Calls PyProof.Rows
set_option maxRecDepth 100000 in
set_option maxHeartbeats 0 in
theorem PySem.Challenge.cw_pressnotes_k12_bundlings_by_kind_and_sta_holds : PySem.Challenge.rw_pressnotes_k12_bundlings_by_kind_and_sta.Holds := by
  w_on; o_law
  refine HandSHeadRun.head_any (r := OpenLaw.row PySem.Challenge.rw_pressnotes_k12_bundlings_by_kind_and_sta) (q := view (OpenLaw.row PySem.Challenge.rw_pressnotes_k12_bundlings_by_kind_and_sta).prog [51]) (H := Pn.hk) (ob := Pn.ob) (M := 8000) (loose := [("NoteError" : PySem.Str), ("NoNumber" : PySem.Str), ("NoStars" : PySem.Str), ("NoRow" : PySem.Str), ("NoPage" : PySem.Str), ("NoPaper" : PySem.Str), ("NoWorld" : PySem.Str), ("NoBack" : PySem.Str), ("NoText" : PySem.Str), ("NoLine" : PySem.Str), ("is_number" : PySem.Str), ("is_from_to" : PySem.Str), ("is_word" : PySem.Str), ("is_tuple_of" : PySem.Str), ("is_run" : PySem.Str), ("is_runs" : PySem.Str), ("is_apart" : PySem.Str), ("many_in" : PySem.Str), ("both" : PySem.Str), ("less" : PySem.Str), ("what_is_left" : PySem.Str), ("is_within" : PySem.Str), ("is_bundling" : PySem.Str), ("laid" : PySem.Str), ("_law_feed" : PySem.Str), ("_law_draw" : PySem.Str), ("_law_names" : PySem.Str), ("_law_has" : PySem.Str), ("_law_made" : PySem.Str), ("_law_is_number" : PySem.Str), ("_law_is_word" : PySem.Str), ("_law_is_run" : PySem.Str), ("_law_is_runs" : PySem.Str), ("_law_alike" : PySem.Str), ("_law_odd" : PySem.Str), ("_law_bent" : PySem.Str), ("_law_spoilt" : PySem.Str), ("_law_bundling" : PySem.Str), ("_law_many" : PySem.Str), ("_law_is_bundling" : PySem.Str), ("_law_menu" : PySem.Str), ("_law_laid" : PySem.Str), ("_law_lot" : PySem.Str), ("_law_right" : PySem.Str), ("NUMBERS" : PySem.Str)]) (d := HandSHeadRun.topDef (OpenLaw.row PySem.Challenge.rw_pressnotes_k12_bundlings_by_kind_and_sta).prog 51) (kwd := []) Pn.ob_eq
    (by kernel_rfl) (fun s => by kernel_rfl) Pn.run (by kernel_rfl) (by kernel_rfl) (by kernel_rfl) (by rfl) (by first | assumption | decide +kernel) (by decide +kernel) ⟨rfl, rfl, rfl, rfl, rfl, by decide +kernel⟩ ?hw ?hc
  case hw => w_witness2
  case hc =>
    refine Pn.walkGT (l := PySem.Challenge.rw_pressnotes_k12_bundlings_by_kind_and_sta) (n := 63) (k := 9) (x := "_law_script") (sp := Pn.spLawT) rfl (by decide) (by kernel_rfl) ⟨rfl, by decide, by decide⟩ ?F (fun K ts H a ns hl sq tt => ⟨a, ns, rfl, sq, tt, fun _ h => ⟨rfl, h⟩⟩)
    intro w mg fa h Y G hmg0
    obtain ⟨K, KX, c⟩ := Y
    have hmg : mg ("law" : PySem.Str) = some (.ref fa) := by
      have e : (HandSHeadRun.topDef (OpenLaw.row PySem.Challenge.rw_pressnotes_k12_bundlings_by_kind_and_sta).prog 51).name = ("law" : PySem.Str) := by kernel_rfl
      rw [← e]
      exact hmg0
    obtain ⟨fd, hb, hF⟩ := Pn.facts (w := w) KX G hmg c.t.d (Pn.rfB_ok c.more)
    refine ⟨K, fd, Pn.tf.map (He.cT K), KX, fun p hp => ?_, fun p hp => ?_, fun p hp => ?_, hb, hF⟩
    · obtain ⟨d, hd, rfl⟩ := List.mem_map.mp hp
      exact c.empty d hd
    · obtain ⟨d, hd, rfl⟩ := List.mem_map.mp hp
      exact c.out d hd
    · obtain ⟨d, hd, rfl⟩ := List.mem_map.mp hp
      exact PySem.W.codeHd_of_K KX (c.hd d hd)
