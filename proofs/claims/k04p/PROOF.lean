import PyProof.Rows.All
import Wide.All
import OpenK.AllK
import Wide.FinOn
import HandS.ForMost
import HandS.Wide
import HandS.Conv
import HandS.Flow
import HandS.Steps
import HandS.FStr
import HandS.Defaults
import HandS.MakeKwOnly
import HandS.Star
import HandS.Property
import HandS.IsInst
import HandS.Codes
import HandS.Exc
import HandS.ExcInit
import HandS.WordsExc
import KE.KExcSuper
import HandS.ExcOwn
import HandS.ExcField
import HandS.ExcIs
import KE.KExcIs
import KE.SortData
import KE.GoesEnum
import HandS.Walk
import HandS.TupAny
import HandS.Lambda
import HandS.SortKw
import KE.SortKeyHeap
import KE.KSortKey
import KE.DataCmp
import HandS.ClsMeth
import HandS.MethStar
import HandS.WrittenGet
import HandS.Style
import HandS.HeadHook1
import HandS.HeadHook2
import HandS.HeadNt
import HandS.Head0
import HandS.Head1
import HandS.Head2
import HandS.HeadHook3
import HandS.HeadHook4
import HandS.HeadWalk
import HandS.DictComp
import HandS.WideBits
import KE.KSortTup
import HandS.RaiseMore
import HandS.MakeKw
import PySem.Challenge.RW_ordersopen_k04_nodes_and_paths
set_option Elab.async false
set_option linter.all false
set_option maxRecDepth 100000
set_option maxHeartbeats 0
namespace Oo
open PySem L2
def top (i : Nat) : Stmt := PySem.Challenge.pw_ordersopen_k04_nodes_and_paths.main.body.getD i (.Pass ⟨0, 0, 0, 0⟩)
abbrev sBag : Stmt := top 61
abbrev sTake : Stmt := top 62
abbrev sOf : Stmt := top 63
abbrev sSome : Stmt := top 64
/-! ### the bag of draws -/
/-- at a stands a bag from which at most n draws were made -/
def BagAt (H : Hp) (a : Addr) (n : Nat) : Prop := ∃ d x c : Int, H a = some (.lst [.int d, .int x, .int c]) ∧ 0 ≤ d ∧ 0 ≤ x ∧ x < 2 ^ 61 ∧ 0 ≤ c ∧ c ≤ (n : Int)
/-- all but what stands at a is as it was -/
def Kp (a : Addr) (H H' : Hp) : Prop := ∀ b o, b ≠ a → H b = some o → H' b = some o
theorem Kp.refl (a : Addr) (H : Hp) : Kp a H H := fun _ _ _ h => h
theorem Kp.trans {a : Addr} {H H1 H2 : Hp} (x : Kp a H H1) (y : Kp a H1 H2) : Kp a H H2 := fun b o n h => y b o n (x b o n h)
theorem Kp.upd {a : Addr} {H : Hp} (o : HO) : Kp a H (upd H a o) := fun b u n h => by rw [upd_ne n]; exact h
theorem Kp.new {a p : Addr} {H : Hp} {o : HO} (h : H p = none) : Kp a H (L2.upd H p o) := fun b u n e => by rw [upd_ne (ne_of_none e h)]; exact e
theorem BagAt.mono {H : Hp} {a : Addr} {n m : Nat} (b : BagAt H a n) (h : n ≤ m) : BagAt H a m := by
  obtain ⟨d, x, c, e, h1, h2, h3, h4, h5⟩ := b
  exact ⟨d, x, c, e, h1, h2, h3, h4, by omega⟩
theorem BagAt.new {H : Hp} {a p : Addr} {o : HO} {n : Nat} (b : BagAt H a n) (h : H p = none) : BagAt (upd H p o) a n := by
  obtain ⟨d, x, c, e, r⟩ := b
  exact ⟨d, x, c, by rw [upd_ne (ne_of_none e h)]; exact e, r⟩
def spTake : Sp := fun vs H Q _ => ∃ (a : Addr) (m : Int) (n : Nat), vs = [.ref a, .int m] ∧ BagAt H a n ∧ n < 1000000 ∧ 0 < m ∧ m < 1073741824 ∧
  ∀ (r : Int) (H' : Hp), 0 ≤ r → r < m → BagAt H' a (n + 1) → Kp a H H' → Q (.int r) H'
section
variable {P : Program} {w : World} {K : PySem.W.Frag} {mg : Str → Option Value} {base : Heap}
theorem scTake : FnScope ["_law_bag_here", "_law_many", "_law_digit", "_law_mixed"] ["_law_bag_here", "_law_many"] (defScope sTake) := ⟨rfl, rfl, rfl, by decide +kernel, rfl, by decide +kernel, by decide +kernel⟩
theorem ok_take {f : Addr} {fd : FuncData} (F : Fun K "_law_take" "_law_take" sTake f fd) (mi : mg "int" = none) : FnOk P w K mg base CX0 1 f fd ["_law_bag_here", "_law_many"] spTake := by
  refine F.ok scTake (fun vs H Q E h => ?_) (fun cdv A outer s H vs Q E hr h => ?_)
  · obtain ⟨a, m, n, rfl, _⟩ := h
    rfl
  obtain ⟨a, m, n, rfl, ⟨d, x, c, e, hd, hx0, hx1, hc0, hc1⟩, hn, hm0, hm1, k⟩ := h
  refine ⟨_, pss_cons (ps_if (pt_cmpR op_gt (pe_ix ix_list (pv 0) pe_int (fun _ _ => rfl)) pe_int (nomark _))
      (pss_cons (ps_set (i := 2) scTake.nd rfl (.inl rfl) (pe_op op_mod (pe_callTy call_int1 (by rfl) mi PyProof.Rows.boot_int (pa_cons (pe_ix ix_list (pv 0) pe_int (fun _ _ => rfl)) pa_nil)) (pv 1)))
        (pss_cons (ps_asg (pe_op op_fdiv (pe_ix ix_list (pv 0) pe_int (fun _ _ => rfl)) (pv 1)) (pg_sub (pv 0) pe_int set_list))
        (pss_one (ps_ret (pv 2))))) pss_nil)
    (pss_cons (ps_asg (pe_op op_add (pe_ix ix_list (pv 0) pe_int (fun _ _ => rfl)) pe_int) (pg_sub (pv 0) pe_int set_list))
    (pss_cons (ps_set (i := 3) scTake.nd rfl (.inl rfl) (pe_op op_mod (pe_op op_pow (pe_callTy call_int1 (by rfl) mi PyProof.Rows.boot_int (pa_cons (pe_op op_add (pe_ix ix_list (pv 0) pe_int (fun _ _ => rfl)) (pe_op op_mul pe_int (pe_ix ix_list (pv 0) pe_int (fun _ _ => rfl)))) pa_nil)) pe_int) pe_int))
    (pss_cons (ps_set (i := 3) scTake.nd rfl (.inl rfl) (pe_op op_mod (pe_op op_pow (pe_callTy call_int1 (by rfl) mi PyProof.Rows.boot_int (pa_cons (pe_op op_add (pv 3) (pe_op op_mul pe_int (pe_ix ix_list (pv 0) pe_int (fun _ _ => rfl)))) pa_nil)) pe_int) pe_int))
    (pss_one (ps_ret (pe_op op_mod (pe_op op_fdiv (pv 3) pe_int) (pv 1))))))), ?_⟩
  have i0 : atI [V.int d, V.int x, V.int c] 0 = some (.int d) := rfl
  refine ⟨_, rfl, a, _, _, _, rfl, rfl, SqL.of e, i0, _, _, rfl, rfl, _, rfl, ?_⟩
  refine ite2 (fun z => ?_) (fun z => ?_)
  · have z' : (0 : Int) < d := of_decide_eq_true z
    refine ⟨_, rfl, a, _, _, _, rfl, rfl, SqL.of e, i0, .inl ⟨_, rfl, _, rfl, _, _, rfl, rfl, hm0, ?_⟩⟩
    refine ⟨_, rfl, a, _, _, _, rfl, rfl, SqL.of e, i0, _, rfl, _, _, rfl, rfl, ⟨hm0, hm1⟩, _, rfl, a, _, _, 0, rfl, rfl, e, rfl, ?_⟩
    refine ⟨_, rfl, ?_⟩
    refine k _ _ (Int.emod_nonneg _ (by omega)) (Int.emod_lt_of_pos _ hm0) ⟨d / m, x, c, upd_same, Int.ediv_nonneg hd (by omega), hx0, hx1, hc0, by omega⟩ (Kp.upd _)
  · refine ⟨_, rfl, a, _, _, _, rfl, rfl, SqL.of e, (rfl : atI [V.int d, V.int x, V.int c] 2 = some (.int c)), _, _, rfl, rfl, _, rfl, a, _, _, 2, rfl, rfl, e, rfl, ?_⟩
    have e2 : (upd H a (.lst ([V.int d, V.int x, V.int c].set 2 (.int (c + 1))))) a = some (.lst [.int d, .int x, .int (c + 1)]) := upd_same
    refine ⟨_, rfl, a, _, _, _, rfl, rfl, SqL.of e2, (rfl : atI [V.int d, V.int x, V.int (c + 1)] 1 = some (.int x)), _, rfl, a, _, _, _, rfl, rfl, SqL.of e2, (rfl : atI [V.int d, V.int x, V.int (c + 1)] 2 = some (.int (c + 1))), ?_⟩
    refine ⟨_, _, rfl, rfl, .inl (by decide), _, _, rfl, rfl, .inl ⟨_, rfl, _, _, rfl, rfl, ⟨by decide, by decide, by omega⟩, _, _, rfl, rfl, (by show (0 : Int) < _; decide), ?_⟩⟩
    have b1 := Int.emod_nonneg ((x + 2654435761 * (c + 1)) ^ (3 : Int).toNat) (show (2305843009213693921 : Int) ≠ 0 by decide)
    have b2 := Int.emod_lt_of_pos ((x + 2654435761 * (c + 1)) ^ (3 : Int).toNat) (show (0 : Int) < 2305843009213693921 by decide)
    generalize ((x + 2654435761 * (c + 1)) ^ (3 : Int).toNat) % 2305843009213693921 = y at b1 b2 ⊢
    refine ⟨_, rfl, _, rfl, a, _, _, _, rfl, rfl, SqL.of e2, (rfl : atI [V.int d, V.int x, V.int (c + 1)] 2 = some (.int (c + 1))), ?_⟩
    refine ⟨_, _, rfl, rfl, .inl (by decide), _, _, rfl, rfl, .inl ⟨_, rfl, _, _, rfl, rfl, ⟨by decide, by decide, by omega⟩, _, _, rfl, rfl, (by show (0 : Int) < _; decide), ?_⟩⟩
    refine ⟨_, rfl, _, _, rfl, rfl, ⟨by decide, by decide⟩, _, rfl, _, _, rfl, rfl, hm0, ?_⟩
    exact k _ _ (Int.emod_nonneg _ (by omega)) (Int.emod_lt_of_pos _ hm0) ⟨d, x, c + 1, e2, hd, hx0, hx1, by omega, by push_cast; omega⟩ (Kp.upd _)
end
end Oo
/-! defs that are called where no repr is under way; own exceptions over any built-in base: super().__init__(text) -/
namespace Oo
open PySem PySem.Spec PyProof.Rows L2
/-! ### promises kept where no repr is under way -/
structure FnQ (P : Program) (w : World) (K : PySem.W.Frag) (mg : Str → Option Value) (base : Heap) (CX : CXT) (k : Nat) (f : Addr) (fd : FuncData) (ps : List Str) (sp : Sp) : Prop where
  many : ∀ vs H Q E, sp vs H Q E → vs.length = ps.length
  go : ∀ (A : Around) (outer : List Env) (s : Shared) (H : Hp) (args : Args) (us : List Value) (vs : List V) (Q : VK) (E : XK), A.guards = some [] → Room k A → Env0 P w K mg base A outer s H → BindsTo s fd args (ps.zip us) → Vals vs us → sp vs H Q E →
    codeAny (model P w) A (.call (.ref f) args) (CR CX outer P w H s Q E) s
section
variable {P : Program} {w : World} {K : PySem.W.Frag} {mg : Str → Option Value} {base : Heap} {CX : CXT} {k : Nat} {f : Addr} {fd : FuncData} {ps : List Str} {sp : Sp}
theorem ofOk (F : FnOk P w K mg base CX k f fd ps sp) : FnQ P w K mg base CX k f fd ps sp := ⟨F.len, fun A outer s H args us vs Q E _ => F.run A outer s H args us vs Q E⟩
theorem FnQ.up {j : Nat} (F : FnQ P w K mg base CX j f fd ps sp) (h : j ≤ k) : FnQ P w K mg base CX k f fd ps sp :=
  ⟨F.many, fun A outer s H args us vs Q E q room => F.go A outer s H args us vs Q E q (room.mono h)⟩
/-- a def's body, where no repr is under way; exceptions leave it -/
theorem okQ {x qual : Str} {st : Stmt} {N : List Str} (F : Fun K x qual st f fd) (S : FnScope N ps (defScope st)) (hm : ∀ vs H Q E, sp vs H Q E → vs.length = ps.length)
    (body : ∀ (cdv : Value) (A : Around) (outer : List Env) (s : Shared) (H : Hp) (vs : List V) (Q : VK) (E : XK), A.guards = some [] → Room k (A.deeper (envOfC qual (defScope st) s.heap.objs.size f cdv)) → sp vs H Q E →
      ∃ t, PSs (cxOf CX P w K mg base N qual (defScope st) f cdv A outer s H E) (defBody st) t ∧ t { nx := fun _ H' => Q .non H', rt := Q } (start N vs) H) : FnQ P w K mg base CX (k + 1) f fd ps sp := by
  obtain ⟨oc, od, kV, doc, pm, an, cdv, ct, osl, rfl, lk, hcd⟩ := F.ex
  refine ⟨hm, fun A outer s H args us vs Q E quiet room here bnd rels promise => ?_⟩
  have grow := fun b o e => (here.bs b o e).1
  have inS : K.In s.heap := here.mod.kin.keeps grow
  refine codeAny_call_function room.depth (inS _ _ lk) rfl S.co S.gen rfl (PySem.W.codeRec_of inS hcd) (bnd _ _ _ _ ?_)
  refine wpAny_newFunctionEnv_cells S.kind (fun p hp => ?_) fun env he s1 came => ?_
  · obtain ⟨n, v⟩ := p
    exact (S.par n (List.of_mem_zip hp).1).imp id fun z => ⟨z, PySem.W.cellsFrom_some _ _ _ (.inl z)⟩
  subst he
  refine ⟨(here.mod.nolimit.keeps grow).keeps came.toInCall.keep, codeAny_func ?_⟩
  obtain ⟨t, ht, hq⟩ := body cdv A outer s H vs Q E quiet (room.deeper _) promise
  refine wpAny_mono (ht.run [] s1 (start N vs) H _ (inv_start S room.hd here (hm _ _ _ _ promise) rels came) hq) (fun fl s' end_ => ?_) fun _ _ z => z
  match fl, end_ with
  | .ret u, ⟨v, _, H', J, rv, q⟩ => exact ⟨v, H', J.os, J.bare, J.base, J.hok, rv, q⟩
  | .next, ⟨_, H', J, q⟩ => exact ⟨V.non, H', J.os, J.bare, J.base, J.hok, rfl, q⟩
  | .brk, ⟨_, _, _, q⟩ => exact q.elim
  | .cont, ⟨_, _, _, q⟩ => exact q.elim
end
section
variable {X : Cx} {CX : CXT} {k : Nat} {f C : Addr} {fd : FuncData} {ps : List Str} {sp : Sp} {dvs : List V} {ds : List Value} {E : XK} {x m : Str} {p pos apos : Pos} {e o : Expr} {es : List Expr} {ta : TE} {t : TA}
/-- such a one runs -/
theorem runQ {pins : List (Addr × Obj)} {σ : L2.St} {H : Hp} {s : Shared} {Q : VK} {us : List Value} {vs : List V} (still : X.A.guards = some []) (F : FnQ X.prog X.w X.K X.mg X.base CX k f fd ps sp) (room : Room k X.A) (bind : Binds X.K fd ps ds) (dflt : Vals dvs ds) (out : Passes CX X E)
    (I : Inv X pins σ H s) (r : Vals vs us) (h : sp (vs ++ dvs) H Q E) : wpAny (model X.prog X.w) X.A (call (.ref f) us) (EP X pins σ Q) X.xe s := by
  have both := r.append dflt
  have count : (us ++ ds).length = ps.length := both.length.symm.trans (F.many _ _ _ _ h)
  refine wpAny_call (codeAny_mono (F.go X.A X.stack s H ⟨us, []⟩ (us ++ ds) (vs ++ dvs) Q E still room I.env0 (bind s us I.kIn count) both h) fun r s' hq => ?_)
  match r, hq with
  | .error e, hq => exact out pins σ H s e s' I hq
  | .ok (.ret u), hq => exact I.after hq
  | .ok .next, hq => exact hq.elim
  | .ok .brk, hq => exact hq.elim
  | .ok .cont, hq => exact hq.elim
theorem pe_callQ (still : X.A.guards = some []) (F : FnQ X.prog X.w X.K X.mg X.base CX k f fd ps sp) (room : Room k X.A) (hg : Gl X x) (hm : X.mg x = some (.ref f)) (hk : PySem.W.keepIn X.K (.ref f) = true) (bind : Binds X.K fd ps ds) (dflt : Vals dvs ds) (out : Passes CX X E)
    (ha : PA X (e :: es) t) (hdb : (x == ("__debug__" : Str)) = false := by decide) (he : starEach (e :: es) X.env = (false, eval e X.env) :: starEach es X.env := by rfl) (hpl : (backTo pos (starEach es X.env)).any (·.1) = false := by rfl) :
    PE X (.Call (.Name x p) (e :: es) [] pos) (tCall sp dvs E t) :=
  ⟨fun pins s σ H Q I h => wpAny_Call_Name_kw (ld_glob I hg hm (PySem.W.callWith_K (h₀ := X.base) I.ok.mod.kin hk (thn (ha.run pos pins s σ H _ I h) fun us s1 ⟨vs, H1, I1, r, q⟩ => ⟨I1.kIn, runQ still F room bind dflt out I1 r q⟩) he hpl) hdb)⟩
end
end Oo
/-! own exceptions over any built-in base: the base's facts, super().__init__(text) -/
namespace Oo
open PySem PySem.Spec PyProof.Rows L2
/-- a built-in base -/
structure BaseB (B nw ini : String) (up : List Value) : Prop where
  fb : ExcBaseFacts B nw ini up
  kx : PySem.W.KxsFacts B ini
  sf : StoreFacts B up "object.__setattr__" "object"
abbrev upIE : List Value := [.type "IndexError", .type "LookupError", .type "Exception", .type "BaseException", .type "object"]
abbrev upVE : List Value := [.type "ValueError", .type "Exception", .type "BaseException", .type "object"]
abbrev upTE : List Value := [.type "TypeError", .type "Exception", .type "BaseException", .type "object"]
abbrev upRE : List Value := [.type "RuntimeError", .type "Exception", .type "BaseException", .type "object"]
abbrev upLE : List Value := [.type "LookupError", .type "Exception", .type "BaseException", .type "object"]
abbrev upOE : List Value := [.type "OverflowError", .type "ArithmeticError", .type "Exception", .type "BaseException", .type "object"]
theorem base_IE : BaseB "IndexError" "IndexError.__new__" "IndexError.__init__" upIE := ⟨F.excBase_IndexError, PySem.W.kxs_IndexError, F.store_IndexError⟩
theorem base_VE : BaseB "ValueError" "ValueError.__new__" "ValueError.__init__" upVE := ⟨F.excBase_ValueError, PySem.W.kxs_ValueError, F.store_ValueError⟩
theorem base_TE : BaseB "TypeError" "TypeError.__new__" "TypeError.__init__" upTE := ⟨F.excBase_TypeError, PySem.W.kxs_TypeError, F.store_TypeError⟩
theorem base_RE : BaseB "RuntimeError" "RuntimeError.__new__" "RuntimeError.__init__" upRE := ⟨F.excBase_RuntimeError, PySem.W.kxs_RuntimeError, F.store_RuntimeError⟩
theorem base_LE : BaseB "LookupError" "LookupError.__new__" "LookupError.__init__" upLE := ⟨F.excBase_LookupError, PySem.W.kxs_LookupError, F.store_LookupError⟩
theorem base_OE : BaseB "OverflowError" "OverflowError.__new__" "OverflowError.__init__" upOE := ⟨F.excBase_OverflowError, PySem.W.kxs_OverflowError, F.store_OverflowError⟩
/-- a written class over it -/
structure ExB (K : PySem.W.Frag) (B nw ini : String) (up : List Value) (C : Addr) : Prop where
  made : PySem.W.excInitIn K C up nw = true
  over : PySem.W.excOver K C up = true
  has : (PySem.W.clsIn K C).any (fun c => c.hasDict) = true
  sa : PySem.W.findIn K (.ref C) "__setattr__" = some (some (.builtin "object.__setattr__"))
  exC : PySem.W.subIn K (.ref C) (.type "BaseException") = some true
  isB : PySem.W.subIn K (.ref C) (.type B) = some true
  tyC : PySem.W.typeIn K (.ref C) = some (.type "type")
  kC : PySem.W.keepIn K (.ref C) = true
  sup : PySem.W.ks_superIn K C C "__init__" = some (some (.builtin ini))
  slf : PySem.W.mroIn K C (.ref C) = some true
section
variable {X : Cx} {pins : List (Addr × Obj)} {σ : L2.St} {H : Hp} {s : Shared} {a C u : Addr} {B nw ini : String} {up : List Value} {us : List Value} {Q : Value → Shared → Prop} {A : Around} {E : Value → Shared → Prop}
/-- pins dropped -/
theorem less {more : List (Addr × Obj)} (I : Inv X (pins ++ more) σ H s) : Inv X pins σ H s :=
  ⟨I.ok, I.os, I.bare, I.base, I.loc, I.cell, I.free, I.freeC, fun p hp => I.pin p (by
    rcases List.mem_append.mp hp with z | z
    · exact List.mem_append_left _ z
    · exact List.mem_append_right _ (List.mem_append_left _ z)), I.hok, I.len⟩
/-- B.__init__ bound to an exception that is being made, called -/
theorem bound_init (Bs : BaseB B nw ini up) (T : ExB X.K B nw ini up C) (I : Inv X pins σ H s) (e : H a = some (exo a C none)) (there : s.heap.get? u = some (PySem.W.kxs_mw ini a)) (few : us.length ≤ sizeLine)
    (next : ∀ s', Inv X pins σ H s' → Q .none s') : wpAny (model X.prog X.w) A (call (.ref u) us) Q E s := by
  obtain ⟨n1, n2, n3, n4, n5, n6, n7, n8, n9, n10, n11, n12, n13, n14, n15, n16, isC, same⟩ := PySem.W.excInit_of I.kIn T.made
  obtain ⟨old, isA⟩ := exo_at I.hok e
  have fin : ∀ G, (∀ b o, b ≠ a → s.heap.get? b = some o → G.get? b = some o) → (∃ t1 : Addr, G.get? a = some ({ cls := .ref C, dict := none, data := .fields #[.ref t1, .none, .none, .none, .bool false, .none] } : Obj)) → Q .none { s with heap := G } := fun G k ⟨t1, x⟩ => by
    have J := I.write (t' := s.toks) (x := a) (e := a) (o := exo a C none) (by rw [e]; exact True.intro) (.inl rfl) k ⟨_, x⟩ (exo_ok x)
    have eu : upd H a (exo a C none) = H := by
      funext b
      by_cases hb : b = a
      · subst hb
        rw [upd_same]
        exact e.symm
      · exact upd_ne hb
    rw [eu] at J
    exact next _ J
  obtain ⟨hh, gs, dr, tk, os⟩ := s
  refine wpAny_call (codeAny_of_tree ?_)
  show wpAny _ (Around.in1 A) (callAny (.ref u) _) _ _ _
  simp only [callAny]
  refine wpAny_bind (wpAny_load there ?_)
  have isM : (Value.type "method-wrapper" == Value.type "method" || Value.type "method-wrapper" == Value.type "builtin_function_or_method"
    || Value.type "method-wrapper" == Value.type "method-wrapper") = true := by decide
  simp only [PySem.W.kxs_mw, isM, if_true]
  refine PySem.W.KFB.if_so (by decide) ?_
  refine wpAny_bind (PySem.W.check_bound_init Bs.fb.toExcCallFacts isC isA rfl ?_)
  refine wpAny_bind (wpAny_pure (wpAny_pure ?_))
  refine ⟨plainId_quiet Bs.fb.init.plain _, codeAny_builtin Bs.fb.initEntry ?_⟩
  refine PySem.W.exc_init_tree (e := a) (cls := Value.ref C) (t0 := old) (dv := none) (c2 := Value.none)
    (c3 := Value.none) (b4 := Value.bool false) isA few fun G k x y => fin G k ⟨_, x⟩
end
end Oo
/-! super().__init__(text) as a statement of a method's body -/
namespace Oo
open PySem PySem.Spec PyProof.Rows L2
/-- what the written part says of a method of the class at C that asks super() -/
structure SupF (P : Program) (K : PySem.W.Frag) (mg : Str → Option Value) (C f cda cc : Addr) (fd : FuncData) (me : Str) : Prop where
  fn : ∃ oc od osl, K.lookup f = some ⟨oc, od, .func fd, osl⟩
  first : ∃ ar, (fd.params.posonlyargs ++ fd.params.args).head? = some ar ∧ ar.arg = me
  code : ∃ q1 q2 vs q3 file tf, K.lookup cda = some ⟨q1, q2, .fields vs, q3⟩ ∧ vs[2]? = some (.str file tf) ∧ ((P.main.file : Str) == file) = true
  cell : ∃ q1 q2 q3, K.lookup cc = some ⟨q1, q2, .cell (some (.ref C)), q3⟩
  noSup : mg "super" = none
  top : (P.main.scope.names.lookup ("super" : Str)).isSome = false
  opq : PySem.W.nsIn K cStatics "thirdparty.any" = some none
theorem ExB.data {K : PySem.W.Frag} {B nw ini : String} {up : List Value} {C : Addr} (T : ExB K B nw ini up C) : ∃ cd, PySem.W.clsIn K C = some cd ∧ cd.hasDict = true := by
  have z := T.has
  cases e : PySem.W.clsIn K C with
  | none =>
    rw [e] at z
    cases z
  | some cd =>
    rw [e] at z
    exact ⟨cd, rfl, z⟩
section
variable {X : Cx} {pins : List (Addr × Obj)} {σ : L2.St} {H : Hp} {s : Shared} {a C f cda cc : Addr} {B nw ini : String} {up : List Value} {fd : FuncData} {me : Str} {te : TE} {R : Hp → Prop} {e : Expr} {i : Nat} {p0 p1 p2 p3 pos : Pos} {body : List Stmt} {pl : Sem Bool}
theorem super_said (Bs : BaseB B nw ini up) (T : ExB X.K B nw ini up C) (S : SupF X.prog X.K X.mg C f cda cc fd me)
    (k1 : X.env.kindOf "super" = some .globalImplicit) (k2 : X.env.kindOf "__class__" = some .free) (k3 : X.env.kindOf me = some .local) (c1 : X.env.cells.lookup ("__class__" : Str) = some cc) (c2 : X.env.func = some f) (c3 : X.env.code = .ref cda)
    (hi : X.N[i]? = some me) (I : Inv X pins σ H s) (is : σ[i]? = some (some (.ref a))) (e0 : H a = some (exo a C none)) (he : PE X e te)
    (hq : te σ H fun _ H1 => 1 ≤ 1000 ∧ H1 a = some (exo a C none) ∧ R H1)
    (said : eval (.Call (.Attribute (.Call (.Name "super" p0) [] [] p1) "__init__" p2) [e] [] p3) X.env = (do
      let ov ← attributeBase (.Call (.Name "super" p0) [] [] p1) "__init__" X.env (eval (.Call (.Name "super" p0) [] [] p1) X.env)
      standAt p2.atName
      let (f, first) ← holding [ov] (getMethod ov "__init__" pl)
      callWith p3 f first (backTo p3 (starEach [e] X.env)) []) := by rfl)
    (hst : starEach [e] X.env = (false, eval e X.env) :: starEach [] X.env := by rfl)
    (hs : swapsWith (.Call (.Attribute (.Call (.Name "super" p0) [] [] p1) "__init__" p2) [e] [] p3) none pos.line X.env = pure false := by rfl) :
    PySem.wpAt (model X.prog X.w) X.A (.func body X.env) (exec (.Expr (.Call (.Attribute (.Call (.Name "super" p0) [] [] p1) "__init__" p2) [e] [] p3) pos) X.env)
      (fun fl s' => fl = .next ∧ ∃ H1, Inv X pins σ H1 s' ∧ R H1) X.xe s := by
  obtain ⟨oc, od, osl, lf⟩ := S.fn
  obtain ⟨ar, har, rfl⟩ := S.first
  obtain ⟨ccl, cdd, vs, ccs, file, tf, lc, hvs, hfile⟩ := S.code
  obtain ⟨cl, cld, csl, ll⟩ := S.cell
  have KI := I.kIn
  obtain ⟨mb, hb1, hb2⟩ := I.mod.blt
  obtain ⟨m, hm, hl⟩ := I.loc
  obtain ⟨u, ru, lu⟩ := hl i ar.arg _ hi is (.inl k3)
  obtain rfl : u = Value.ref a := ru
  have hmu : m ar.arg = some (.ref a) := by
    rcases lu with z | ⟨z | z, _⟩
    · exact z.2
    · rw [k3] at z
      cases z
    · rw [k3] at z
      cases z
  obtain ⟨cd, hcd, hdict⟩ := T.data
  obtain ⟨t1, isA⟩ := exo_at I.hok e0
  obtain ⟨oD, hD1, hD2⟩ : ∃ oD, s.heap.get? C = some oD ∧ oD.data = .cls cd := by
    have z := hcd
    unfold PySem.W.clsIn at z
    split at z
    · rename_i ho
      cases z
      exact ⟨_, KI _ _ ho, rfl⟩
    · cases z
  refine ks_wpAt_Expr_any (ks_wpAt_MethodCall ?_ said) I.quiet hs
  refine ks_wpAt_super_base (env := X.env) k1 k2 (by decide) c2 (KI _ _ lf) rfl har c3 (KI _ _ lc) rfl hvs hfile S.top ?_
  refine PySem.W.ks_loadName_global I.ok.kind k1 (Calls.loadGlobal_builtin (by rw [I.ok.glob]; exact I.mod.glob.keeps I.bk) S.noSup (by rw [I.ok.blt]; exact hb1.keeps I.bk) ((hb2 _ (by decide)).trans (by first | rfl | kernel_rfl)) ⟨rfl, ?_⟩)
  refine wpAny_loadName_free I.ok.kind k2 c1 ⟨_, KI _ _ ll, rfl⟩ ?_
  refine wpAny_loadName_local I.ok.kind k3 hm hmu ?_
  have isI : PySem.W.InstAt s.heap a ({ cls := .ref C, dict := none, data := .fields #[.ref t1, .none, .none, .none, .bool false, .none] } : Obj) C none := ⟨isA, rfl, rfl, trivial⟩
  have inB : PySem.W.Looks (model X.prog X.w) s.heap (isInstance (.ref a) (.type B)) true := isI.type.andThen (PySem.W.looks_subIn KI T.isB)
  have sup := T.sup
  unfold PySem.W.ks_superIn at sup
  rw [hcd] at sup
  obtain ⟨hh, gs, dr, tk, os⟩ := s
  refine ks_wpAny_isType_cls hD1 hD2 ⟨rfl, ?_⟩
  refine ks_wpAny_call_super hD1 hD2 isA rfl (fun _ z => by cases z) (PySem.W.looks_mroIn KI T.slf) fun h1 so k4 => ?_
  have I1 : Inv X pins σ H ⟨h1, gs, dr, tk, os⟩ := I.kept (t' := tk) (h' := h1) k4
  refine PySem.W.kxs_getMethod (h := h1) Bs.kx so (PySem.W.looks_opaque I1.kIn S.opq) (l₀ := cd.mro) ?_ rfl I1.kIn sup (inB.keeps k4) (PySem.W.ks_ne KI isI hcd) (by decide) ?_
  · exact fun A Q E s k q => wpAny_bind ((PySem.W.looks_clsIn I1.kIn hcd) A _ E s k (wpAny_pure q))
  have I2 : Inv X pins σ H ⟨h1.push (PySem.W.kxs_mw ini a), gs, dr, tk + 1, os⟩ := I1.kept (t' := tk + 1) (h' := h1.push (PySem.W.kxs_mw ini a)) fun b o z => Heap.get?_push_of_some _ z
  have free : H h1.objs.size = none := I1.hok.fresh (Nat.le_refl _)
  have I3 : Inv X (pins ++ [(h1.objs.size, PySem.W.kxs_mw ini a)]) σ H ⟨h1.push (PySem.W.kxs_mw ini a), gs, dr, tk + 1, os⟩ := I2.pins_of fun p hp => by
    rcases List.mem_append.mp hp with z | z
    · exact I2.pin p (List.mem_append_right _ z)
    · obtain rfl := List.mem_singleton.mp z
      exact ⟨Heap.get?_push_size _ rfl, free, Nat.ne_of_gt I1.lt, I1.nofs (Nat.le_refl _), fun _ y => by cases y⟩
  have run := (pa_cons he pa_nil hst).run p3 (pins ++ [(h1.objs.size, PySem.W.kxs_mw ini a)]) _ σ H (fun vs H1 => vs.length ≤ 1000 ∧ H1 a = some (exo a C none) ∧ R H1) I3 (by
    exact hq)
  rw [hst] at run ⊢
  refine PySem.W.kxs_callWith (i := ini) (x := a) (by rfl) (Calls.evalArgs_plain (thn run fun us s3 ⟨vs, H1, J, r, hlen, e1, r1⟩ => ?_))
  have at3 := (J.pin _ (List.mem_append_right _ (List.mem_append_right _ (List.mem_singleton.mpr rfl)))).1
  have few : us.length ≤ sizeLine := by
    rw [← r.length, sizeLine_eq]
    omega
  exact ⟨at3, bound_init Bs T J e1 at3 few fun s' J' => ⟨rfl, H1, less J', r1⟩⟩
end
end Oo
/-! a method whose scope has the free name __class__: its context, its start, its promise -/
namespace Oo
open PySem PySem.Spec PyProof.Rows L2
/-- its scope: all parameters are local, no cells, __class__ alone is free -/
structure ScS (ps : List Str) (sc : Scope) : Prop where
  kind : sc.kind = .function
  co : sc.isCoroutine = false
  gen : sc.isGenerator = false
  nd : ps.Nodup
  par : ∀ x ∈ ps, sc.names.lookup x = some .local
  noCell : ∀ y ∈ sc.names, y.2 ≠ .cell
  one : ∀ x, sc.names.lookup x = some .free → x = "__class__"
  cls : sc.names.lookup ("__class__" : Str) = some .free
  sup : sc.names.lookup ("super" : Str) = some .globalImplicit
abbrev cxS (CX : CXT) (P : Program) (w : World) (K : PySem.W.Frag) (mg : Str → Option Value) (base : Heap) (N : List Str) (qual : Str) (scope : Scope) (f : Addr) (cd : Value) (cc : Addr) (A : Around) (outer : List Env) (s : Shared) (H : Hp) (E : XK) : Cx where
  prog := P
  w := w
  K := K
  mg := mg
  base := base
  N := N
  s_0 := s
  H_0 := H
  env := PySem.W.ksEnv qual scope s.heap.objs.size f cd cc
  A := A.deeper (PySem.W.ksEnv qual scope s.heap.objs.size f cd cc)
  outer := outer
  stack := PySem.W.ksEnv qual scope s.heap.objs.size f cd cc :: outer
  calm := true
  ex := []
  pn := []
  fn := fun _ => false
  xe := fun x s1 => wpAny (model P w) (A.deeper (PySem.W.ksEnv qual scope s.heap.objs.size f cd cc)) (leaving (PySem.W.ksEnv qual scope s.heap.objs.size f cd cc) x) (fun _ s2 => CX outer H s E x s2) (fun y s2 => CX outer H s E y s2) s1
theorem lookup_one {x : Str} {u : Value} : ∀ {l : List (Str × Value)}, (x, u) ∈ l → (∀ z, (x, z) ∈ l → z = u) → l.lookup x = some u
  | [], h, _ => nomatch h
  | (y, v) :: l, h, hu => by
    by_cases e : x = y
    · subst e
      have := hu v List.mem_cons_self
      subst this
      simp [List.lookup]
    · have e' : (x == y) = false := by simpa using e
      simp only [List.lookup, e']
      refine lookup_one ?_ fun z hz => hu z (List.mem_cons_of_mem _ hz)
      rcases List.mem_cons.mp h with z | z
      · exact absurd (congrArg Prod.fst z) e
      · exact z
theorem lookup_zip {ps : List Str} {us : List Value} {i : Nat} {x : Str} {u : Value} (nd : ps.Nodup) (hp : ps[i]? = some x) (hu : us[i]? = some u) : (ps.zip us).reverse.lookup x = some u := by
  refine lookup_one (List.mem_reverse.mpr (List.mem_of_getElem? (List.getElem?_zip_eq_some.mpr ⟨hp, hu⟩))) fun z hz => ?_
  obtain ⟨j, hj⟩ := List.getElem?_of_mem (List.mem_reverse.mp hz)
  obtain ⟨h1, h2⟩ := List.getElem?_zip_eq_some.mp hj
  have e : j = i := nodup_ix nd h1 hp
  subst e
  rw [hu] at h2
  exact (Option.some.inj h2).symm
section
variable {CX : CXT} {P : Program} {w : World} {K : PySem.W.Frag} {mg : Str → Option Value} {base : Heap} {ps : List Str} {name qual : Str} {scope : Scope} {f cc : Addr} {cdv : Value} {A : Around} {outer : List Env} {s : Shared} {H : Hp} {E : XK} {us : List Value} {vs : List V}
theorem inv_startS (S : ScS ps scope) (calm : A.handled = none) (here : Env0 P w K mg base A outer s H) (count : vs.length = ps.length) (rels : Vals vs us) {G : Heap} {t : Nat} (nsG : G.Ns s.heap.objs.size (fun x => (ps.zip us).reverse.lookup x))
    (kept : ∀ b o, s.heap.get? b = some o → G.get? b = some o) (cell : ∃ q1 q2 v q3, K.lookup cc = some ⟨q1, q2, .cell v, q3⟩) : Inv (cxS CX P w K mg base ps qual scope f cdv cc A outer s H E) [] (vs.map some) H { s with heap := G, toks := t } := by
  obtain ⟨q1, q2, v0, q3, lc⟩ := cell
  have inB : ∃ o, base.get? cc = some o ∧ o.data = .cell v0 := ⟨_, here.mod.kin _ _ lc, rfl⟩
  obtain ⟨oc, hoc, hdc⟩ := inB
  have only : ∀ x c, List.lookup x [(("__class__" : Str), cc)] = some c → x = "__class__" ∧ c = cc := fun x c z => by
    by_cases hx : x = "__class__"
    · subst hx
      simp [List.lookup] at z
      exact ⟨rfl, z.symm⟩
    · have : (x == ("__class__" : Str)) = false := by simpa using hx
      simp [List.lookup, this] at z
  refine ⟨⟨here.mod, S.kind, rfl, rfl, Nat.le_refl _, fun x y c h1 h2 => (only x c h1).1.trans (only y c h2).1.symm, fun x hx => ?_, fun x c z _ => Bool.noConfusion z, fun _ => calm, Around.frames_deeper here.frames, .inr ⟨rfl, rfl⟩, fun b z => (List.not_mem_nil z).elim, here.bs, here.bsz, fun b _ _ => List.not_mem_nil, fun b z => (List.not_mem_nil z).elim, here.funs, here.frf⟩,
    rfl, here.bare, Un.kept kept, ⟨_, nsG, fun i y v h1 h2 _ => ?_⟩, fun x c z => ?_, here.hok.fresh (Nat.le_refl _), fun x c z => ?_, fun p hp => (List.not_mem_nil hp).elim, here.hok.kept kept, ?_⟩
  · rcases hx with hx | hx
    · exact absurd rfl (S.noCell _ (PySem.mem_of_lookup hx))
    · have := S.one x hx
      subst this
      exact ⟨cc, rfl⟩
  · have h2' : vs[i]? = some v := by
      rw [List.getElem?_map] at h2
      cases e : vs[i]? with
      | none =>
        rw [e] at h2
        cases h2
      | some a =>
        rw [e] at h2
        exact Option.some.inj h2
    obtain ⟨u, hu, ru⟩ := rels.get h2'
    refine ⟨u, ru, .inl ⟨S.par y (List.mem_of_getElem? h1), ?_⟩⟩
    exact lookup_zip S.nd h1 hu
  · obtain ⟨_, rfl⟩ := only x c z
    exact ⟨v0, oc, kept _ _ (here.bs _ _ hoc).1, hdc⟩
  · obtain ⟨_, rfl⟩ := only x c z
    exact (here.bs _ _ hoc).2
  · show (vs.map some).length = ps.length
    rw [List.length_map]
    exact count
/-- such a method's promise, by super().__init__(e) and the rest of its body -/
theorem fn_super {k : Nat} {params : Arguments} {said : Stmt} {more : List Stmt} {dV kV doc pm ct oc : Value} {an od : Option Addr} {osl : Array (Option Value)} {sp : Sp}
    (lk : K.lookup f = some ⟨oc, od, .func (PySem.W.ksFn name qual params (said :: more) scope dV kV doc pm an cdv ct cc), osl⟩) (hcd : PySem.W.codeIn K cdv qual = true) (S : ScS ps scope) (cell : ∃ q1 q2 v q3, K.lookup cc = some ⟨q1, q2, .cell v, q3⟩)
    (hm : ∀ vs H Q E, sp vs H Q E → vs.length = ps.length)
    (body : ∀ (A : Around) (outer : List Env) (s : Shared) (H : Hp) (vs : List V) (Q : VK) (E : XK), A.guards = some [] → Room k (A.deeper (PySem.W.ksEnv qual scope s.heap.objs.size f cdv cc)) → sp vs H Q E →
      ∃ (R : Hp → Prop) (t : TS), (∀ s1, Inv (cxS CX P w K mg base ps qual scope f cdv cc A outer s H E) [] (vs.map some) H s1 →
          PySem.wpAt (model P w) (A.deeper (PySem.W.ksEnv qual scope s.heap.objs.size f cdv cc)) (.func (said :: more) (PySem.W.ksEnv qual scope s.heap.objs.size f cdv cc)) (exec said (PySem.W.ksEnv qual scope s.heap.objs.size f cdv cc))
            (fun fl s2 => fl = .next ∧ ∃ H1, Inv (cxS CX P w K mg base ps qual scope f cdv cc A outer s H E) [] (vs.map some) H1 s2 ∧ R H1) (cxS CX P w K mg base ps qual scope f cdv cc A outer s H E).xe s1) ∧
        PSs (cxS CX P w K mg base ps qual scope f cdv cc A outer s H E) more t ∧ ∀ H1, R H1 → t { nx := fun _ H2 => Q .non H2, rt := Q } (vs.map some) H1) :
    FnQ P w K mg base CX (k + 1) f (PySem.W.ksFn name qual params (said :: more) scope dV kV doc pm an cdv ct cc) ps sp := by
  refine ⟨hm, fun A outer s H args us vs Q E quiet room here bnd rels promise => ?_⟩
  have grow := fun b o e => (here.bs b o e).1
  have inS : K.In s.heap := here.mod.kin.keeps grow
  obtain ⟨R, t, b1, ht, b2⟩ := body A outer s H vs Q E quiet (room.deeper _) promise
  refine ks_codeAny_call_defAt (fd := PySem.W.ksFn name qual params (said :: more) scope dV kV doc pm an cdv ct cc) (body := said :: more) (binds := ps.zip us) room.depth (inS _ _ lk) rfl (here.mod.nolimit.keeps grow) (PySem.W.codeRec_of inS hcd) rfl bnd S.noCell
    (fun x hx => S.par _ (List.of_mem_zip (show (x.1, x.2) ∈ ps.zip us from hx)).1) (fun G nsG kept => ?_) S.co S.gen S.kind
  have I0 : Inv (cxS CX P w K mg base ps qual scope f cdv cc A outer s H E) [] (vs.map some) H { s with heap := G, toks := s.toks + (ps.zip us).length } := inv_startS S room.hd here (hm _ _ _ _ promise) rels nsG kept cell
  refine ks_wpAt_execs_cons (ks_wpAt_mono (b1 _ I0) (fun fl s2 hfl => ?_) fun _ _ z => z)
  obtain ⟨rfl, H1, I1, r1⟩ := hfl
  refine wpAt_of_wpAny (wpAny_mono (ht.run [] s2 (vs.map some) H1 _ I1 (b2 _ r1)) (fun fl s3 end_ => ?_) fun _ _ z => z)
  match fl, end_ with
  | .ret u, ⟨v, _, H2, J, rv, q⟩ => exact ⟨v, H2, J.os, J.bare, J.base, J.hok, rv, q⟩
  | .next, ⟨_, H2, J, q⟩ => exact ⟨V.non, H2, J.os, J.bare, J.base, J.hok, rfl, q⟩
  | .brk, ⟨_, _, _, q⟩ => exact q.elim
  | .cont, ⟨_, _, _, q⟩ => exact q.elim
end
end Oo
/-! self.f = e over any built-in base; {x!r} of data -/
namespace Oo
open PySem PySem.Spec PyProof.Rows L2
section
variable {X : Cx} {pins : List (Addr × Obj)} {σ : L2.St} {H : Hp} {s : Shared} {a C : Addr} {B nw ini f : String} {up : List Value} {g : Str} {y : V} {u : Value} {W : Unit → Shared → Prop} {E : Value → Shared → Prop} {A : Around}
/-- the first field of an exception that is being made -/
theorem field_one (Bs : BaseB B nw ini up) (T : ExB X.K B nw ini up C) (I : Inv X pins σ H s) (e : H a = some (exo a C none)) (free : PySem.W.takerIn X.K C g = some none) (ry : RelV y u)
    (next : ∀ m s1, H m = none → m ≠ a → Inv X pins σ (upd (upd H m (exd m [(g, y)])) a (exo a C (some m))) s1 → W () s1) : wpAny (model X.prog X.w) A (setAttr (.ref a) g u) W E s := by
  obtain ⟨cd, isC, dct⟩ := T.data
  obtain ⟨t1, isA⟩ := exo_at I.hok e
  have KI := I.kIn
  obtain ⟨G, gs, dr, tk, os⟩ := s
  refine PySem.W.set_plain KI (od := none) ⟨isA, rfl, rfl, trivial⟩ T.sa ?_
  refine PySem.W.osa_openX (s := ⟨G, gs, dr, tk + 1, os⟩) (od := none) Bs.sf KI ⟨isA, rfl, rfl, trivial⟩ T.over free fun b => ?_
  refine wpAny_bind (wpAny_pure (wpAny_bind (PySem.W.instanceDict_exc (s := ⟨G, gs, dr, tk + 1, os⟩) isA (PySem.W.looks_clsIn KI isC) dct ?_)))
  have low : a < G.objs.size := Heap.lt_size isA
  have apart : a ≠ G.objs.size := Nat.ne_of_lt low
  refine PySem.HandSPX.store_in_new ⟨_, #[], _, (Heap.get?_update_ne _ _ _ _ apart.symm).trans (Heap.get?_push_at rfl rfl), rfl, fun z hz => absurd hz (by simp), fun _ => rfl⟩ fun G2 tk2 named same => ?_
  have stay : ∀ b o, b ≠ a → G.get? b = some o → G2.get? b = some o := fun b o hb ho =>
    (same.2 b (Nat.ne_of_lt (Heap.lt_size ho))).trans ((Heap.get?_update_ne _ _ _ _ hb).trans (Heap.get?_push_of_some _ ho))
  have isA2 : G2.get? a = some ({ cls := .ref C, dict := some G.objs.size, data := .fields #[.ref t1, .none, .none, .none, .bool false, .none] } : Obj) :=
    (same.2 a apart).trans (Heap.get?_update_self _ (Heap.get?_push_of_some _ isA) rfl)
  have new0 : H G.objs.size = none := I.hok.fresh (Nat.le_refl _)
  have notNew : ∀ {b : Addr} {o : Obj}, G.get? b = some o → b ≠ G.objs.size := fun {b o} z => Nat.ne_of_lt (Heap.lt_size z)
  have notA : ∀ {b : Addr}, H b = none → b ≠ a := fun {b} z w => by
    rw [w, e] at z
    cases z
  let H2 : Hp := upd (upd H G.objs.size (exd G.objs.size [(g, y)])) a (exo a C (some G.objs.size))
  have old : ∀ {b : Addr} {v : HO}, H b = some v → exo a C none ≠ v → H2 b = some v := fun {b v} z d => by
    show upd (upd H _ _) a _ b = _
    rw [upd_ne (at_ne e z d), upd_ne (ne_of_none z new0)]
    exact z
  have un : Un X.fs [] H H2 G G2 := {
    keep := fun b o z n _ _ => stay b o (notA n) z
    slot := fun b o z n _ _ => ⟨o.slots, stay b o (notA n) z⟩
    free := fun b o z n _ => by
      show upd (upd H _ _) a _ b = none
      rw [upd_ne (notA n), upd_ne (notNew z)]
      exact n
    there := fun b o z _ => by
      by_cases hb : b = a
      · subst hb
        exact ⟨_, isA2⟩
      · exact ⟨o, stay b o hb z⟩
    tups := fun b xs z => old z exo_tup
    frzs := fun b o v z => old z exo_frz
    tbls := fun b ps z => ⟨#[], by rw [old z exo_tbl]; simp⟩ }
  refine next G.objs.size _ new0 apart.symm (I.un (t' := tk2) (h' := G2) un fun b o z => ?_)
  by_cases hb : b = a
  · subst hb
    rw [upd_same] at z
    cases z
    exact exo_ok isA2
  rw [upd_ne hb] at z
  by_cases hd : b = G.objs.size
  · subst hd
    rw [upd_same] at z
    cases z
    exact exd_ok named (relO_put (fs := []) ry fun _ => True.intro)
  rw [upd_ne hd] at z
  refine (I.hok b o z).stay (fun c v hc w => stay c v ?_ w) (fun c hc => old hc exo_own) fun c xs hc => old hc exo_tup
  rcases hc with hc | hc
  · rw [hc]
    exact hb
  · exact at_ne e hc exo_own
end
/-- self.f = e, the first field -/
def tOne (K : PySem.W.Frag) (B nw ini : String) (up : List Value) (g : Str) (to te : TE) : TS := fun D σ H => te σ H fun y H1 => to σ H1 fun x H2 => ∃ a C : Addr, x = .ref a ∧ ExB K B nw ini up C ∧ PySem.W.takerIn K C g = some none ∧
  H2 a = some (exo a C none) ∧ ∀ m, H2 m = none → m ≠ a → D.nx σ (upd (upd H2 m (exd m [(g, y)])) a (exo a C (some m)))
/-- {x!r}, x data -/
def tShown (K : PySem.W.Frag) (te : TE) : TE := fun σ H Q => te σ H fun x H1 => ∃ d : PyData, Dp K H1 x d ∧ d.showable = true ∧ d.hasDict = false ∧ d.depth ≤ 60 ∧ d.shown.length ≤ sizeLine ∧ Q (.str d.shown) H1
section
variable {X : Cx} {o e : Expr} {to te : TE} {B nw ini : String} {up : List Value} {g : Str} {p pos : Pos}
theorem ps_one (Bs : BaseB B nw ini up) (ho : PE X o to) (he : PE X e te) (hs : swapsWith e (some (.Attribute o g p)) pos.line X.env = pure false := by rfl) : PS X (.Assign [.Attribute o g p] e pos) (tOne X.K B nw ini up g to te) := by
  refine ⟨fun pins s σ H D I h => plainObj_wpAny_Assign_Attribute (thn (he.run pins s σ H _ I h) fun v s1 ⟨y, H1, I1, r1, q1⟩ => ?_) hs⟩
  refine thn (ho.run pins s1 σ H1 _ I1 q1) fun u s2 ⟨x, H2, I2, r2, a, C, ex, T, free, ea, q⟩ => ?_
  subst ex
  obtain rfl : u = Value.ref a := r2
  exact field_one Bs T I2 ea free r1 fun m s3 n1 n2 J => ⟨σ, _, J, q m n1 n2⟩
theorem pe_shown (still : X.A.guards = some []) (low : X.A.units + 64 < cLine) (he : PE X e te) : PE X (.FormattedValue e 114 none pos) (tShown X.K te) := by
  refine ⟨fun pins s σ H Q I h => wpAny_FormattedValue_repr (thn (he.run pins s σ H _ I h) fun v s1 hv => ?_)⟩
  obtain ⟨x, H1, I1, r1, d, hd, hs, hn, hdp, hz, q⟩ := hv
  have far : ∀ (G : Heap) (tk : Nat) (t : Tok), (∀ b o, s1.heap.get? b = some o → G.get? b = some o) → wpAny (model X.prog X.w) X.A (formatField (.str d.shown t) Str.empty) (EP X pins σ Q) X.xe { s1 with heap := G, toks := tk } := fun G tk t k =>
    wpAny_formatField_str ⟨.str d.shown, H1, I1.kept (t' := tk) k, ⟨_, rfl⟩, q⟩ ⟨.str d.shown, H1, I1.kept (t' := tk + 1) k, ⟨_, rfl⟩, q⟩ hz
  have last := fun tk t => far s1.heap tk t fun _ _ z => z
  cases hd with
  | non =>
    obtain rfl : v = Value.none := r1
    exact pyReprObj_none (last _ _)
  | bl b =>
    obtain rfl : v = Value.bool b := r1
    refine pyReprObj_bool ?_
    have := last (s1.toks + 1) s1.toks
    cases b <;> exact this
  | int i =>
    obtain ⟨t, rfl⟩ := r1
    exact pyReprObj_int (by simpa [PyData.showable] using hs) (last _ _)
  | str z =>
    obtain ⟨t, rfl⟩ := r1
    exact pyReprObj_str (last _ _) hz
  | lst hq ha =>
    rename_i r xs ds
    obtain rfl : v = Value.ref r := r1
    obtain ⟨as, rd⟩ := Dp.reads I1 _ _ _ (.lst hq ha) rfl
    exact pyReprObj_of_reads rd hs (PyData.noDict_hsm hn) still (by omega) (fun _ _ z => z) (fun G u tk hk => far G tk u hk) hz
  | tup hq ha =>
    rename_i r xs ds
    obtain rfl : v = Value.ref r := r1
    obtain ⟨as, rd⟩ := Dp.reads I1 _ _ _ (.tup hq ha) rfl
    exact pyReprObj_of_reads rd hs (PyData.noDict_hsm hn) still (by omega) (fun _ _ z => z) (fun G u tk hk => far G tk u hk) hz
end
end Oo
/-! C(e, ..) for an own exception over any built-in base; a call within try; isinstance of a caught one that has its dict -/
namespace Oo
open PySem PySem.Spec PyProof.Rows L2
theorem still_make {A : Around} {C : Addr} {us : List Value} {kw : List (Str × Value)} (h : A.guards = some []) : (A.under (.builtin "type.__call__" ⟨.ref C :: us, kw⟩)).guards = some [] := by
  first
    | exact h
    | simpa [Around.under, Code.isGuard, guardIds] using h
section
variable {X : Cx} {CX : CXT} {k : Nat} {f C fI : Addr} {fd : FuncData} {ps : List Str} {sp : Sp} {dvs : List V} {ds : List Value} {E : L2.St → XK} {x : Str} {p pos : Pos} {e : Expr} {es : List Expr} {ta : TA} {B nw ini : String} {up : List Value}
/-- a call whose exceptions may meet a try -/
theorem pe_callQS (still : X.A.guards = some []) (F : FnQ X.prog X.w X.K X.mg X.base CX k f fd ps sp) (room : Room k X.A) (hg : Gl X x) (hm : X.mg x = some (.ref f)) (hk : PySem.W.keepIn X.K (.ref f) = true) (bind : Binds X.K fd ps []) (out : ∀ σ, PassesAt CX X σ (E σ))
    (ha : PA X (e :: es) ta) (hdb : (x == ("__debug__" : Str)) = false := by decide) (he : starEach (e :: es) X.env = (false, eval e X.env) :: starEach es X.env := by rfl) (hpl : (backTo pos (starEach es X.env)).any (·.1) = false := by rfl) :
    PE X (.Call (.Name x p) (e :: es) [] pos) (tCallS sp E ta) := by
  refine ⟨fun pins s σ H Q I h => wpAny_Call_Name_kw (ld_glob I hg hm ?_ hdb)⟩
  refine PySem.W.callWith_K (h₀ := X.base) I.ok.mod.kin hk (thn (ha.run pos pins s σ H _ I h) fun us s1 ⟨vs, H1, I1, r, q⟩ => ⟨I1.kIn, ?_⟩) he hpl
  have count : us.length = ps.length := r.length.symm.trans (F.many _ _ _ _ q)
  have b := bind s1 us I1.kIn (by rw [List.append_nil]; exact count)
  rw [List.append_nil] at b
  refine wpAny_call (codeAny_mono (F.go X.A X.stack s1 H1 ⟨us, []⟩ us vs Q (E σ) still room I1.env0 b r q) fun r s' hq => ?_)
  match r, hq with
  | .error z, hq => exact out σ pins H1 s1 z s' I1 hq
  | .ok (.ret u), hq => exact I1.after hq
  | .ok .next, hq => exact hq.elim
  | .ok .brk, hq => exact hq.elim
  | .ok .cont, hq => exact hq.elim
/-- C(e, ..), C's own __init__ keeping sp -/
theorem pmk_any (still : X.A.guards = some []) (Bs : BaseB B nw ini up) (T : ExB X.K B nw ini up C) (iC : PySem.W.findIn X.K (.ref C) "__init__" = some (some (.ref fI))) (tI : PySem.W.typeIn X.K (.ref fI) = some (.type "function"))
    (F : FnQ X.prog X.w X.K X.mg X.base CX k fI fd ps sp) (room : Room (k + 1) X.A) (bind : Binds X.K fd ps ds) (dflt : Vals dvs ds) (out : Passes CX X (fun _ _ _ => False)) (hg : Gl X x) (hm : X.mg x = some (.ref C)) (ha : PA X (e :: es) ta)
    (hdb : (x == ("__debug__" : Str)) = false := by decide) (he : starEach (e :: es) X.env = (false, eval e X.env) :: starEach es X.env := by rfl) (hpl : (backTo pos (starEach es X.env)).any (·.1) = false := by rfl) :
    PMk X (.Call (.Name x p) (e :: es) [] pos) (tMkO C sp dvs ta) := by
  intro pins s σ H Q I h
  refine wpAny_Call_Name_kw (ld_glob I hg hm ?_ hdb)
  refine PySem.W.callWith_K (h₀ := X.base) I.ok.mod.kin T.kC (thn (ha.run pos pins s σ H _ I h) fun us s1 ⟨vs, H1, I1, r1, few, q1⟩ => ⟨I1.kIn, ?_⟩) he hpl
  show wpAny _ _ (call (Value.ref C) us) _ _ _
  obtain ⟨n1, n2, n3, n4, n5, n6, n7, n8, n9, n10, n11, n12, n13, n14, n15, n16, isC, same⟩ := PySem.W.excInit_of I1.kIn T.made
  obtain ⟨G, gs, dr, tk, os⟩ := s1
  let m : Addr := G.objs.size + 1
  have above : G.objs.size ≤ m := Nat.le_succ _
  have q2 := q1 m (I1.hok.fresh above)
  have grow : ∀ b o, G.get? b = some o → ((G.push (PySem.W.kdv_tup us)).push (PySem.HandSPX.excO C G.objs.size)).get? b = some o := fun b o z => Heap.get?_push_of_some _ (Heap.get?_push_of_some _ z)
  have isM : ((G.push (PySem.W.kdv_tup us)).push (PySem.HandSPX.excO C G.objs.size)).get? (G.objs.size + 1) = some (PySem.HandSPX.excO C G.objs.size) := by heap_get
  have I2 : Inv X pins σ (upd H1 m (exo m C none)) ⟨(G.push (PySem.W.kdv_tup us)).push (PySem.HandSPX.excO C G.objs.size), gs, dr, tk, os⟩ :=
    I1.laid (t' := tk) (a := m) (o := exo m C none) (h' := (G.push (PySem.W.kdv_tup us)).push (PySem.HandSPX.excO C G.objs.size)) grow above (exo_ok isM)
  have rels : Vals (V.ref m :: (vs ++ dvs)) (Value.ref m :: (us ++ ds)) := .cons rfl (r1.append dflt)
  have count : (Value.ref m :: us ++ ds).length = ps.length := rels.length.symm.trans (F.many _ _ _ _ q2)
  have short : us.length ≤ sizeLine := by
    rw [← r1.length, sizeLine_eq]
    omega
  refine wpAny_call (PySem.HandSPX.call_own Bs.fb same isC (PySem.W.looks_findIn I1.kIn iC) (fun self => PySem.W.bind_fn I1.kIn self tI) short ?_)
  refine codeAny_mono (F.go _ X.stack _ _ ⟨Value.ref m :: us, []⟩ (Value.ref m :: (us ++ ds)) _ _ (fun _ _ _ => False) (still_make still) (room.make C us []) (I2.env0.make C us []) (bind _ (Value.ref m :: us) I2.kIn count) rels q2) fun r s2 hq => ?_
  match r, hq with
  | .error z, hq => exact out pins σ _ _ z s2 I2 hq
  | .ok .next, hq => exact hq.elim
  | .ok .brk, hq => exact hq.elim
  | .ok .cont, hq => exact hq.elim
  | .ok (.ret u), hq =>
    obtain ⟨v, H2, os2, bare2, un2, hok2, rv, ev, d, fs, ea, ed, hd1, q3⟩ := hq
    subst ev
    obtain ⟨h2, g2, d2, t2, os3⟩ := s2
    exact ⟨rv, mk_end (raises_own T.exC T.tyC) I1 above grow un2 hok2 os2 bare2 ea ed hd1 q3⟩
end
/-- isinstance(e, c), e the exception that the suite holds, its dict at m -/
def rIsX (K : PySem.W.Frag) (D a m : Addr) : List V → Hp → VK → Prop := fun xs H Q => ∃ (c : V) (cv : Value) (b : Bool) (fs : List (Str × V)), xs = [.ref a, c] ∧ (∀ u, RelV c u → u = cv) ∧ PySem.W.kitOne K (.ref D) cv = some b ∧ H m = some (.xd fs) ∧ Q (.bl b) H
theorem call_isX {X : Cx} {a D m : Addr} {oe : Obj} {pn : List (Addr × Obj)} (C : ExcC X.K D) (hz : Zc (.ref D) (some m) oe) (hf : ∃ vs, oe.data = .fields vs) : CallR (X.suite a ((a, oe) :: pn)) (.builtin "isinstance") (rIsX X.K D a m) := by
  intro pins s σ H xs us Q I r h
  obtain ⟨c, cv, b, fs, rfl, one, e, hm, q⟩ := h
  obtain ⟨isA, _⟩ := I.pin (a, oe) (List.mem_append.mpr (.inl List.mem_cons_self))
  have hx : ObjOk X.prog X.w H s.heap m (.xd fs) := I.hok m _ hm
  obtain ⟨mA, ⟨od, es, ep, ho, _⟩, _⟩ := hx
  obtain ⟨vs, hv⟩ := hf
  have J : PySem.W.InstAt s.heap a oe D (some od) := ⟨isA, hz.1, by unfold PySem.W.notCls; rw [hv], by rw [hz.2]; exact ho⟩
  cases r with
  | cons rx rr =>
    cases rr with
    | cons rt rr =>
      cases rr
      cases rx
      have ec := one _ rt
      subst ec
      obtain ⟨cd, hcd, _⟩ := PySem.W.any_some C.hd
      exact PySem.W.kia_one (PySem.W.kitx_exc (by rw [hcd]; rfl) C.hg C.hk C.hs C.ha C.hn C.ht C.hm) I.kIn J e (fun z => nomatch z) fun tk => ⟨.bl b, H, I.kept (t' := tk) fun _ _ z => z, rfl, q⟩
end Oo
/-! sorted of tuples of ints of any lengths, ascending already -/
namespace Oo
open PySem PySem.SeqAt PySem.W PySem.Calls PyProof.Rows
section
variable {prog : Program} {w : World} {A : Around} {E : Value → Shared → Prop} {s : Shared}
theorem call_tup_lt {Q : Value → Shared → Prop} {l b : Addr} {items items2 : Array Value} {e r : Nat → Bool} (hl : s.heap.IsTuple l items) (hb : s.heap.IsTuple b items2)
    (he : ∀ j (h1 : j < items.size) (h2 : j < items2.size), EqAt A.in1 s items[j] items2[j] (e j)) (hr : ∀ j (h1 : j < items.size) (h2 : j < items2.size), e j = false → RcLt A.in1 s items[j] items2[j] (r j))
    (h : Q (.bool (firstLt e r (decide (items.size < items2.size)) (List.range (min items.size items2.size)))) s) : wpAny (model prog w) A (call (.builtin "tuple.__lt__") [.ref l, .ref b]) Q E s := by
  obtain ⟨⟨c1, d1, da1, sl1⟩, ho1, hc1, n1, hd1⟩ := id hl
  obtain ⟨⟨c2, d2, da2, sl2⟩, ho2, hc2, n2, hd2⟩ := id hb
  simp only at hc1 hd1 hc2 hd2
  subst hc1 hd1 hc2 hd2
  exact call_meets F.slot_tuple_lt ⟨_, ho1, rfl⟩ F.entry_tuple_lt (F.args_tuple_lt_2 _ _) (tuple_ltAt l b items items2 n1 n2 d1 d2 sl1 sl2 e r) ⟨ho1, ho2, he, hr, h⟩
theorem oneLt_tup {xs ys : List PyData} {a b : Value} {as bs : List Addr} {Q : Bool → Shared → Prop} (ra : Reads s.heap a (.tuple xs) as) (rb : Reads s.heap b (.tuple ys) bs) (hal : alikeAll xs ys = true)
    (hu : A.units + min (PyData.depth (.tuple xs)) (PyData.depth (.tuple ys)) < cLine) (hq : Q (dataLt (.tuple xs) (.tuple ys)) s) : wpAny (model prog w) A (oneLt' true a b) Q E s := by
  cases ra with
  | @tuple l o vs n _ _ h1 h2 h3 h4 =>
    cases rb with
    | @tuple l' o' vs' n' _ _ k1 k2 k3 k4 =>
      have n1 : vs.size = xs.length := by simpa using ReadsAll.length _ _ _ h4
      have n2 : vs'.size = ys.length := by simpa using ReadsAll.length _ _ _ k4
      rw [dataLt_tuple, ← firstLt_toks xs ys hal, ← n1, ← n2] at hq
      rw [oneLt'_eq]
      simp only [if_true]
      refine wpAny_bind (wpAny_cRoomFor (room_here hu) (wpAny_bind (wpAny_callSpecialIfBound?_slot (T := "tuple") ⟨_, h1, h2⟩ F.slot_tuple_lt
        (call_tup_lt (e := pairEq xs ys) (r := fun j => dataLt (xs.getD j .none) (ys.getD j .none)) ⟨_, h1, h2, _, h3⟩ ⟨_, k1, k2, _, k3⟩ (fun j j1 j2 => ?_) (fun j j1 j2 hj => ?_) (wpAny_truthy_bool hq)))))
      · have z := eqAt_alikeAll xs ys A.in1 s vs.toList vs'.toList _ _ h4 k4 hal (room_in hu) j (by simpa using j1) (by simpa using j2)
        simpa using z
      · have z := rcLt_alikeAll xs ys A.in1 s vs.toList vs'.toList _ _ h4 k4 hal (room_in hu) j (by simpa using j1) (by simpa using j2) hj
        simpa using z
/-- the first items of tuples -/
theorem firsts_at : ∀ {vs : List Value} {ds : List (List PyData)} {Q : List (Option Value) → Shared → Prop}, EachIs (fun v d => ∃ as, Reads s.heap v (.tuple d) as) vs ds →
    (∀ fs : List (Option Value), fs.length = vs.length → (∀ i : Nat, ds[i]? = some [] → fs[i]? = some none) → Q fs s) → wpAny (model prog w) A (vs.mapM firstOfTuple') Q E s
  | _, _, Q, .nil, h => by
    rw [List.mapM_nil]
    exact wpAny_pure (h [] rfl fun i z => by simp at z)
  | v :: vs, d :: ds, Q, .cons ⟨as, r⟩ t, h => by
    rw [List.mapM_cons]
    cases r with
    | @tuple a o xs n _ _ ho hc hd hr =>
      refine wpAny_bind ?_
      rw [kas_first_eq]
      refine wpAny_bind (Looks.here (show Looks (model prog w) s.heap (typeOf (.ref a)) o.cls from (Looks.ld ho).andThen .now) ?_)
      rw [hc, if_neg (by first | decide | simp)]
      refine wpAny_bind (listItems_at ho hd (wpAny_pure (wpAny_bind (firsts_at t (Q := fun bs s' => wpAny (model prog w) A (pure (xs[0]? :: bs)) Q E s') fun fs hl hf => wpAny_pure (h _ (by simp [hl]) fun i hi => ?_)))))
      cases i with
      | zero =>
        have e : d = [] := by simpa using hi
        subst e
        have hz := ReadsAll.length _ _ _ hr
        have : xs.size = 0 := by simpa using hz
        simp [this]
      | succ i => simpa using hf i (by simpa using hi)
theorem kind_first {vs : List Value} {ds : List (List PyData)} {Q : SortKind → Shared → Prop} (e : EachIs (fun v d => ∃ as, Reads s.heap v (.tuple d) as) vs ([] :: ds)) (h : Q oneType' s) : wpAny (model prog w) A (keyKind' vs.toArray) Q E s := by
  have e' := e
  have hT : ∀ v ∈ vs, Looks (model prog w) s.heap (typeOf v) (.type "tuple") := fun v hv => by
    obtain ⟨d, _, as, r⟩ := e'.left v hv
    exact looks_reads r
  have hl : 0 < vs.length := by rw [e.length]; simp
  rw [kat_kind_eq, List.mapM_toArray, map_eq_pure_bind]
  refine wpAny_bind (wpAny_bind (firsts_at e fun fs hlen hf => wpAny_pure ?_))
  have h0 : fs[0]? = some none := hf 0 rfl
  have hno : ¬ ((fs.toArray.all fun x => x.isSome) = true) := by
    simp only [List.all_toArray, List.all_eq_true]
    intro z
    have := z none (List.mem_of_getElem? h0)
    cases this
  have hf0 : ¬ ((fs.toArray[0]?.bind id).isSome = true) := by
    rw [List.getElem?_toArray, h0]
    simp
  rw [if_neg hno, if_neg hf0]
  rw [oneTypeOnly'_eq, List.mapM_toArray, map_eq_pure_bind]
  refine wpAny_bind (wpAny_bind (wpAny_bind (kas_mapM (r := Value.type "tuple") _ (fun v hv Q' hq => (hT v hv).here hq) (wpAny_pure ?_))))
  obtain ⟨v₀, vr, rfl⟩ : ∃ v r, vs = v :: r := by
    cases vs with
    | nil => simp at hl
    | cons v r => exact ⟨v, r, rfl⟩
  have hall : ((List.map (fun _ => Value.type "tuple") (v₀ :: vr)).toArray.all fun x => x == Value.type "tuple") = true := by
    simp only [List.all_toArray, List.all_map, List.all_eq_true]
    intro _ _
    exact beq_self_eq_true _
  have h1 : (List.map (fun _ => Value.type "tuple") (v₀ :: vr)).toArray[0]? = some (Value.type "tuple") := by simp
  rw [h1]
  simp only [hall, if_true]
  refine wpAny_pure ?_
  simp only [Option.isSome_some, if_true]
  exact wpAny_pure h
theorem sorts_first {vs : List Value} {ds : List (List PyData)} (e : EachIs (fun v d => ∃ as, Reads s.heap v (.tuple d) as) vs ([] :: ds)) (e2 : EachIs (fun v d => ∃ as, Reads s.heap v d as) vs (([] :: ds).map PyData.tuple)) (hal : AllAlike (([] :: ds).map PyData.tuple))
    (hu : ∀ d, d ∈ ([] :: ds).map PyData.tuple → A.units + d.depth < cLine) : SortsAt prog w A s (dataKind s.heap (([] :: ds).map PyData.tuple)) vs := by
  refine ⟨fun v hv => ?_, oneType', ?_, fun _ E Q hq => kind_first e hq⟩
  · obtain ⟨d, hd, as, r⟩ := e2.left v hv
    exact ⟨_, dataKind_some hal hd r⟩
  · intro E x y a b Q ha hb hq
    obtain ⟨d, as, hd, ra, rfl⟩ := dataKind_inv ha
    obtain ⟨d', as', hd', rb, rfl⟩ := dataKind_inv hb
    obtain ⟨xs, _, rfl⟩ := List.mem_map.mp hd
    obtain ⟨ys, _, rfl⟩ := List.mem_map.mp hd'
    rw [keyLt'_oneType]
    refine oneLt_tup ra rb (by have := hal _ hd _ hd'; simpa [alike] using this) (Nat.lt_of_le_of_lt (Nat.add_le_add_left (Nat.min_le_left _ _) _) (hu _ hd)) hq
end
end Oo
namespace Oo
open PySem L2
/-! ### readings in other words -/
theorem pe_as {X : Cx} {e : Expr} {t t' : TE} (h : PE X e t) (i : ∀ σ H Q, t' σ H Q → t σ H Q) : PE X e t' := ⟨fun pins s σ H Q I q => h.run pins s σ H Q I (i σ H Q q)⟩
theorem pt_as {X : Cx} {e : Expr} {t t' : TT} (h : PT X e t) (i : ∀ σ H Q, t' σ H Q → t σ H Q) : PT X e t' := ⟨fun pins s σ H Q I q => h.run pins s σ H Q I (i σ H Q q)⟩
theorem ps_as {X : Cx} {e : Stmt} {t t' : TS} (h : PS X e t) (i : ∀ D σ H, t' D σ H → t D σ H) : PS X e t' := ⟨fun pins s σ H D I q => h.run pins s σ H D I (i D σ H q)⟩
theorem Kp.seqL {K : PySem.W.Frag} {H H' : Hp} {a b : Addr} {xs : List V} (y : Kp a H H') (n : b ≠ a) (h : SqL K H b xs) : SqL K H' b xs := by
  rcases h with (h | ⟨o, h⟩) | h
  · exact .inl (.inl (y b _ n h))
  · exact .inl (.inr ⟨o, y b _ n h⟩)
  · exact .inr h
theorem same_bag {H H' : Hp} {a : Addr} {n : Nat} (s : Same H H') (b : BagAt H a n) : BagAt H' a n := by
  obtain ⟨d, x, c, e, r⟩ := b
  exact ⟨d, x, c, s _ _ e, r⟩
theorem same_kp {H H' : Hp} {a : Addr} (s : Same H H') : Kp a H H' := fun b o _ h => s b o h
theorem same_up {H : Hp} {p : Addr} {o : HO} (h : H p = none) : Same H (upd H p o) := fun b u q => by rw [upd_ne (ne_of_none q h)]; exact q
theorem sz {n : Nat} (h : n ≤ 1000) : n ≤ sizeLine := Nat.le_of_lt (small1000 h)
/-! ### promises -/
def spBag (K : PySem.W.Frag) : Sp := fun vs H Q _ => ∃ (a : Addr) (ns : List Int) (i : Int), vs = [.ref a, .int i] ∧ SqL K H a (ns.map V.int) ∧ ns.length ≤ 63 ∧ 0 ≤ i ∧ i ≤ 10 ∧
  ∀ (p : Addr) (H' : Hp), H p = none → Same H H' → BagAt H' p 0 → Q (.ref p) H'
def spOf (K : PySem.W.Frag) : Sp := fun vs H Q _ => ∃ (a l : Addr) (xs : List V) (n : Nat), vs = [.ref a, .ref l] ∧ BagAt H a n ∧ n < 1000000 ∧ SqL K H l xs ∧ l ≠ a ∧ 0 < xs.length ∧ xs.length ≤ 1000 ∧
  ∀ (v : V) (H' : Hp), v ∈ xs → BagAt H' a (n + 1) → Kp a H H' → Q v H'
section
variable {P : Program} {w : World} {K : PySem.W.Frag} {mg : Str → Option Value} {base : Heap}
theorem scBag : FnScope ["_law_script", "_law_at", "_law_cell", "_law_digits"] ["_law_script", "_law_at"] (defScope sBag) := ⟨rfl, rfl, rfl, by decide +kernel, rfl, by decide +kernel, by decide +kernel⟩
theorem ok_bag {f : Addr} {fd : FuncData} (F : Fun K "_law_bag" "_law_bag" sBag f fd) (mi : mg "int" = none) (ma : mg "abs" = none) (ml : mg "len" = none) : FnOk P w K mg base CX0 1 f fd ["_law_script", "_law_at"] (spBag K) := by
  refine F.ok scBag (fun vs H Q E h => ?_) (fun cdv A outer s H vs Q E hr h => ?_)
  · obtain ⟨a, ns, i, rfl, _⟩ := h
    rfl
  obtain ⟨a, ns, i, rfl, hS, hl, h0, h1, k⟩ := h
  refine ⟨_, pss_cons (ps_set (i := 2) scBag.nd rfl (.inl rfl) (pe_as (t' := fun σ H Q => σ[0]? = some (some (.ref a)) ∧ σ[1]? = some (some (.int i)) ∧ SqL K H a (ns.map V.int) ∧ ∀ c : Int, Q (.int c) H)
        (pe_ifExp (pt_cmpR op_lt (pv 1) (pe_callB call_len_seq (by rfl) ml PySem.boot_len (pa_cons (pv 0) pa_nil)) (nomark _))
        (pe_callTy call_int1 (by rfl) mi PyProof.Rows.boot_int (pa_cons (pe_ix ix_list (pv 0) (pv 1) (fun _ _ => rfl)) pa_nil)) pe_int) ?c1))
    (pss_cons (ps_set (i := 3) scBag.nd rfl (.inl rfl) (pe_as (t' := fun σ H Q => (∃ c : Int, σ[2]? = some (some (.int c))) ∧ ∀ d : Int, 0 ≤ d → Q (.int d) H)
        (pe_ifExp (pt_cmpR op_ge (pe_callB call_abs (by rfl) ma PyProof.Rows.boot_abs (pa_cons (pv 2) pa_nil)) (pe_op op_pow pe_int pe_int) (nomark _))
        (pe_callB call_abs (by rfl) ma PyProof.Rows.boot_abs (pa_cons (pv 2) pa_nil)) pe_int) ?c2))
    (pss_one (ps_ret (pe_lst (pa_cons (pv 3) (pa_cons (pe_op op_mod (pe_op op_mul (pe_callTy call_int1 (by rfl) mi PyProof.Rows.boot_int (pa_cons (pe_op op_add (pe_op op_add (pe_op op_mod (pv 2) pe_int) (pe_op op_mul pe_int (pv 1))) pe_int) pa_nil)) pe_int) pe_int) (pa_cons pe_int pa_nil))))))), ?_⟩
  case c1 =>
    rintro σ H Q ⟨e0, e1, hS, q⟩
    have hlen : (ns.map V.int).length = ns.length := List.length_map _
    refine ⟨_, e1, _, e0, a, _, rfl, .inl hS, _, _, rfl, rfl, _, rfl, ?_⟩
    refine ite2 (fun z => ?_) (fun z => q 0)
    have z' : i < ((ns.map V.int).length : Int) := of_decide_eq_true z
    have hi : i.toNat < ns.length := by omega
    refine ⟨_, e0, _, e1, a, _, _, _, rfl, rfl, hS, at_of (j := i.toNat) (v := V.int ns[i.toNat]) (by omega) (by rw [List.getElem?_map, List.getElem?_eq_getElem hi] <;> rfl), .inl ⟨_, rfl, q _⟩⟩
  case c2 =>
    rintro σ H Q ⟨⟨c, e2⟩, q⟩
    refine ⟨_, e2, _, rfl, _, _, rfl, rfl, ⟨by decide, by decide, by decide⟩, _, _, rfl, rfl, _, rfl, ?_⟩
    refine ite2 (fun z => ?_) (fun z => q 0 (Int.le_refl 0))
    refine ⟨_, e2, _, rfl, q _ ?_⟩
    split <;> omega
  refine ⟨rfl, rfl, hS, fun c => ⟨⟨c, rfl⟩, fun d hd => ?_⟩⟩
  refine ⟨_, rfl, _, rfl, _, _, rfl, rfl, (by show (0 : Int) < 2305843009213693951; decide), _, rfl, _, _, rfl, rfl, .inl (by decide), _, _, rfl, rfl, _, _, rfl, rfl, .inl ⟨_, rfl, _, _, rfl, rfl, .inr (by decide), _, _, rfl, rfl, (by show (0 : Int) < 2305843009213693951; decide), sz (by show 3 ≤ 1000; decide), fun p hp => ?_⟩⟩
  refine k p _ hp (same_up hp) ⟨d, _, 0, upd_same, hd, ?_, ?_, by omega, by omega⟩
  · exact Int.emod_nonneg _ (by decide)
  · exact Int.lt_trans (Int.emod_lt_of_pos _ (show (0 : Int) < 2305843009213693951 by decide)) (by decide)
theorem scOf : FnScope ["_law_bag_here", "_law_items"] ["_law_bag_here", "_law_items"] (defScope sOf) := ⟨rfl, rfl, rfl, by decide +kernel, rfl, by decide +kernel, by decide +kernel⟩
theorem ok_of {f g : Addr} {fd gd : FuncData} (F : Fun K "_law_of" "_law_of" sOf f fd) (G : FnOk P w K mg base CX0 1 g gd ["_law_bag_here", "_law_many"] spTake) (kG : PySem.W.keepIn K (.ref g) = true) (bG : Binds K gd ["_law_bag_here", "_law_many"] []) (mG : mg "_law_take" = some (.ref g)) (ml : mg "len" = none) :
    FnOk P w K mg base CX0 2 f fd ["_law_bag_here", "_law_items"] (spOf K) := by
  refine F.ok scOf (fun vs H Q E h => ?_) (fun cdv A outer s H vs Q E hr h => ?_)
  · obtain ⟨a, l, xs, n, rfl, _⟩ := h
    rfl
  obtain ⟨a, l, xs, n, rfl, hB, hn, hS, hne, h0, h1, k⟩ := h
  refine ⟨_, pss_one (ps_ret (pe_ix ix_list (pv 1) (pe_call G hr rfl mG kG bG .nil pass0 (pa_cons (pv 0) (pa_cons (pe_callB call_len_seq (by rfl) ml PySem.boot_len (pa_cons (pv 1) pa_nil)) pa_nil))) (fun _ _ => rfl))), ?_⟩
  refine ⟨_, rfl, _, rfl, _, rfl, l, _, rfl, .inl hS, a, _, n, rfl, hB, hn, by omega, by omega, fun r H' r0 r1 hB' kp => ?_⟩
  have hr : r.toNat < xs.length := by omega
  exact ⟨l, xs, r, xs[r.toNat], rfl, rfl, kp.seqL hne hS, at_of (j := r.toNat) (by omega) (List.getElem?_eq_getElem hr), k _ H' (List.getElem_mem hr) hB' kp⟩
end
end Oo
namespace Oo
open PySem L2 PyProof.Rows
/-! ### some of a list of texts, ascending -/
/-- all but what stands at the addresses of S is as it was -/
def Kq (S : List Addr) (H H' : Hp) : Prop := ∀ b o, b ∉ S → H b = some o → H' b = some o
theorem Kq.refl (S : List Addr) (H : Hp) : Kq S H H := fun _ _ _ h => h
theorem Kq.trans {S : List Addr} {H H1 H2 : Hp} (x : Kq S H H1) (y : Kq S H1 H2) : Kq S H H2 := fun b o n h => y b o n (x b o n h)
theorem Kq.mono {S T : List Addr} {H H' : Hp} (x : Kq S H H') (h : ∀ b, b ∈ S → b ∈ T) : Kq T H H' := fun b o n e => x b o (fun m => n (h b m)) e
theorem Kp.kq {a : Addr} {H H' : Hp} (x : Kp a H H') : Kq [a] H H' := fun b o n e => x b o (fun z => n (by rw [z]; exact List.mem_cons_self)) e
theorem Kq.kp {a : Addr} {H H' : Hp} (x : Kq [a] H H') : Kp a H H' := fun b o n e => x b o (fun z => n (List.mem_singleton.mp z)) e
theorem same_kq {S : List Addr} {H H' : Hp} (x : Same H H') : Kq S H H' := fun b o _ e => x b o e
theorem Kq.new {S : List Addr} {H H' : Hp} {p : Addr} {o : HO} (x : Kq S H H') (h : H p = none) : Kq S H (upd H' p o) := fun b u n e => by rw [upd_ne (ne_of_none e h)]; exact x b u n e
theorem Kq.at_ {S : List Addr} {H H' : Hp} {p : Addr} {o : HO} (x : Kq S H H') (h : p ∈ S) : Kq S H (upd H' p o) := fun b u n e => by rw [upd_ne (fun z => n (by rw [z]; exact h))]; exact x b u n e
theorem Kq.seqL {K : PySem.W.Frag} {S : List Addr} {H H' : Hp} {b : Addr} {xs : List V} (y : Kq S H H') (n : b ∉ S) (h : SqL K H b xs) : SqL K H' b xs := by
  rcases h with (h | ⟨o, h⟩) | h
  · exact .inl (.inl (y b _ n h))
  · exact .inl (.inr ⟨o, y b _ n h⟩)
  · exact .inr h
/-- an address that was free stays so in the past -/
theorem Kq.free {S : List Addr} {H H' : Hp} {p : Addr} (x : Kq S H H') (n : p ∉ S) (h : H' p = none) : H p = none := by
  cases e : H p with
  | none => rfl
  | some o =>
    rw [x p o n e] at h
    cases h
/-- tuples stay, where lists stand at S -/
theorem Kq.tup {S : List Addr} {H H' : Hp} {p : Addr} {xs : List V} (x : Kq S H H') (hs : ∀ b ∈ S, ∀ ys, H b ≠ some (.tup ys)) (h : H p = some (.tup xs)) : H' p = some (.tup xs) := x p _ (fun m => hs p m xs h) h
theorem Kq.put {S : List Addr} {H H' : Hp} {p : Addr} {o : HO} (x : Kq S H H') (h : H p = none) : Kq S H (upd H' p o) := fun b u n e => by rw [upd_ne (ne_of_none e h)]; exact x b u n e
theorem BagAt.ne {H : Hp} {a p : Addr} {n : Nat} (b : BagAt H a n) (h : H p = none) : p ≠ a := fun z => by
  obtain ⟨d, x, c, e, _⟩ := b
  rw [z, e] at h
  cases h
theorem BagAt.put {H : Hp} {a p : Addr} {n : Nat} {o : HO} (b : BagAt H a n) (h : p ≠ a) : BagAt (upd H p o) a n := by
  obtain ⟨d, x, c, e, r⟩ := b
  exact ⟨d, x, c, by rw [upd_ne h.symm]; exact e, r⟩
theorem take_succ_get {α : Type} (xs : List α) (i : Nat) (h : i < xs.length) : xs.take (i + 1) = xs.take i ++ [xs[i]] := by
  rw [List.take_succ, List.getElem?_eq_getElem h]
  rfl
def spSome (K : PySem.W.Frag) : Sp := fun vs H Q _ => ∃ (a l : Addr) (xs : List Str) (n : Nat), vs = [.ref a, .ref l] ∧ BagAt H a n ∧ n < 900000 ∧ SqL K H l (xs.map V.str) ∧ l ≠ a ∧ xs.length ≤ 10 ∧
  ∀ (p : Addr) (ys zs : List Str) (H' : Hp), zs.Sublist xs → ys.Perm zs → sortedS ys = true → H' p = some (.tup (ys.map V.str)) → H p = none → BagAt H' a (n + xs.length) → Kq [a] H H' → Q (.ref p) H'
section
variable {P : Program} {w : World} {K : PySem.W.Frag} {mg : Str → Option Value} {base : Heap}
theorem scSome : FnScope ["_law_bag_here", "_law_items", "_law_one"] ["_law_bag_here", "_law_items"] (defScope sSome) := ⟨rfl, rfl, rfl, by decide +kernel, rfl, by decide +kernel, by decide +kernel⟩
theorem ok_some {f g : Addr} {fd gd : FuncData} (F : Fun K "_law_some" "_law_some" sSome f fd) (G : FnOk P w K mg base CX0 1 g gd ["_law_bag_here", "_law_many"] spTake) (kG : PySem.W.keepIn K (.ref g) = true) (bG : Binds K gd ["_law_bag_here", "_law_many"] []) (mG : mg "_law_take" = some (.ref g))
    (mt : mg "tuple" = none) (ms : mg "sorted" = none) : FnOk P w K mg base CX0 2 f fd ["_law_bag_here", "_law_items"] (spSome K) := by
  refine F.ok scSome (fun vs H Q E h => ?_) (fun cdv A outer s H vs Q E hr h => ?_)
  · obtain ⟨a, l, xs, n, rfl, _⟩ := h
    rfl
  obtain ⟨a, l, xs, n, rfl, hB, hn, hS, hne, h1, k⟩ := h
  refine ⟨_, pss_one (ps_ret (pe_tupleOf (by rfl) mt (pe_callB cr_sortedS (by rfl) ms (by decide +kernel) (pa_cons
    (pe_lc (own := [("_law_one", 2)]) (g := gName 2) (by rfl) scSome.nd (pi_list (pv 1)) (blkOk_by (own := [("_law_one", 2)]) (N := ["_law_bag_here", "_law_items", "_law_one"]) (sc := defScope sSome) (by decide +kernel))
      (fun _ _ _ _ _ => pg_name (i := 2) scSome.nd rfl (Or.inl rfl)) (fun _ _ _ _ _ => pts_one (pt_cmpR op_eq (pe_call G hr rfl mG kG bG .nil pass0 (pa_cons (pv 0) (pa_cons pe_int pa_nil))) pe_int (nomark _))) (fun _ _ _ _ _ => pv 2)) pa_nil)))), ?_⟩
  refine ⟨_, rfl, l, rfl, ⟨_, hS⟩, fun D hD => ?_⟩
  have nDa : D ≠ a := fun z => by
    obtain ⟨d, x, c, e, _⟩ := hB
    rw [z, e] at hD
    cases hD
  refine lc_list (K := K) (a := l) (xs := xs.map V.str) (fun i H' => ∃ kept : List Str, kept.Sublist (xs.take i) ∧ H' D = some (.lst (kept.map V.str)) ∧ BagAt H' a (n + i) ∧ Kq [a] H H')
    ⟨[], List.Sublist.refl _, upd_same, hB.new hD, (Kq.refl _ _).new hD⟩ (fun i H' _ ⟨_, _, _, _, q⟩ => q.seqL (by simp [hne]) hS) ?_ ?_
  · rintro i y H' hi ⟨kept, hk, eD, hB', kq⟩
    have hil : i < xs.length := by
      have := (List.getElem?_eq_some_iff.mp hi).1
      rw [List.length_map] at this
      exact this
    have ey : y = V.str xs[i] := by
      rw [List.getElem?_map, List.getElem?_eq_getElem hil] at hi
      exact (Option.some.inj hi).symm
    subst ey
    have et : xs.take (i + 1) = xs.take i ++ [xs[i]] := take_succ_get xs i hil
    refine ⟨rfl, _, rfl, a, 2, n + i, rfl, hB', by omega, by decide, by decide, fun r H2 r0 r1 hB2 kp => ⟨rfl, _, rfl, ?_⟩⟩
    have eD2 : H2 D = some (.lst (kept.map V.str)) := kp D _ nDa eD
    have kq2 : Kq [a] H H2 := kq.trans kp.kq
    refine ite2 (fun z => ?_) (fun z => ?_)
    · refine ⟨_, rfl, _, eD2, ?_, kept ++ [xs[i]], ?_, ?_, ?_, kq2.put hD⟩
      · rw [List.length_map]
        have := hk.length_le
        rw [List.length_take] at this
        exact small1000 (by omega)
      · rw [et]
        exact hk.append (List.Sublist.refl _)
      · rw [upd_same, List.map_append]
        rfl
      · exact (hB2.mono (by omega)).put nDa
    · exact ⟨kept, by rw [et]; exact hk.trans (List.sublist_append_left _ _), eD2, hB2.mono (by omega), kq2⟩
  · rintro H' ⟨kept, hk, eD, hB', kq⟩
    rw [List.length_map] at hk hB'
    rw [List.take_length] at hk
    have hl : kept.length ≤ 10 := Nat.le_trans hk.length_le h1
    refine ⟨D, kept, rfl, SqL.of eD, by omega, fun ys p hp hs hn' => ?_⟩
    refine .inl ⟨p, _, rfl, SqL.of upd_same, fun q hq => ?_⟩
    have hqp : q ≠ p := fun z => by
      rw [z, upd_same] at hq
      cases hq
    rw [upd_ne hqp] at hq
    have hpn : H p = none := kq.free (by simp [hB'.ne hn']) hn'
    have hqn : H q = none := kq.free (by simp [hB'.ne hq]) hq
    exact k q ys kept _ hk hp hs upd_same hqn ((hB'.put (hB'.ne hn')).put (hB'.ne hq)) ((kq.put hpn).put hqn)
end
end Oo
namespace Oo
open PySem L2 PyProof.Rows
abbrev sKit : Stmt := top 65
/-! ### places, functions, kits -/
def okName (x : Str) : Bool := decide (1 ≤ x.length) && decide (x.length ≤ 8) && x.cps.toList.all fun c => decide (97 ≤ c) && decide (c ≤ 122)
structure Fn where
  name : Str
  ar : Int
  rd : List Str
  st : List Str
def PlW (xs : List Str) : Prop := xs.length ≤ 4 ∧ (∀ x ∈ xs, okName x = true) ∧ sortedS xs = true ∧ xs.Nodup
def FnW (f : Fn) : Prop := okName f.name = true ∧ 0 ≤ f.ar ∧ f.ar ≤ 3 ∧ PlW f.rd ∧ PlW f.st
def RowAt (H : Hp) (v : V) (f : Fn) : Prop := ∃ p r s : Addr, v = .ref p ∧ H p = some (.tup [.str f.name, .int f.ar, .ref r, .ref s]) ∧ H r = some (.tup (f.rd.map V.str)) ∧ H s = some (.tup (f.st.map V.str))
structure KitW (ps : List Str) (fns : List Fn) : Prop where
  pl : ps.length = 4
  pok : ∀ x ∈ ps, okName x = true
  pnd : ps.Nodup
  fl : fns.length ≤ 3
  fnd : (fns.map (·.name)).Nodup
  fok : ∀ f ∈ fns, FnW f
  sub : ∀ f ∈ fns, (∀ x ∈ f.rd, x ∈ ps) ∧ ∀ x ∈ f.st, x ∈ ps
structure KitAt (H : Hp) (kd pl fl : Addr) (ps : List Str) (fns : List Fn) (g : Bool) : Prop where
  kd : H kd = some (.dK [(Sum.inr "places", .ref pl), (Sum.inr "functions", .ref fl), (Sum.inr "guards", .bl g)])
  pl : H pl = some (.lst (ps.map V.str))
  fl : ∃ rows, H fl = some (.lst rows) ∧ Paired (RowAt H) rows fns
/-- lists stand at the addresses of S -/
def Mut (H : Hp) (S : List Addr) : Prop := ∀ b ∈ S, ∃ xs, H b = some (.lst xs)
theorem Mut.notup {H : Hp} {S : List Addr} (m : Mut H S) : ∀ b ∈ S, ∀ ys, H b ≠ some (.tup ys) := fun b hb ys z => by
  obtain ⟨xs, e⟩ := m b hb
  rw [e] at z
  cases z
theorem Mut.same {H H' : Hp} {S : List Addr} (m : Mut H S) (s : Same H H') : Mut H' S := fun b hb => (m b hb).imp fun _ e => s _ _ e
theorem BagAt.mut {H : Hp} {a : Addr} {n : Nat} (b : BagAt H a n) : Mut H [a] := fun c hc => by
  obtain ⟨d, x, c', e, _⟩ := b
  rw [List.mem_singleton.mp hc]
  exact ⟨_, e⟩
theorem RowAt.keep {H H' : Hp} {v : V} {f : Fn} (h : ∀ p xs, H p = some (.tup xs) → H' p = some (.tup xs)) (r : RowAt H v f) : RowAt H' v f := by
  obtain ⟨p, r, s, e, h1, h2, h3⟩ := r
  exact ⟨p, r, s, e, h _ _ h1, h _ _ h2, h _ _ h3⟩
theorem KitAt.kq {S : List Addr} {H H' : Hp} {kd pl fl : Addr} {ps : List Str} {fns : List Fn} {g : Bool} (k : KitAt H kd pl fl ps fns g) (q : Kq S H H') (m : Mut H S) (hp : pl ∉ S) (hf : fl ∉ S) : KitAt H' kd pl fl ps fns g := by
  obtain ⟨h1, h2, rows, h3, h4⟩ := k
  refine ⟨q _ _ (fun z => ?_) h1, q _ _ hp h2, rows, q _ _ hf h3, L2.Paired.mapP h4 fun a b r => r.keep fun p xs e => q.tup m.notup e⟩
  obtain ⟨xs, e⟩ := m _ z
  rw [e] at h1
  cases h1
theorem cutV_sub (xs : List V) (lo hi : Option Int) : (cutV xs lo hi).Sublist xs := by
  unfold cutV
  exact (List.take_sublist _ _).trans (List.drop_sublist _ _)
theorem sub_map_str {ys : List V} {xs : List Str} (h : ys.Sublist (xs.map V.str)) : ∃ zs : List Str, zs.Sublist xs ∧ ys = zs.map V.str := by
  obtain ⟨zs, h1, h2⟩ := List.sublist_map_iff.mp h
  exact ⟨zs, h1, h2⟩
/-- texts written in a list -/
def pools : List (List Str) := [["x", "y", "z", "w"], ["a", "aa", "aaa", "aaaaaaaa"], ["f", "g", "h", "x"], ["zb", "zc", "b", "c"]]
def namesL : List (List Str) := [["f", "g", "h"], ["a", "ab", "abcdefgh"], ["x", "f", "zz"]]
theorem pools_ok : ∀ ps ∈ pools, ps.length = 4 ∧ (∀ x ∈ ps, okName x = true) ∧ ps.Nodup := by decide +kernel
theorem names_ok : ∀ ps ∈ namesL, ps.length = 3 ∧ (∀ x ∈ ps, okName x = true) ∧ ps.Nodup := by decide +kernel
theorem paired_mem {α β : Type} {F : α → β → Prop} : ∀ {xs : List α} {ys : List β} {x : α}, Paired F xs ys → x ∈ xs → ∃ y, y ∈ ys ∧ F x y
  | _, _, _, .nil, h => by cases h
  | _, _, x, .cons f t, h => by
    rcases List.mem_cons.mp h with e | h
    · rw [e]; exact ⟨_, List.mem_cons_self, f⟩
    · obtain ⟨y, h1, h2⟩ := paired_mem t h
      exact ⟨y, List.mem_cons_of_mem _ h1, h2⟩
/-- a new list of new lists of texts -/
def tLL (LL : List (List Str)) : TE := fun _ H Q => ∀ (p : Addr) (as : List Addr) (H' : Hp), H p = none → (∀ x ∈ as, H x = none) → Same H H' → H' p = some (.lst (as.map V.ref)) → Paired (fun (x : Addr) (ps : List Str) => H' x = some (.lst (ps.map V.str))) as LL → Q (.ref p) H'
def kP : Key := Sum.inr "places"
def kF : Key := Sum.inr "functions"
def kG : Key := Sum.inr "guards"
theorem kit_merge (x y z : V) : mergeK [] [(kP, x), (kF, y), (kG, z)] = [(kP, x), (kF, y), (kG, z)] := by
  have h1 : ¬ (kP = kF) := by decide +kernel
  have h2 : ¬ (kP = kG) := by decide +kernel
  have h3 : ¬ (kF = kG) := by decide +kernel
  simp [mergeK, putK, h1, h2, h3]
def spKit : Sp := fun vs H Q _ => ∃ (a : Addr) (g : Bool) (n : Nat), vs = [.ref a, .bl g] ∧ BagAt H a n ∧ n < 800000 ∧
  ∀ (kd pl fl : Addr) (ps : List Str) (fns : List Fn) (H' : Hp), KitAt H' kd pl fl ps fns g → KitW ps fns → pl ≠ a → fl ≠ a → BagAt H' a (n + 40) → Kq [a] H H' → Q (.ref kd) H'
section
variable {P : Program} {w : World} {K : PySem.W.Frag} {mg : Str → Option Value} {base : Heap} {X : Cx}
theorem scKit : FnScope ["_law_bag_here", "_law_guards", "_law_pools", "_law_places", "_law_names", "_law_functions", "_law_name"] ["_law_bag_here", "_law_guards"] (defScope sKit) := ⟨rfl, rfl, rfl, by decide +kernel, rfl, by decide +kernel, by decide +kernel⟩
abbrev pBN := ["_law_bag_here", "_law_many"]
abbrev pBI := ["_law_bag_here", "_law_items"]
theorem ok_kit {f ft fo fs : Addr} {fd fdt fdo fds : FuncData} (F : Fun K "_law_kit" "_law_kit" sKit f fd)
    (GT : FnOk P w K mg base CX0 1 ft fdt ["_law_bag_here", "_law_many"] spTake) (kT : PySem.W.keepIn K (.ref ft) = true) (bT : Binds K fdt ["_law_bag_here", "_law_many"] []) (mT : mg "_law_take" = some (.ref ft))
    (GO : FnOk P w K mg base CX0 2 fo fdo ["_law_bag_here", "_law_items"] (spOf K)) (kO : PySem.W.keepIn K (.ref fo) = true) (bO : Binds K fdo ["_law_bag_here", "_law_items"] []) (mO : mg "_law_of" = some (.ref fo))
    (GS : FnOk P w K mg base CX0 2 fs fds ["_law_bag_here", "_law_items"] (spSome K)) (kS : PySem.W.keepIn K (.ref fs) = true) (bS : Binds K fds ["_law_bag_here", "_law_items"] []) (mS : mg "_law_some" = some (.ref fs)) :
    FnOk P w K mg base CX0 3 f fd ["_law_bag_here", "_law_guards"] spKit := by
  refine F.ok scKit (fun vs H Q E h => ?_) (fun cdv A outer s H vs Q E hr h => ?_)
  · obtain ⟨a, g, n, rfl, _⟩ := h
    rfl
  obtain ⟨a, g, n, rfl, hB, hn, k⟩ := h
  have hr1 : Room 1 _ := hr.mono (by decide)
  have hu := hu_of hr
  refine ⟨_, pss_cons (ps_set (i := 2) scKit.nd rfl (.inl rfl) (pe_as (t' := tLL pools) (pe_lst (pa_cons (pe_lst (pa_cons pe_str (pa_cons pe_str (pa_cons pe_str (pa_cons pe_str pa_nil))))) (pa_cons (pe_lst (pa_cons pe_str (pa_cons pe_str (pa_cons pe_str (pa_cons pe_str pa_nil)))))
        (pa_cons (pe_lst (pa_cons pe_str (pa_cons pe_str (pa_cons pe_str (pa_cons pe_str pa_nil))))) (pa_cons (pe_lst (pa_cons pe_str (pa_cons pe_str (pa_cons pe_str (pa_cons pe_str pa_nil))))) pa_nil))))) ?c1))
    (pss_cons (ps_set (i := 3) scKit.nd rfl (.inl rfl) (pe_call GO hr rfl mO kO bO .nil pass0 (pa_cons (pv 0) (pa_cons (pv 2) pa_nil))))
    (pss_cons (ps_set (i := 4) scKit.nd rfl (.inl rfl) (pe_call GO hr rfl mO kO bO .nil pass0 (pa_cons (pv 0) (pa_cons (pe_as (t' := tLL namesL) (pe_lst (pa_cons (pe_lst (pa_cons pe_str (pa_cons pe_str (pa_cons pe_str pa_nil)))) (pa_cons (pe_lst (pa_cons pe_str (pa_cons pe_str (pa_cons pe_str pa_nil))))
        (pa_cons (pe_lst (pa_cons pe_str (pa_cons pe_str (pa_cons pe_str pa_nil)))) pa_nil)))) ?c2) pa_nil))))
    (pss_cons (ps_set (i := 5) scKit.nd rfl (.inl rfl) (pe_lst pa_nil))
    (pss_cons (ps_for PassesOwn.never rfl (pi_list (pe_slice sl_list (pv 4) po_none (po_some (pe_call GT hr1 rfl mT kT bT .nil pass0 (pa_cons (pv 0) (pa_cons pe_int pa_nil)))))) (pg_name (i := 6) scKit.nd rfl (.inl rfl))
        (pss_one (ps_expr (pe_bm PySem.F.plainAttrs_list PySem.F.slot_list_append PySem.F.type_list_append mt_append (pv 5) (pa_cons (pe_tup (pa_cons (pv 6) (pa_cons (pe_call GT hr1 rfl mT kT bT .nil pass0 (pa_cons (pv 0) (pa_cons pe_int pa_nil)))
          (pa_cons (pe_call GS hr rfl mS kS bS .nil pass0 (pa_cons (pv 0) (pa_cons (pv 3) pa_nil))) (pa_cons (pe_call GS hr rfl mS kS bS .nil pass0 (pa_cons (pv 0) (pa_cons (pv 3) pa_nil))) pa_nil))))) pa_nil)))))
    (pss_one (ps_ret (pe_disp (pps_cons pe_str (pv 3) (pps_cons pe_str (pv 5) (pps_cons pe_str (pv 1) pps_nil))) (by rfl) (by rfl) (fun z => by cases z) (by decide)))))))), ?_⟩
  case c1 =>
    intro σ H Q q
    refine ⟨sz (by decide), fun l1 n1 => ⟨sz (by decide), fun l2 n2 => ⟨sz (by decide), fun l3 n3 => ⟨sz (by decide), fun l4 n4 => ⟨sz (by show 4 ≤ 1000; decide), fun lp np => ?_⟩⟩⟩⟩⟩
    have s1 := same_up (o := .lst [V.str "x", .str "y", .str "z", .str "w"]) n1
    have s2 := same_up (o := .lst [V.str "a", .str "aa", .str "aaa", .str "aaaaaaaa"]) n2
    have s3 := same_up (o := .lst [V.str "f", .str "g", .str "h", .str "x"]) n3
    have s4 := same_up (o := .lst [V.str "zb", .str "zc", .str "b", .str "c"]) n4
    have s5 := same_up (o := .lst [V.ref l1, .ref l2, .ref l3, .ref l4]) np
    have t2 := s1.trans s2
    have t3 := t2.trans s3
    have t4 := t3.trans s4
    refine q lp [l1, l2, l3, l4] _ (t4.free np) ?_ (t4.trans s5) upd_same (.cons (s5 _ _ (s4 _ _ (s3 _ _ (s2 _ _ upd_same)))) (.cons (s5 _ _ (s4 _ _ (s3 _ _ upd_same))) (.cons (s5 _ _ (s4 _ _ upd_same)) (.cons (s5 _ _ upd_same) .nil))))
    intro x hx
    simp only [List.mem_cons, List.not_mem_nil, or_false] at hx
    rcases hx with rfl | rfl | rfl | rfl
    · exact n1
    · exact s1.free n2
    · exact t2.free n3
    · exact t3.free n4
  case c2 =>
    intro σ H Q q
    refine ⟨sz (by decide), fun l1 n1 => ⟨sz (by decide), fun l2 n2 => ⟨sz (by decide), fun l3 n3 => ⟨sz (by show 3 ≤ 1000; decide), fun lp np => ?_⟩⟩⟩⟩
    have s1 := same_up (o := .lst [V.str "f", .str "g", .str "h"]) n1
    have s2 := same_up (o := .lst [V.str "a", .str "ab", .str "abcdefgh"]) n2
    have s3 := same_up (o := .lst [V.str "x", .str "f", .str "zz"]) n3
    have s5 := same_up (o := .lst [V.ref l1, .ref l2, .ref l3]) np
    have t2 := s1.trans s2
    have t3 := t2.trans s3
    refine q lp [l1, l2, l3] _ (t3.free np) ?_ (t3.trans s5) upd_same (.cons (s5 _ _ (s3 _ _ (s2 _ _ upd_same))) (.cons (s5 _ _ (s3 _ _ upd_same)) (.cons (s5 _ _ upd_same) .nil)))
    intro x hx
    simp only [List.mem_cons, List.not_mem_nil, or_false] at hx
    rcases hx with rfl | rfl | rfl
    · exact n1
    · exact s1.free n2
    · exact t2.free n3
  -- pools
  intro lp as1 H1 np na s1 e1 P1
  have hB1 := same_bag s1 hB
  have npa : lp ≠ a := hB.ne np
  -- places
  refine ⟨_, rfl, _, rfl, a, lp, _, n, rfl, hB1, by omega, SqL.of e1, npa, ?_, ?_, fun v H2 hv hB2 kp2 => ?_⟩
  · rw [List.length_map, P1.length]; decide
  · rw [List.length_map, P1.length]; decide
  obtain ⟨pl, hpl, rfl⟩ := List.mem_map.mp hv
  obtain ⟨ps, hps, epl⟩ : ∃ ps, ps ∈ pools ∧ H1 pl = some (.lst (ps.map V.str)) := paired_mem P1 hpl
  have nplp : pl ≠ a := hB.ne (na _ hpl)
  have epl2 := kp2 _ _ nplp epl
  have q2 : Kq [a] H H2 := (same_kq s1).trans kp2.kq
  obtain ⟨pk1, pk2, pk3⟩ := pools_ok ps hps
  -- names
  refine ⟨_, rfl, ?_⟩
  intro ln as2 H3 nn na2 s3 e3 P3
  have hB3 := same_bag s3 hB2
  have nna : ln ≠ a := hB2.ne nn
  refine ⟨a, ln, _, n + 1, rfl, hB3, by omega, SqL.of e3, nna, ?_, ?_, fun v H4 hv4 hB4 kp4 => ?_⟩
  · rw [List.length_map, P3.length]; decide
  · rw [List.length_map, P3.length]; decide
  obtain ⟨nl, hnl, rfl⟩ := List.mem_map.mp hv4
  obtain ⟨ns, hns, enl⟩ : ∃ ps, ps ∈ namesL ∧ H3 nl = some (.lst (ps.map V.str)) := paired_mem P3 hnl
  obtain ⟨nk1, nk2, nk3⟩ := names_ok ns hns
  have nnl : nl ≠ a := hB2.ne (na2 _ hnl)
  have enl4 := kp4 _ _ nnl enl
  have q4 : Kq [a] H H4 := (q2.trans (same_kq s3)).trans kp4.kq
  have epl4 := kp4 _ _ nplp (s3 _ _ epl2)
  -- functions = []
  refine ⟨sz (by decide), fun fl nf => ?_⟩
  have nfa : fl ≠ a := hB4.ne nf
  have nfp : pl ≠ fl := ne_of_none epl4 nf
  have nfn : nl ≠ fl := ne_of_none enl4 nf
  -- names[:take(bag, 4)]
  refine ⟨_, rfl, _, rfl, a, 4, n + 2, rfl, hB4.new nf, by omega, by decide, by decide, fun r H5 r0 r1 hB5 kp5 => ?_⟩
  have efl5 : H5 fl = some (.lst []) := kp5 _ _ nfa upd_same
  have enl5 : H5 nl = some (.lst (ns.map V.str)) := kp5 _ _ nnl (by rw [upd_ne nfn]; exact enl4)
  have epl5 : H5 pl = some (.lst (ps.map V.str)) := kp5 _ _ nplp (by rw [upd_ne nfp]; exact epl4)
  have hfl : H fl = none := q4.free (by simp [nfa]) nf
  have q5 : Kq [a] H H5 := (q4.put hfl).trans kp5.kq
  refine ⟨r, rfl, nl, _, rfl, SqL.of enl5, fun cp nc => ?_⟩
  have nca : cp ≠ a := hB5.ne nc
  have hcp : H cp = none := q5.free (by simp [nca]) nc
  obtain ⟨zs, hz1, hz2⟩ := sub_map_str (cutV_sub (ns.map V.str) none (some r))
  rw [hz2]
  have hz3 : zs.length ≤ 3 := by have := hz1.length_le; omega
  have ncf : cp ≠ fl := fun z => by rw [z, efl5] at nc; cases nc
  have ncp : cp ≠ pl := fun z => by rw [z, epl5] at nc; cases nc
  have nfpl : fl ≠ pl := nfp.symm
  refine ⟨cp, rfl, ⟨_, SqL.of upd_same⟩, for_list (K := K) (a := cp) (xs := zs.map V.str) (fun i σ H' => ∃ (v : Option V) (rows : List V) (fns : List Fn), σ = [some (.ref a), some (.bl g), some (.ref lp), some (.ref pl), some (.ref nl), some (.ref fl), v] ∧
      H' fl = some (.lst rows) ∧ Paired (RowAt H') rows fns ∧ fns.map (·.name) = zs.take i ∧ (∀ f ∈ fns, FnW f ∧ ((∀ x ∈ f.rd, x ∈ ps) ∧ ∀ x ∈ f.st, x ∈ ps)) ∧ H' pl = some (.lst (ps.map V.str)) ∧ H' cp = some (.lst (zs.map V.str)) ∧ BagAt H' a (n + 3 + i * 9) ∧ Kq [a] H H')
    ⟨none, [], [], rfl, by rw [upd_ne ncf.symm]; exact efl5, .nil, rfl, by simp, by rw [upd_ne ncp.symm]; exact epl5, upd_same, (hB5.new nc).mono (by omega), q5.put hcp⟩
    (fun i σ H' _ ⟨_, _, _, _, _, _, _, _, _, e, _⟩ => SqL.of e) ?_ ?_⟩
  · rintro i y σ H' hi ⟨v, rows, fns, rfl, ef, pr, en, fw, ep, ec, hB', q'⟩
    have hil : i < zs.length := by
      have := (List.getElem?_eq_some_iff.mp hi).1
      rw [List.length_map] at this
      exact this
    have ey : y = V.str zs[i] := by
      rw [List.getElem?_map, List.getElem?_eq_getElem hil] at hi
      exact (Option.some.inj hi).symm
    subst ey
    have hzi : zs[i] ∈ ns := hz1.subset (List.getElem_mem hil)
    have hrows : rows.length ≤ 3 := by
      rw [pr.length]
      have := congrArg List.length en
      rw [List.length_map, List.length_take] at this
      omega
    refine ⟨_, rfl, .inl ⟨rfl, _, SqL.of ef⟩, _, rfl, _, rfl, a, 4, _, rfl, hB', by omega, by decide, by decide, fun ar H6 a0 a1 hB6 kp6 => ?_⟩
    have ep6 := kp6 _ _ nplp ep
    refine ⟨_, rfl, _, rfl, a, pl, ps, _, rfl, hB6, by omega, SqL.of ep6, nplp, by omega, fun p7 ys7 zs7 H7 sb7 pm7 so7 e7 n7 hB7 q7 => ?_⟩
    have ep7 := q7 _ _ (by simp [nplp]) ep6
    refine ⟨_, rfl, _, rfl, a, pl, ps, _, rfl, hB7, by omega, SqL.of ep7, nplp, by omega, fun p8 ys8 zs8 H8 sb8 pm8 so8 e8 n8 hB8 q8 => ?_⟩
    refine ⟨sz (by show 4 ≤ 1000; decide), fun tp nt => ?_⟩
    have q68 : Kq [a] H' H8 := (kp6.kq.trans q7).trans q8
    have ef8 : H8 fl = some (.lst rows) := q68 _ _ (by simp [nfa]) ef
    have ntf : tp ≠ fl := fun z => by rw [z, ef8] at nt; cases nt
    have e7' : H8 p7 = some (.tup (ys7.map V.str)) := q8.tup hB7.mut.notup e7
    have h8n : Kq [a] H H8 := q'.trans q68
    have htp : H tp = none := h8n.free (by simp [hB8.ne nt]) nt
    refine ⟨fl, rows, _, rfl, rfl, by rw [upd_ne ntf.symm]; exact ef8, small1000 (by omega), ?_⟩
    have fnW : FnW ⟨zs[i], ar, ys7, ys8⟩ := by
      have w : ∀ (ys zz : List Str), zz.Sublist ps → ys.Perm zz → sortedS ys = true → PlW ys := fun ys zz h1 h2 h3 => by
        refine ⟨?_, fun x hx => ?_, h3, ?_⟩
        · rw [h2.length_eq]
          have := h1.length_le
          omega
        · exact pk2 x (h1.subset (h2.mem_iff.mp hx))
        · exact h2.nodup_iff.mpr (pk3.sublist h1)
      exact ⟨nk2 _ hzi, a0, (show ar ≤ 3 by omega), w _ _ sb7 pm7 so7, w _ _ sb8 pm8 so8⟩
    have kt : ∀ p xs, H' p = some (.tup xs) → H8 p = some (.tup xs) := fun p xs e => q68.tup hB'.mut.notup e
    have ku : ∀ p xs, H8 p = some (.tup xs) → (upd (upd H8 tp (.tup [V.str zs[i], .int ar, .ref p7, .ref p8])) fl (.lst (rows ++ [V.ref tp]))) p = some (.tup xs) := fun p xs e => by
      rw [upd_ne (fun z => by rw [z, ef8] at e; cases e), upd_ne (ne_of_none e nt)]
      exact e
    refine ⟨some (.str zs[i]), rows ++ [V.ref tp], fns ++ [⟨zs[i], ar, ys7, ys8⟩], rfl, upd_same, ?_, ?_, ?_, ?_, ?_, ?_, ?_⟩
    · refine Paired.snoc (L2.Paired.mapP pr fun a b r => r.keep fun p xs e => ku p xs (kt p xs e)) ?_
      exact ⟨tp, p7, p8, rfl, by rw [upd_ne ntf, upd_same], ku _ _ e7', ku _ _ e8⟩
    · rw [List.map_append, en, take_succ_get zs i hil]
      rfl
    · intro f hf
      rcases List.mem_append.mp hf with h | h
      · exact fw f h
      · rw [List.mem_singleton.mp h]; exact ⟨fnW, fun x hx => sb7.subset (pm7.mem_iff.mp hx), fun x hx => sb8.subset (pm8.mem_iff.mp hx)⟩
    · have := q68 _ _ (by simp [nplp]) ep
      rw [upd_ne nfp, upd_ne (ne_of_none this nt)]
      exact this
    · have := q68 _ _ (by simp [nca]) ec
      rw [upd_ne ncf, upd_ne (ne_of_none this nt)]
      exact this
    · exact ((hB8.mono (by omega)).new nt).put nfa
    · exact (h8n.put htp).put hfl
  · rintro σ H' ⟨v, rows, fns, rfl, ef, pr, en, fw, ep, ec, hB', q'⟩
    rw [List.length_map] at en hB'
    rw [List.take_length] at en
    intro kd nk
    refine ⟨_, rfl, _, rfl, _, rfl, upd_same, [(Sum.inr "places", .ref pl), (Sum.inr "functions", .ref fl), (Sum.inr "guards", .bl g)], rfl, (by show 3 ≤ 15; decide), ?_⟩
    have nka := hB'.ne nk
    have hkd : H kd = none := q'.free (by simp [nka]) nk
    refine k kd pl fl ps fns _ ⟨?_, ?_, rows, ?_, ?_⟩ ⟨pk1, pk2, pk3, ?_, ?_, fun f h => (fw f h).1, fun f h => (fw f h).2⟩ nplp nfa ?_ ?_
    · rw [upd_same]
      exact congrArg (fun x => some (HO.dK x)) (kit_merge _ _ _)
    · rw [upd_ne (ne_of_none ep nk), upd_ne (ne_of_none ep nk)]; exact ep
    · rw [upd_ne (ne_of_none ef nk), upd_ne (ne_of_none ef nk)]; exact ef
    · refine L2.Paired.mapP pr fun a b r => r.keep fun p xs e => ?_
      rw [upd_ne (ne_of_none e nk), upd_ne (ne_of_none e nk)]; exact e
    · have := congrArg List.length en
      rw [List.length_map] at this
      omega
    · rw [en]; exact nk3.sublist hz1
    · exact ((hB'.put nka).put nka).mono (by omega)
    · exact (q'.put hkd).put hkd
end
end Oo
namespace Oo
open PySem L2 PyProof.Rows
/-! ### expressions -/
inductive Kd where
  | read (x : Str) | store (x : Str) | step (x : Str) (b : Int) (w : Str) | op (s : Str) | call (f : Str) | thn | and_ | or_ | cho
inductive Ex where
  | num (n : Int)
  | nd (k : Kd) (os : List Ex)
def Kd.head : Kd → List V
  | .read x => [.str "read", .str x]
  | .store x => [.str "store", .str x]
  | .step x b w => [.str "step", .str x, .int b, .str w]
  | .op s => [.str "op", .str s]
  | .call f => [.str "call", .str f]
  | .thn => [.str "then"]
  | .and_ => [.str "and"]
  | .or_ => [.str "or"]
  | .cho => [.str "choose"]
/-- the tuple of a node, its operands being the values vs -/
def NodeAt (H : Hp) (p : Addr) (k : Kd) (vs : List V) : Prop :=
  match k with
  | .call f => ∃ q, H p = some (.tup [.str "call", .str f, .ref q]) ∧ H q = some (.tup vs)
  | k => H p = some (.tup (k.head ++ vs))
mutual
def InE (H : Hp) : Ex → V → Prop
  | .num n, v => v = .int n
  | .nd k os, v => ∃ p vs, v = .ref p ∧ InEs H os vs ∧ NodeAt H p k vs
def InEs (H : Hp) : List Ex → List V → Prop
  | [], vs => vs = []
  | e :: r, vs => ∃ v ws, vs = v :: ws ∧ InE H e v ∧ InEs H r ws
end
theorem NodeAt.keep {H H' : Hp} (h : ∀ p xs, H p = some (.tup xs) → H' p = some (.tup xs)) {p : Addr} {k : Kd} {vs : List V} (n : NodeAt H p k vs) : NodeAt H' p k vs := by
  cases k with
  | call f =>
    obtain ⟨q, h1, h2⟩ := n
    exact ⟨q, h _ _ h1, h _ _ h2⟩
  | _ => exact h _ _ n
mutual
theorem InE.keep {H H' : Hp} (h : ∀ p xs, H p = some (.tup xs) → H' p = some (.tup xs)) : ∀ (e : Ex) (v : V), InE H e v → InE H' e v
  | .num n, v, q => by unfold InE at q ⊢; exact q
  | .nd k os, v, q => by
    unfold InE at q ⊢
    obtain ⟨p, vs, e, q1, q2⟩ := q
    exact ⟨p, vs, e, InEs.keep h os vs q1, q2.keep h⟩
theorem InEs.keep {H H' : Hp} (h : ∀ p xs, H p = some (.tup xs) → H' p = some (.tup xs)) : ∀ (es : List Ex) (vs : List V), InEs H es vs → InEs H' es vs
  | [], vs, q => by unfold InEs at q ⊢; exact q
  | e :: r, vs, q => by
    unfold InEs at q ⊢
    obtain ⟨v, ws, eq, q1, q2⟩ := q
    exact ⟨v, ws, eq, InE.keep h e v q1, InEs.keep h r ws q2⟩
end
theorem InEs.length {H : Hp} : ∀ {es : List Ex} {vs : List V}, InEs H es vs → vs.length = es.length
  | [], vs, q => by unfold InEs at q; rw [q]; rfl
  | e :: r, vs, q => by
    unfold InEs at q
    obtain ⟨v, ws, rfl, _, q2⟩ := q
    rw [List.length_cons, List.length_cons, InEs.length q2]
theorem InEs.nil {H : Hp} : InEs H [] [] := by unfold InEs; rfl
theorem InEs.cons {H : Hp} {e : Ex} {v : V} {r : List Ex} {ws : List V} (h : InE H e v) (t : InEs H r ws) : InEs H (e :: r) (v :: ws) := by unfold InEs; exact ⟨v, ws, rfl, h, t⟩
theorem InEs.snoc {H : Hp} : ∀ {es : List Ex} {vs : List V} {e : Ex} {v : V}, InEs H es vs → InE H e v → InEs H (es ++ [e]) (vs ++ [v])
  | [], vs, e, v, q, h => by
    unfold InEs at q
    subst q
    exact .cons h .nil
  | x :: r, vs, e, v, q, h => by
    unfold InEs at q
    obtain ⟨y, ws, rfl, q1, q2⟩ := q
    exact .cons q1 (InEs.snoc q2 h)
theorem InE.num {H : Hp} {n : Int} : InE H (.num n) (.int n) := by unfold InE; rfl
theorem InE.nd {H : Hp} {k : Kd} {os : List Ex} {p : Addr} {vs : List V} (h : InEs H os vs) (n : NodeAt H p k vs) : InE H (.nd k os) (.ref p) := by unfold InE; exact ⟨p, vs, rfl, h, n⟩
/-! measures -/
mutual
def Ex.depth : Ex → Nat
  | .num _ => 1
  | .nd _ os => 1 + Ex.depths os
def Ex.depths : List Ex → Nat
  | [] => 0
  | e :: r => max e.depth (Ex.depths r)
end
mutual
def Ex.nodes : Ex → Nat
  | .num _ => 1
  | .nd _ os => 1 + Ex.nodess os
def Ex.nodess : List Ex → Nat
  | [] => 0
  | e :: r => e.nodes + Ex.nodess r
end
def Kd.steps : Kd → Nat
  | .read _ => 1
  | .store _ => 1
  | .step _ _ _ => 2
  | .call _ => 1
  | _ => 0
mutual
def Ex.steps : Ex → Nat
  | .num _ => 0
  | .nd k os => k.steps + Ex.stepss os
def Ex.stepss : List Ex → Nat
  | [] => 0
  | e :: r => e.steps + Ex.stepss r
end
def Kd.grd : Kd → Bool
  | .and_ => true
  | .or_ => true
  | .cho => true
  | _ => false
mutual
def Ex.grd : Ex → Bool
  | .num _ => false
  | .nd k os => k.grd || Ex.grds os
def Ex.grds : List Ex → Bool
  | [] => false
  | e :: r => e.grd || Ex.grds r
end
def signs : List Str := ["+", "-", "*", "<"]
def KdW (ps : List Str) (fns : List Fn) : Kd → Nat → Prop
  | .read x, 0 => x ∈ ps
  | .store x, 1 => x ∈ ps
  | .step x b w, 0 => x ∈ ps ∧ (b = 1 ∨ b = -1) ∧ (w = "before" ∨ w = "after")
  | .op s, 2 => s ∈ signs
  | .call f, n => ∃ fn ∈ fns, fn.name = f ∧ fn.ar = (n : Int)
  | .thn, 2 => True
  | .and_, 2 => True
  | .or_, 2 => True
  | .cho, 3 => True
  | _, _ => False
mutual
def ExW (ps : List Str) (fns : List Fn) : Ex → Prop
  | .num n => 0 ≤ n ∧ n ≤ 999999
  | .nd k os => KdW ps fns k os.length ∧ ExWs ps fns os
def ExWs (ps : List Str) (fns : List Fn) : List Ex → Prop
  | [] => True
  | e :: r => ExW ps fns e ∧ ExWs ps fns r
end
def nbd : Nat → Nat
  | 0 => 1
  | d + 1 => 1 + 3 * nbd d
def cost : Nat → Nat
  | 0 => 4
  | d + 1 => 4 + 3 * cost d
/-- what is known of a drawn expression -/
structure DrawnE (ps : List Str) (fns : List Fn) (g : Bool) (d : Nat) (k k' : Int) (e : Ex) : Prop where
  w : ExW ps fns e
  dep : e.depth ≤ d + 1
  nod : e.nodes ≤ nbd d
  stp : (e.steps : Int) + k' = k
  gd : g = false → e.grd = false
/-- .. and of a list of such -/
structure DrawnEs (ps : List Str) (fns : List Fn) (g : Bool) (d : Nat) (k k' : Int) (es : List Ex) : Prop where
  w : ExWs ps fns es
  dep : Ex.depths es ≤ d + 1
  nod : Ex.nodess es ≤ es.length * nbd d
  stp : (Ex.stepss es : Int) + k' = k
  gd : g = false → Ex.grds es = false
theorem DrawnEs.nil {ps : List Str} {fns : List Fn} {g : Bool} {d : Nat} {k : Int} : DrawnEs ps fns g d k k [] := ⟨by unfold ExWs; trivial, by simp [Ex.depths], by simp [Ex.nodess], by simp [Ex.stepss], fun _ => by simp [Ex.grds]⟩
theorem exWs_append {ps : List Str} {fns : List Fn} : ∀ {es : List Ex} {e : Ex}, ExWs ps fns es → ExW ps fns e → ExWs ps fns (es ++ [e])
  | [], e, _, h => by unfold ExWs; exact ⟨h, by unfold ExWs; trivial⟩
  | x :: r, e, q, h => by
    unfold ExWs at q
    show ExWs ps fns (x :: (r ++ [e]))
    unfold ExWs
    exact ⟨q.1, exWs_append q.2 h⟩
theorem depths_append : ∀ (es : List Ex) (e : Ex), Ex.depths (es ++ [e]) = max (Ex.depths es) e.depth
  | [], e => by simp [Ex.depths]
  | x :: r, e => by
    show Ex.depths (x :: (r ++ [e])) = _
    simp only [Ex.depths, depths_append r e]
    omega
theorem nodess_append : ∀ (es : List Ex) (e : Ex), Ex.nodess (es ++ [e]) = Ex.nodess es + e.nodes
  | [], e => by simp [Ex.nodess]
  | x :: r, e => by
    show Ex.nodess (x :: (r ++ [e])) = _
    simp only [Ex.nodess, nodess_append r e]
    omega
theorem stepss_append : ∀ (es : List Ex) (e : Ex), Ex.stepss (es ++ [e]) = Ex.stepss es + e.steps
  | [], e => by simp [Ex.stepss]
  | x :: r, e => by
    show Ex.stepss (x :: (r ++ [e])) = _
    simp only [Ex.stepss, stepss_append r e]
    omega
theorem grds_append : ∀ (es : List Ex) (e : Ex), Ex.grds (es ++ [e]) = (Ex.grds es || e.grd)
  | [], e => by simp [Ex.grds]
  | x :: r, e => by
    show Ex.grds (x :: (r ++ [e])) = _
    simp only [Ex.grds, grds_append r e, Bool.or_assoc]
theorem DrawnEs.snoc {ps : List Str} {fns : List Fn} {g : Bool} {d : Nat} {k k1 k2 : Int} {es : List Ex} {e : Ex} (a : DrawnEs ps fns g d k k1 es) (b : DrawnE ps fns g d k1 k2 e) : DrawnEs ps fns g d k k2 (es ++ [e]) := by
  refine ⟨exWs_append a.w b.w, ?_, ?_, ?_, fun z => ?_⟩
  · rw [depths_append]
    have h1 := a.dep
    have h2 := b.dep
    omega
  · rw [nodess_append, List.length_append, List.length_singleton, Nat.succ_mul]
    exact Nat.add_le_add a.nod b.nod
  · rw [stepss_append]
    have h1 := a.stp
    have h2 := b.stp
    push_cast
    omega
  · rw [grds_append, a.gd z, b.gd z]
    rfl
/-- a node over drawn operands -/
theorem DrawnEs.nd {ps : List Str} {fns : List Fn} {g : Bool} {d : Nat} {k k' k0 : Int} {es : List Ex} {c : Kd} (a : DrawnEs ps fns g d k k' es) (hk : KdW ps fns c es.length) (hl : es.length ≤ 3) (h0 : (c.steps : Int) + k = k0) (hg : g = false → c.grd = false) :
    DrawnE ps fns g (d + 1) k0 k' (.nd c es) := by
  refine ⟨by unfold ExW; exact ⟨hk, a.w⟩, ?_, ?_, ?_, fun z => ?_⟩
  · unfold Ex.depth
    have := a.dep
    omega
  · unfold Ex.nodes
    have h1 := a.nod
    have h2 := Nat.mul_le_mul_right (nbd d) hl
    show 1 + Ex.nodess es ≤ 1 + 3 * nbd d
    omega
  · unfold Ex.steps
    have := a.stp
    push_cast
    omega
  · unfold Ex.grd
    rw [hg z, a.gd z]
    rfl
theorem nbd_pos : ∀ d, 1 ≤ nbd d
  | 0 => Nat.le_refl _
  | d + 1 => by unfold nbd; omega
theorem cost_pos : ∀ d, 4 ≤ cost d
  | 0 => Nat.le_refl _
  | d + 1 => by unfold cost; omega
/-- a node without operands, at any depth -/
theorem DrawnE.leaf {ps : List Str} {fns : List Fn} {g : Bool} {d : Nat} {k k0 : Int} {c : Kd} (hk : KdW ps fns c 0) (h0 : (c.steps : Int) + k = k0) (hg : c.grd = false) : DrawnE ps fns g d k0 k (.nd c []) := by
  refine ⟨by unfold ExW ExWs; exact ⟨hk, trivial⟩, ?_, ?_, ?_, fun _ => ?_⟩
  · simp [Ex.depth, Ex.depths]
  · simp [Ex.nodes, Ex.nodess]; exact nbd_pos d
  · simp [Ex.steps, Ex.stepss]; exact h0
  · simp [Ex.grd, Ex.grds, hg]
theorem DrawnE.int {ps : List Str} {fns : List Fn} {g : Bool} {d : Nat} {k n : Int} (h0 : 0 ≤ n) (h1 : n ≤ 999999) : DrawnE ps fns g d k k (.num n) :=
  ⟨by unfold ExW; exact ⟨h0, h1⟩, by simp [Ex.depth], by simp [Ex.nodes]; exact nbd_pos d, by simp [Ex.steps], fun _ => by simp [Ex.grd]⟩
end Oo
namespace Oo
open PySem L2 PyProof.Rows
abbrev sLeaf : Stmt := top 67
abbrev sGuard : Stmt := top 68
abbrev sExpr : Stmt := top 69
abbrev sRoot : Stmt := top 70
/-- a bag, a kit, the steps that are left -/
structure Sit (H : Hp) (a kd pl fl lf : Addr) (ps : List Str) (fns : List Fn) (g : Bool) (n : Nat) (k : Int) : Prop where
  bag : BagAt H a n
  kit : KitAt H kd pl fl ps fns g
  kw : KitW ps fns
  lef : H lf = some (.lst [.int k])
  k0 : 0 ≤ k
  la : lf ≠ a
  pa : pl ≠ a
  fa : fl ≠ a
  pL : pl ≠ lf
  fL : fl ≠ lf
section
variable {H H' : Hp} {a kd pl fl lf : Addr} {ps : List Str} {fns : List Fn} {g : Bool} {n m : Nat} {k k' : Int}
theorem Sit.mut (s : Sit H a kd pl fl lf ps fns g n k) : Mut H [a, lf] := fun b hb => by
  rcases List.mem_cons.mp hb with e | hb
  · rw [e]; exact s.bag.mut a List.mem_cons_self
  · rw [List.mem_singleton.mp hb]; exact ⟨_, s.lef⟩
theorem Sit.drawn (s : Sit H a kd pl fl lf ps fns g n k) (q : Kq [a] H H') (b : BagAt H' a m) : Sit H' a kd pl fl lf ps fns g m k :=
  ⟨b, s.kit.kq q s.bag.mut (by simp [s.pa]) (by simp [s.fa]), s.kw, q _ _ (by simp [s.la]) s.lef, s.k0, s.la, s.pa, s.fa, s.pL, s.fL⟩
theorem Sit.mono (s : Sit H a kd pl fl lf ps fns g n k) (h : n ≤ m) : Sit H a kd pl fl lf ps fns g m k := { s with bag := s.bag.mono h }
theorem Sit.same (s : Sit H a kd pl fl lf ps fns g n k) (q : Same H H') : Sit H' a kd pl fl lf ps fns g n k :=
  ⟨same_bag q s.bag, s.kit.kq (S := []) (same_kq q) (fun b hb => by cases hb) (by simp) (by simp), s.kw, q _ _ s.lef, s.k0, s.la, s.pa, s.fa, s.pL, s.fL⟩
theorem Sit.put (s : Sit H a kd pl fl lf ps fns g n k) (h : 0 ≤ k') : Sit (upd H lf (.lst [.int k'])) a kd pl fl lf ps fns g n k' :=
  ⟨s.bag.put s.la, s.kit.kq (S := [lf]) ((Kq.refl _ _).at_ (by simp)) (fun b hb => by rw [List.mem_singleton.mp hb]; exact ⟨_, s.lef⟩) (by simp [s.pL]) (by simp [s.fL]), s.kw, upd_same, h, s.la, s.pa, s.fa, s.pL, s.fL⟩
theorem kq2 (q : Kq [a] H H') : Kq [a, lf] H H' := q.mono fun b hb => by rw [List.mem_singleton.mp hb]; exact List.mem_cons_self
theorem kit_get_p {x y z : V} : valV [(kP, x), (kF, y), (kG, z)] kP = some x := valV_pos rfl
theorem kit_get_f {x y z : V} : valV [(kP, x), (kF, y), (kG, z)] kF = some y := by
  have h1 : ¬ (kP = kF) := by decide +kernel
  rw [valV_neg h1, valV_pos rfl]
theorem kit_get_g {x y z : V} : valV [(kP, x), (kF, y), (kG, z)] kG = some z := by
  have h1 : ¬ (kP = kG) := by decide +kernel
  have h2 : ¬ (kF = kG) := by decide +kernel
  rw [valV_neg h1, valV_neg h2, valV_pos rfl]
theorem KitAt.getP (x : KitAt H kd pl fl ps fns g) : DGet H kd (.str "places") (some (.ref pl)) := .inl ⟨_, kP, .inl x.kd, rfl, kit_get_p.symm⟩
theorem KitAt.getF (x : KitAt H kd pl fl ps fns g) : DGet H kd (.str "functions") (some (.ref fl)) := .inl ⟨_, kF, .inl x.kd, rfl, kit_get_f.symm⟩
theorem KitAt.getG (x : KitAt H kd pl fl ps fns g) : DGet H kd (.str "guards") (some (.bl g)) := .inl ⟨_, kG, .inl x.kd, rfl, kit_get_g.symm⟩
end
def spLeaf : Sp := fun vs H Q _ => ∃ (a kd pl fl lf : Addr) (ps : List Str) (fns : List Fn) (g : Bool) (n : Nat) (k : Int), vs = [.ref a, .ref kd, .ref lf] ∧ Sit H a kd pl fl lf ps fns g n k ∧ n < 700000 ∧
  ∀ (v : V) (e : Ex) (k' : Int) (H' : Hp), InE H' e v → (∀ d, DrawnE ps fns g d k k' e) → Sit H' a kd pl fl lf ps fns g (n + 3) k' → Kq [a, lf] H H' → Q v H'
section
variable {P : Program} {w : World} {K : PySem.W.Frag} {mg : Str → Option Value} {base : Heap} {X : Cx}
abbrev pLeaf : List Str := ["_law_bag_here", "_law_kit_here", "_law_left"]
theorem scLeaf : FnScope ["_law_bag_here", "_law_kit_here", "_law_left"] ["_law_bag_here", "_law_kit_here", "_law_left"] (defScope sLeaf) := ⟨rfl, rfl, rfl, by decide +kernel, rfl, by decide +kernel, by decide +kernel⟩
theorem ok_leaf {f ft fo : Addr} {fd fdt fdo : FuncData} (F : Fun K "_law_leaf" "_law_leaf" sLeaf f fd)
    (GT : FnOk P w K mg base CX0 1 ft fdt ["_law_bag_here", "_law_many"] spTake) (kT : PySem.W.keepIn K (.ref ft) = true) (bT : Binds K fdt ["_law_bag_here", "_law_many"] []) (mT : mg "_law_take" = some (.ref ft))
    (GO : FnOk P w K mg base CX0 2 fo fdo ["_law_bag_here", "_law_items"] (spOf K)) (kO : PySem.W.keepIn K (.ref fo) = true) (bO : Binds K fdo ["_law_bag_here", "_law_items"] []) (mO : mg "_law_of" = some (.ref fo)) :
    FnOk P w K mg base CX0 3 f fd ["_law_bag_here", "_law_kit_here", "_law_left"] spLeaf := by
  refine F.ok scLeaf (fun vs H Q E h => ?_) (fun cdv A outer s H vs Q E hr h => ?_)
  · obtain ⟨a, kd, pl, fl, lf, ps, fns, g, n, k, rfl, _⟩ := h
    rfl
  obtain ⟨a, kd, pl, fl, lf, ps, fns, g, n, k, rfl, S, hn, q⟩ := h
  have hr1 : Room 1 _ := hr.mono (by decide)
  have hu := hu_of hr
  refine ⟨_, pss_cons (ps_if (pt_as (t' := fun σ H Q => σ = [some (.ref a), some (.ref kd), some (.ref lf)] ∧ Sit H a kd pl fl lf ps fns g n k ∧ ∀ (b : Bool) (H1 : Hp), Sit H1 a kd pl fl lf ps fns g (n + 1) k → Kq [a] H H1 → (b = true → 0 < k) → Q b H1)
        (PW.pt (pw_and (pt_cmpR op_gt (pe_ix ix_list (pv 2) pe_int (fun _ _ => rfl)) pe_int (nomark _)) (pw_and1 (pt_cmpR op_gt (pe_call GT hr1 rfl mT kT bT .nil pass0 (pa_cons (pv 0) (pa_cons pe_int pa_nil))) pe_int (nomark _))))) ?c1)
      (pss_cons (ps_asg (pe_op op_sub (pe_ix ix_list (pv 2) pe_int (fun _ _ => rfl)) pe_int) (pg_sub (pv 2) pe_int set_list))
        (pss_one (ps_ret (pe_tup (pa_cons pe_str (pa_cons (pe_call GO hr rfl mO kO bO .nil pass0 (pa_cons (pv 0) (pa_cons (pe_dget hu (pv 1) pe_str (fun _ _ => rfl)) pa_nil))) pa_nil)))))) pss_nil)
    (pss_one (ps_ret (pe_call GO hr rfl mO kO bO .nil pass0 (pa_cons (pv 0) (pa_cons (pe_lst (pa_cons pe_int (pa_cons pe_int (pa_cons pe_int (pa_cons pe_int (pa_cons (pe_call GT hr1 rfl mT kT bT .nil pass0 (pa_cons (pv 0) (pa_cons pe_int pa_nil))) pa_nil)))))) pa_nil))))), ?_⟩
  case c1 =>
    rintro σ H Q ⟨rfl, S, q⟩
    refine ⟨_, rfl, lf, _, _, _, rfl, rfl, SqL.of S.lef, (rfl : atI [V.int k] 0 = some (.int k)), _, _, rfl, rfl, _, rfl, ?_⟩
    refine ite2 (fun z => ?_) (fun z => ?_)
    · have z' : 0 < k := of_decide_eq_true z
      refine ⟨_, rfl, a, 3, n, rfl, S.bag, by omega, by decide, by decide, fun r H1 r0 r1 hB kp => ⟨_, _, rfl, rfl, _, rfl, ?_⟩⟩
      exact q _ H1 (S.drawn kp.kq hB) kp.kq fun _ => z'
    · exact q _ H (S.mono (by omega)) (Kq.refl _ _) fun z => by cases z
  refine ⟨rfl, S, fun b H1 S1 q1 hb => ?_⟩
  cases b with
  | true =>
    refine iteT ?_
    have hk := hb rfl
    refine ⟨_, rfl, lf, _, _, _, rfl, rfl, SqL.of S1.lef, (rfl : atI [V.int k] 0 = some (.int k)), _, _, rfl, rfl, _, rfl, lf, _, _, 0, rfl, rfl, S1.lef, rfl, ?_⟩
    have S2 : Sit (upd H1 lf (.lst [.int (k - 1)])) a kd pl fl lf ps fns g (n + 1) (k - 1) := S1.put (by omega)
    have q2 : Kq [a, lf] H (upd H1 lf (.lst [.int (k - 1)])) := (kq2 q1).at_ (by simp)
    refine ⟨_, rfl, _, rfl, kd, _, rfl, S2.kit.getP, a, pl, _, _, rfl, S2.bag, by omega, SqL.of S2.kit.pl, S2.pa, ?_, ?_, fun v H3 hv hB3 kp3 => ?_⟩
    · rw [List.length_map, S.kw.pl]; decide
    · rw [List.length_map, S.kw.pl]; decide
    obtain ⟨x, hx, rfl⟩ := List.mem_map.mp hv
    have S3 := S2.drawn kp3.kq hB3
    refine ⟨sz (by show 2 ≤ 1000; decide), fun p hp => ?_⟩
    refine q _ (.nd (.read x) []) (k - 1) _ (.nd .nil (by unfold NodeAt; exact upd_same)) (fun d => .leaf (by unfold KdW; exact hx) (by show (1 : Int) + (k - 1) = k; omega) rfl) ((S3.same (same_up hp)).mono (by omega)) ((q2.trans (kq2 kp3.kq)).trans (same_kq (same_up hp)))
  | false =>
    refine iteF ?_
    refine ⟨_, rfl, _, rfl, a, 1000000, _, rfl, S1.bag, by omega, by decide, by decide, fun r H2 r0 r1 hB2 kp2 => ⟨sz (by show 5 ≤ 1000; decide), fun l hl => ?_⟩⟩
    have S2 := S1.drawn kp2.kq hB2
    refine ⟨a, l, _, _, rfl, (S2.same (same_up hl)).bag, by omega, SqL.of upd_same, S2.bag.ne hl, (by show 0 < 5; decide), (by show 5 ≤ 1000; decide), fun v H3 hv hB3 kp3 => ?_⟩
    have q3 : Kq [a] H H3 := ((q1.trans kp2.kq).trans (same_kq (same_up hl))).trans kp3.kq
    have S3 := ((S2.same (same_up hl)).drawn kp3.kq hB3)
    have fin : ∀ z : Int, 0 ≤ z → z ≤ 999999 → Q (.int z) H3 := fun z h0 h1 => q _ (.num z) k H3 .num (fun d => .int h0 h1) S3 (kq2 q3)
    simp only [List.mem_cons, List.not_mem_nil, or_false] at hv
    rcases hv with rfl | rfl | rfl | rfl | rfl
    · exact fin _ (by decide) (by decide)
    · exact fin _ (by decide) (by decide)
    · exact fin _ (by decide) (by decide)
    · exact fin _ (by decide) (by decide)
    · exact fin _ r0 (by omega)
end
end Oo
namespace Oo
open PySem L2 PyProof.Rows
def spExpr (N : Nat) : Sp := fun vs H Q _ => ∃ (a kd pl fl lf : Addr) (ps : List Str) (fns : List Fn) (g : Bool) (n : Nat) (k : Int) (d : Nat), vs = [.ref a, .ref kd, .ref lf, .int (d : Int)] ∧ d < N ∧ d ≤ 10 ∧ Sit H a kd pl fl lf ps fns g n k ∧ n + cost d < 690000 ∧
  ∀ (v : V) (e : Ex) (k' : Int) (H' : Hp), InE H' e v → DrawnE ps fns g d k k' e → Sit H' a kd pl fl lf ps fns g (n + cost d) k' → Kq [a, lf] H H' → Q v H'
def spGuard (N : Nat) : Sp := fun vs H Q _ => ∃ (a kd pl fl lf : Addr) (ps : List Str) (fns : List Fn) (n : Nat) (k : Int) (d : Nat), vs = [.ref a, .ref kd, .ref lf, .int ((d + 1 : Nat) : Int)] ∧ d < N ∧ d ≤ 10 ∧ Sit H a kd pl fl lf ps fns true n k ∧ n + (3 * cost d + 1) < 690000 ∧
  ∀ (v : V) (e : Ex) (k' : Int) (H' : Hp), InE H' e v → DrawnE ps fns true (d + 1) k k' e → Sit H' a kd pl fl lf ps fns true (n + (3 * cost d + 1)) k' → Kq [a, lf] H H' → Q v H'
theorem iteNS' {c A B : Prop} [Decidable c] (hc : ¬ c) (h : A) : if (!decide c) = true then A else B := by
  rw [decide_eq_false hc]
  exact iteT h
theorem DrawnEs.one {ps : List Str} {fns : List Fn} {g : Bool} {d : Nat} {k k' : Int} {e : Ex} (h : DrawnE ps fns g d k k' e) : DrawnEs ps fns g d k k' [e] := DrawnEs.nil.snoc h
theorem InE.sit {H H' : Hp} {e : Ex} {v : V} {S : List Addr} (h : InE H e v) (q : Kq S H H') (m : Mut H S) : InE H' e v := h.keep (fun p xs z => q.tup m.notup z) e v
section
variable {P : Program} {w : World} {K : PySem.W.Frag} {mg : Str → Option Value} {base : Heap} {X : Cx}
theorem scGuard : FnScope ["_law_bag_here", "_law_kit_here", "_law_left", "_law_depth", "_law_first", "_law_second", "_law_word", "_law_found"] ["_law_bag_here", "_law_kit_here", "_law_left", "_law_depth"] (defScope sGuard) := ⟨rfl, rfl, rfl, by decide +kernel, rfl, by decide +kernel, by decide +kernel⟩
theorem ok_guard {N L : Nat} {f fo fe : Addr} {fd fdo fde : FuncData} (F : Fun K "_law_guard" "_law_guard" sGuard f fd) (hL : 2 ≤ L)
    (GO : FnOk P w K mg base CX0 2 fo fdo ["_law_bag_here", "_law_items"] (spOf K)) (kO : PySem.W.keepIn K (.ref fo) = true) (bO : Binds K fdo ["_law_bag_here", "_law_items"] []) (mO : mg "_law_of" = some (.ref fo))
    (GE : FnOk P w K mg base CX0 L fe fde ["_law_bag_here", "_law_kit_here", "_law_left", "_law_depth"] (spExpr N)) (kE : PySem.W.keepIn K (.ref fe) = true) (bE : Binds K fde ["_law_bag_here", "_law_kit_here", "_law_left", "_law_depth"] []) (mE : mg "_law_expr" = some (.ref fe)) :
    FnOk P w K mg base CX0 (L + 1) f fd ["_law_bag_here", "_law_kit_here", "_law_left", "_law_depth"] (spGuard N) := by
  refine F.ok scGuard (fun vs H Q E h => ?_) (fun cdv A outer s H vs Q E hr h => ?_)
  · obtain ⟨a, kd, pl, fl, lf, ps, fns, n, k, d, rfl, _⟩ := h
    rfl
  obtain ⟨a, kd, pl, fl, lf, ps, fns, n, k, d, rfl, hd, hd10, S, hn, q⟩ := h
  have hr2 : Room 2 _ := hr.mono hL
  refine ⟨_, pss_cons (ps_par (i := 4) (j := 5) (by rfl) scGuard.nd rfl rfl (by decide) rfl rfl (pa_cons (pe_call GE hr rfl mE kE bE .nil pass0 (pa_cons (pv 0) (pa_cons (pv 1) (pa_cons (pv 2) (pa_cons (pe_op op_sub (pv 3) pe_int) pa_nil)))))
        (pa_cons (pe_call GE hr rfl mE kE bE .nil pass0 (pa_cons (pv 0) (pa_cons (pv 1) (pa_cons (pv 2) (pa_cons (pe_op op_sub (pv 3) pe_int) pa_nil))))) pa_nil)) (by rfl))
    (pss_cons (ps_set (i := 6) scGuard.nd rfl (.inl rfl) (pe_call GO hr2 rfl mO kO bO .nil pass0 (pa_cons (pv 0) (pa_cons (pe_lst (pa_cons pe_str (pa_cons pe_str (pa_cons pe_str pa_nil)))) pa_nil))))
    (pss_cons (ps_set (i := 7) scGuard.nd rfl (.inl rfl) (pe_tup (pa_cons (pv 6) (pa_cons (pv 4) (pa_cons (pv 5) pa_nil)))))
    (pss_one (ps_ret (pe_ifExp (pt_cmpR op_ne (pv 6) pe_str (nomark _)) (pv 7)
      (pe_op op_catT (pv 7) (pe_tup (pa_cons (pe_call GE hr rfl mE kE bE .nil pass0 (pa_cons (pv 0) (pa_cons (pv 1) (pa_cons (pv 2) (pa_cons (pe_op op_sub (pv 3) pe_int) pa_nil))))) pa_nil)))))))), ?_⟩
  have ed : (((d + 1 : Nat) : Int) - 1) = (d : Int) := by push_cast; omega
  refine ⟨_, rfl, _, rfl, _, rfl, _, rfl, _, _, rfl, rfl, a, kd, pl, fl, lf, ps, fns, true, n, k, d, congrArg (fun z => [V.ref a, V.ref kd, V.ref lf, V.int z]) ed, hd, hd10, S, by omega, fun v1 e1 k1 H1 i1 w1 S1 q1 => ?_⟩
  refine ⟨_, rfl, _, rfl, _, rfl, _, rfl, _, _, rfl, rfl, a, kd, pl, fl, lf, ps, fns, true, _, k1, d, congrArg (fun z => [V.ref a, V.ref kd, V.ref lf, V.int z]) ed, hd, hd10, S1, by omega, fun v2 e2 k2 H2 i2 w2 S2 q2 => ⟨_, _, rfl, ?_⟩⟩
  have i1' := i1.sit q2 S1.mut
  refine ⟨_, rfl, sz (by decide), fun l hl => ?_⟩
  have S2' := S2.same (same_up (o := .lst [V.str "and", .str "or", .str "choose"]) hl)
  have i1'' := i1'.keep (fun p xs z => same_up (o := .lst [V.str "and", .str "or", .str "choose"]) hl _ _ z)
  have i2'' := i2.keep (fun p xs z => same_up (o := .lst [V.str "and", .str "or", .str "choose"]) hl _ _ z)
  refine ⟨a, l, _, _, rfl, S2'.bag, by omega, SqL.of upd_same, S2.bag.ne hl, by decide, by decide, fun v3 H3 hv hB3 kp3 => ?_⟩
  have S3 := S2'.drawn kp3.kq hB3
  have i1a := InE.sit i1'' kp3.kq S2'.bag.mut
  have i2a := InE.sit i2'' kp3.kq S2'.bag.mut
  have q3 : Kq [a, lf] H H3 := ((q1.trans q2).trans (same_kq (same_up hl))).trans (kq2 kp3.kq)
  refine ⟨_, rfl, _, rfl, _, rfl, sz (by show 3 ≤ 1000; decide), fun p hp => ?_⟩
  have S4 := S3.same (same_up (o := .tup [v3, v1, v2]) hp)
  have q4 : Kq [a, lf] H (upd H3 p (.tup [v3, v1, v2])) := q3.trans (same_kq (same_up hp))
  have i1b := i1a.keep (fun p xs z => same_up (o := .tup [v3, v1, v2]) hp _ _ z)
  have i2b := i2a.keep (fun p xs z => same_up (o := .tup [v3, v1, v2]) hp _ _ z)
  have two : DrawnEs ps fns true d k k2 [e1, e2] := (DrawnEs.nil.snoc w1).snoc w2
  simp only [List.mem_cons, List.not_mem_nil, or_false] at hv
  have hne1 : ¬ (V.str "and" = V.str "choose") := by decide +kernel
  have hne2 : ¬ (V.str "or" = V.str "choose") := by decide +kernel
  rcases hv with rfl | rfl | rfl
  · refine ⟨_, rfl, rfl, _, rfl, iteNS' hne1 ⟨_, rfl, ?_⟩⟩
    exact q _ (.nd .and_ [e1, e2]) k2 _ (.nd (.cons i1b (.cons i2b .nil)) (by unfold NodeAt; exact upd_same)) (two.nd (by unfold KdW; trivial) (by show 2 ≤ 3; decide) (by show (0 : Int) + k = k; omega) (fun z => by cases z)) (S4.mono (by omega)) q4
  · refine ⟨_, rfl, rfl, _, rfl, iteNS' hne2 ⟨_, rfl, ?_⟩⟩
    exact q _ (.nd .or_ [e1, e2]) k2 _ (.nd (.cons i1b (.cons i2b .nil)) (by unfold NodeAt; exact upd_same)) (two.nd (by unfold KdW; trivial) (by show 2 ≤ 3; decide) (by show (0 : Int) + k = k; omega) (fun z => by cases z)) (S4.mono (by omega)) q4
  · refine ⟨_, rfl, rfl, _, rfl, iteNS rfl ⟨_, rfl, ?_⟩⟩
    refine ⟨_, rfl, _, rfl, _, rfl, _, rfl, _, _, rfl, rfl, a, kd, pl, fl, lf, ps, fns, true, _, k2, d, congrArg (fun z => [V.ref a, V.ref kd, V.ref lf, V.int z]) ed, hd, hd10, S4, by omega, fun v5 e5 k5 H5 i5 w5 S5 q5 => ?_⟩
    refine ⟨sz (by show 1 ≤ 1000; decide), fun t ht => ?_⟩
    have S6 := S5.same (same_up (o := .tup [v5]) ht)
    have i1c := i1b.sit q5 S4.mut
    have i2c := i2b.sit q5 S4.mut
    have ep : H5 p = some (.tup [V.str "choose", v1, v2]) := q5.tup S4.mut.notup upd_same
    refine ⟨p, t, _, _, rfl, rfl, SqT.of (by rw [upd_ne (ne_of_none ep ht)]; exact ep), SqT.of upd_same, (by simp), sz (by show 4 ≤ 1000; decide), (fun z => by cases z), fun _ u hu' => ?_⟩
    have kk : ∀ p xs, H5 p = some (.tup xs) → (upd (upd H5 t (.tup [v5])) u (.tup ([V.str "choose", v1, v2] ++ [v5]))) p = some (.tup xs) := fun p xs z => same_up hu' _ _ (same_up ht _ _ z)
    exact q _ (.nd .cho [e1, e2, e5]) k5 _ (.nd (.cons (i1c.keep kk) (.cons (i2c.keep kk) (.cons (i5.keep kk) .nil))) (by unfold NodeAt; exact upd_same)) ((two.snoc w5).nd (by unfold KdW; trivial) (by show 3 ≤ 3; decide) (by show (0 : Int) + k = k; omega) (fun z => by cases z))
      ((S6.same (same_up hu')).mono (by omega)) ((q4.trans q5).trans ((same_kq (same_up ht)).trans (same_kq (same_up hu'))))
end
end Oo
namespace Oo
open PySem L2 PyProof.Rows
/-! ### data as the library's equality wants it -/
def dStrs (xs : List Str) : PyData := .tuple (xs.map PyData.str)
def dFn (f : Fn) : PyData := .tuple [.str f.name, .int f.ar, dStrs f.rd, dStrs f.st]
theorem dpAll_strs {K : PySem.W.Frag} {H : Hp} : ∀ xs : List Str, DpAll K H (xs.map V.str) (xs.map PyData.str)
  | [] => .nil
  | x :: r => .cons (.str x) (dpAll_strs r)
theorem RowAt.dp {K : PySem.W.Frag} {H : Hp} {v : V} {f : Fn} (r : RowAt H v f) : Dp K H v (dFn f) := by
  obtain ⟨p, r, s, rfl, h1, h2, h3⟩ := r
  exact .tup (SqT.of h1) (.cons (.str _) (.cons (.int _) (.cons (.tup (SqT.of h2) (dpAll_strs _)) (.cons (.tup (SqT.of h3) (dpAll_strs _)) .nil))))
theorem rows_dp {K : PySem.W.Frag} {H : Hp} : ∀ {rows : List V} {fns : List Fn}, Paired (RowAt H) rows fns → DpAll K H rows (fns.map dFn)
  | _, _, .nil => .nil
  | _, _, .cons r t => .cons r.dp (rows_dp t)
theorem okName_str {x : Str} (h : okName x = true) : PyData.strOk x = true := by
  unfold okName at h
  rw [Bool.and_eq_true] at h
  have h2 := h.2
  unfold PyData.strOk
  rw [Array.all_eq_true']
  rw [List.all_eq_true] at h2
  intro c hc
  have := h2 c (Array.mem_toList_iff.mpr hc)
  simp only [Bool.and_eq_true, decide_eq_true_eq] at this
  exact decide_eq_true (by omega)
theorem canLay_strs : ∀ {xs : List Str}, (∀ x ∈ xs, okName x = true) → PyData.canLayAll0 (xs.map PyData.str) = true
  | [], _ => by simp [PyData.canLayAll0]
  | x :: r, h => by
    simp only [List.map_cons, PyData.canLayAll0, PyData.canLay0, Bool.and_eq_true]
    exact ⟨okName_str (h x List.mem_cons_self), canLay_strs fun y hy => h y (List.mem_cons_of_mem _ hy)⟩
theorem depth_strs : ∀ (xs : List Str), PyData.depthAll (xs.map PyData.str) = 0
  | [] => by simp [PyData.depthAll]
  | x :: r => by simp [PyData.depthAll, PyData.depth, depth_strs r]
theorem canLay_fns : ∀ {fns : List Fn}, (∀ f ∈ fns, FnW f) → PyData.canLayAll0 (fns.map dFn) = true
  | [], _ => by simp [PyData.canLayAll0]
  | f :: r, h => by
    obtain ⟨h1, _, _, h2, h3⟩ := h f List.mem_cons_self
    simp only [List.map_cons, PyData.canLayAll0, Bool.and_eq_true]
    refine ⟨?_, canLay_fns fun y hy => h y (List.mem_cons_of_mem _ hy)⟩
    simp [dFn, dStrs, PyData.canLay0, PyData.canLayAll0, okName_str h1, canLay_strs h2.2.1, canLay_strs h3.2.1]
theorem depth_fns : ∀ (fns : List Fn), PyData.depthAll (fns.map dFn) ≤ 2
  | [] => by simp [PyData.depthAll]
  | f :: r => by
    have := depth_fns r
    simp [PyData.depthAll, PyData.depth, dFn, dStrs, depth_strs]
    omega
theorem shaped_fns {fns : List Fn} (h : ∀ f ∈ fns, FnW f) : SeqAt.shaped (.list (fns.map dFn)) = true := by
  unfold SeqAt.shaped
  rw [Bool.and_eq_true]
  refine ⟨?_, decide_eq_true ?_⟩
  · simp only [PyData.canLay0]; exact canLay_fns h
  · have := depth_fns fns
    simp only [PyData.depth]
    omega
end Oo
namespace Oo
open PySem L2 PyProof.Rows
abbrev nExpr : List Str := ["_law_bag_here", "_law_kit_here", "_law_left", "_law_depth", "_law_way", "_law_by", "_law_when", "_law_one", "_law_parts", "_law_turn", "_law_first", "_law_second"]
section
variable {P : Program} {w : World} {K : PySem.W.Frag} {mg : Str → Option Value} {base : Heap} {X : Cx}
theorem scExpr : FnScope ["_law_bag_here", "_law_kit_here", "_law_left", "_law_depth", "_law_way", "_law_by", "_law_when", "_law_one", "_law_parts", "_law_turn", "_law_first", "_law_second"] ["_law_bag_here", "_law_kit_here", "_law_left", "_law_depth"] (defScope sExpr) := ⟨rfl, rfl, rfl, by decide +kernel, rfl, by decide +kernel, by decide +kernel⟩
theorem yes_i {σ : L2.St} {H : Hp} {F G : Hp → Prop} (h : F H) : tYes σ H (fun b H' => if b = true then F H' else G H') := @iteT (F H) (G H) h
theorem Sit.at_ {H : Hp} {a kd pl fl lf D : Addr} {ps : List Str} {fns : List Fn} {g : Bool} {n : Nat} {k : Int} {ws ws' : List V} (s : Sit H a kd pl fl lf ps fns g n k) (e : H D = some (.lst ws)) (h1 : pl ≠ D) (h2 : fl ≠ D) (h3 : D ≠ a) (h4 : D ≠ lf) :
    Sit (upd H D (.lst ws')) a kd pl fl lf ps fns g n k :=
  ⟨s.bag.put h3, s.kit.kq (S := [D]) ((Kq.refl _ _).at_ (by simp)) (fun b hb => by rw [List.mem_singleton.mp hb]; exact ⟨_, e⟩) (by simp [h1]) (by simp [h2]), s.kw, by rw [upd_ne h4.symm]; exact s.lef, s.k0, s.la, s.pa, s.fa, s.pL, s.fL⟩
theorem ok_expr {N L : Nat} {f ft fo fl' fg fe : Addr} {fd fdt fdo fdl fdg fde : FuncData} (F : Fun K "_law_expr" "_law_expr" sExpr f fd) (hL : 3 ≤ L) (mr : mg "range" = none) (mt : mg "tuple" = none)
    (GT : FnOk P w K mg base CX0 1 ft fdt ["_law_bag_here", "_law_many"] spTake) (kT : PySem.W.keepIn K (.ref ft) = true) (bT : Binds K fdt ["_law_bag_here", "_law_many"] []) (mT : mg "_law_take" = some (.ref ft))
    (GO : FnOk P w K mg base CX0 2 fo fdo ["_law_bag_here", "_law_items"] (spOf K)) (kO : PySem.W.keepIn K (.ref fo) = true) (bO : Binds K fdo ["_law_bag_here", "_law_items"] []) (mO : mg "_law_of" = some (.ref fo))
    (GL : FnOk P w K mg base CX0 3 fl' fdl ["_law_bag_here", "_law_kit_here", "_law_left"] spLeaf) (kL : PySem.W.keepIn K (.ref fl') = true) (bL : Binds K fdl ["_law_bag_here", "_law_kit_here", "_law_left"] []) (mL : mg "_law_leaf" = some (.ref fl'))
    (GE : FnOk P w K mg base CX0 L fe fde ["_law_bag_here", "_law_kit_here", "_law_left", "_law_depth"] (spExpr N)) (kE : PySem.W.keepIn K (.ref fe) = true) (bE : Binds K fde ["_law_bag_here", "_law_kit_here", "_law_left", "_law_depth"] []) (mE : mg "_law_expr" = some (.ref fe))
    (GG : FnOk P w K mg base CX0 (L + 1) fg fdg ["_law_bag_here", "_law_kit_here", "_law_left", "_law_depth"] (spGuard N)) (kG : PySem.W.keepIn K (.ref fg) = true) (bG : Binds K fdg ["_law_bag_here", "_law_kit_here", "_law_left", "_law_depth"] []) (mG : mg "_law_guard" = some (.ref fg)) :
    FnOk P w K mg base CX0 (L + 2) f fd ["_law_bag_here", "_law_kit_here", "_law_left", "_law_depth"] (spExpr (N + 1)) := by
  refine F.ok scExpr (fun vs H Q E h => ?_) (fun cdv A outer s H vs Q E hr h => ?_)
  · obtain ⟨a, kd, pl, fl, lf, ps, fns, g, n, k, d, rfl, _⟩ := h
    rfl
  obtain ⟨a, kd, pl, fl, lf, ps, fns, g, n, k, d, rfl, hd, hd10, S, hn, q⟩ := h
  have hr1 : Room 1 _ := hr.mono (by omega)
  have hr2 : Room 2 _ := hr.mono (by omega)
  have hr3 : Room 3 _ := hr.mono (by omega)
  have hrL : Room L _ := hr.mono (by omega)
  have hu := hu_of hr
  refine ⟨_, (pss_cons (ps_set (i := 4) scExpr.nd rfl (.inl rfl) (pe_call GT hr1 rfl mT kT bT .nil pass0 (pa_cons (pv 0) (pa_cons pe_int pa_nil))))
    (pss_cons (ps_if (pt_as (t' := fun σ H Q => σ[3]? = some (some (.int (d : Int))) ∧ σ[2]? = some (some (.ref lf)) ∧ (∃ r : Int, σ[4]? = some (some (.int r))) ∧ H lf = some (.lst [.int k]) ∧ ∀ b : Bool, (b = false → 1 ≤ d ∧ k ≠ 0) → Q b H) (PW.pt (pw_or (pt_cmpR op_eq (pv 3) pe_int (nomark _)) (pw_or (pt_cmpR op_eq (pe_ix ix_list (pv 2) pe_int (fun _ _ => rfl)) pe_int (nomark _)) (pw_or1 (pt_cmpR op_eq (pv 4) pe_int (nomark _)))))) ?c1) (pss_one (ps_ret (pe_call GL hr3 rfl mL kL bL .nil pass0 (pa_cons (pv 0) (pa_cons (pv 1) (pa_cons (pv 2) pa_nil)))))) pss_nil)
    (pss_cons (ps_if (pt_cmpR op_lt (pv 4) pe_int (nomark _)) (pss_cons (ps_asg (pe_op op_sub (pe_ix ix_list (pv 2) pe_int (fun _ _ => rfl)) pe_int) (pg_sub (pv 2) pe_int set_list))
    (pss_one (ps_ret (pe_tup (pa_cons pe_str (pa_cons (pe_call GO hr2 rfl mO kO bO .nil pass0 (pa_cons (pv 0) (pa_cons (pe_dget hu (pv 1) pe_str (fun _ _ => rfl)) pa_nil))) (pa_cons (pe_call GE hrL rfl mE kE bE .nil pass0 (pa_cons (pv 0) (pa_cons (pv 1) (pa_cons (pv 2) (pa_cons (pe_op op_sub (pv 3) pe_int) pa_nil))))) pa_nil))))))) pss_nil)
    (pss_cons (ps_if (pt_as (t' := fun σ H Q => σ[2]? = some (some (.ref lf)) ∧ (∃ r : Int, σ[4]? = some (some (.int r))) ∧ H lf = some (.lst [.int k]) ∧ ∀ b : Bool, (b = true → 1 < k) → Q b H) (PW.pt (pw_and (pt_cmpR op_lt (pv 4) pe_int (nomark _)) (pw_and1 (pt_cmpR op_gt (pe_ix ix_list (pv 2) pe_int (fun _ _ => rfl)) pe_int (nomark _))))) ?c2) (pss_cons (ps_asg (pe_op op_sub (pe_ix ix_list (pv 2) pe_int (fun _ _ => rfl)) pe_int) (pg_sub (pv 2) pe_int set_list))
    (pss_cons (ps_par (i := 5) (j := 6) (by rfl) scExpr.nd rfl rfl (by decide) rfl rfl (pa_cons (pe_call GO hr2 rfl mO kO bO .nil pass0 (pa_cons (pv 0) (pa_cons (pe_lst (pa_cons pe_int (pa_cons (pe_un un_neg pe_int) pa_nil))) pa_nil))) (pa_cons (pe_call GO hr2 rfl mO kO bO .nil pass0 (pa_cons (pv 0) (pa_cons (pe_lst (pa_cons pe_str (pa_cons pe_str pa_nil))) pa_nil))) pa_nil)) (by rfl))
    (pss_one (ps_ret (pe_tup (pa_cons pe_str (pa_cons (pe_call GO hr2 rfl mO kO bO .nil pass0 (pa_cons (pv 0) (pa_cons (pe_dget hu (pv 1) pe_str (fun _ _ => rfl)) pa_nil))) (pa_cons (pv 5) (pa_cons (pv 6) pa_nil))))))))) pss_nil)
    (pss_cons (ps_if (pt_as (t' := fun σ H Q => σ[1]? = some (some (.ref kd)) ∧ (∃ r : Int, σ[4]? = some (some (.int r))) ∧ KitAt H kd pl fl ps fns g ∧ ∀ (b : Bool) (H1 : Hp), Same H H1 → (b = true → fns ≠ []) → Q b H1) (PW.pt (pw_and (pt_cmpR op_lt (pv 4) pe_int (nomark _)) (pw_and1 (pt_cmpR (op_neD hr.units) (pe_dget hu (pv 1) pe_str (fun _ _ => rfl)) (pe_lst pa_nil) (nomark _))))) ?c3) (pss_cons (ps_asg (pe_op op_sub (pe_ix ix_list (pv 2) pe_int (fun _ _ => rfl)) pe_int) (pg_sub (pv 2) pe_int set_list))
    (pss_cons (ps_set (i := 7) scExpr.nd rfl (.inl rfl) (pe_call GO hr2 rfl mO kO bO .nil pass0 (pa_cons (pv 0) (pa_cons (pe_dget hu (pv 1) pe_str (fun _ _ => rfl)) pa_nil))))
    (pss_cons (ps_setLc (i := 8) (own := [("_law_turn", 9)]) (g := gName 9) (tt := tYes) (by rfl) scExpr.nd rfl rfl (sw_true rfl rfl rfl (by decide +kernel)) (pi_range1 (by rfl) mr (pa_cons (pe_ix ix_tup (pv 7) pe_int (fun _ _ => rfl)) pa_nil)) (blkOk_by (own := [("_law_turn", 9)]) (N := ["_law_bag_here", "_law_kit_here", "_law_left", "_law_depth", "_law_way", "_law_by", "_law_when", "_law_one", "_law_parts", "_law_turn", "_law_first", "_law_second"]) (sc := defScope sExpr) (by decide +kernel)) (fun _ _ _ _ _ => (pg_name (i := 9) scExpr.nd rfl (Or.inl rfl))) (fun _ _ _ _ _ => pts_nil) (fun _ _ _ _ _ => (pe_call GE hrL rfl mE kE bE .nil pass0 (pa_cons (pv 0) (pa_cons (pv 1) (pa_cons (pv 2) (pa_cons (pe_op op_sub (pv 3) pe_int) pa_nil)))))))
    (pss_one (ps_ret (pe_tup (pa_cons pe_str (pa_cons (pe_ix ix_tup (pv 7) pe_int (fun _ _ => rfl)) (pa_cons (pe_tupleOf (by rfl) mt (pv 8)) pa_nil))))))))) pss_nil)
    (pss_cons (ps_if (pt_as (t' := fun σ H Q => σ[1]? = some (some (.ref kd)) ∧ (∃ r : Int, σ[4]? = some (some (.int r))) ∧ KitAt H kd pl fl ps fns g ∧ ∀ b : Bool, (b = true → g = true) → Q b H) (PW.pt (pw_and (pt_cmpR op_eq (pv 4) pe_int (nomark _)) (pw_and1 (pt_val (pe_dget hu (pv 1) pe_str (fun _ _ => rfl)))))) ?c4) (pss_one (ps_ret (pe_call GG hr rfl mG kG bG .nil pass0 (pa_cons (pv 0) (pa_cons (pv 1) (pa_cons (pv 2) (pa_cons (pv 3) pa_nil))))))) pss_nil)
    (pss_cons (ps_par (i := 10) (j := 11) (by rfl) scExpr.nd rfl rfl (by decide) rfl rfl (pa_cons (pe_call GE hrL rfl mE kE bE .nil pass0 (pa_cons (pv 0) (pa_cons (pv 1) (pa_cons (pv 2) (pa_cons (pe_op op_sub (pv 3) pe_int) pa_nil))))) (pa_cons (pe_call GE hrL rfl mE kE bE .nil pass0 (pa_cons (pv 0) (pa_cons (pv 1) (pa_cons (pv 2) (pa_cons (pe_op op_sub (pv 3) pe_int) pa_nil))))) pa_nil)) (by rfl))
    (pss_one (ps_ret (pe_ifExp (pt_cmpR op_eq (pv 4) pe_int (nomark _)) (pe_tup (pa_cons pe_str (pa_cons (pv 10) (pa_cons (pv 11) pa_nil)))) (pe_tup (pa_cons pe_str (pa_cons (pe_call GO hr2 rfl mO kO bO .nil pass0 (pa_cons (pv 0) (pa_cons (pe_lst (pa_cons pe_str (pa_cons pe_str (pa_cons pe_str (pa_cons pe_str pa_nil))))) pa_nil))) (pa_cons (pv 10) (pa_cons (pv 11) pa_nil))))))))))))))), ?_⟩
  case c1 =>
    rintro σ H Q ⟨e3, e2, ⟨r, e4⟩, el, q⟩
    refine ⟨_, e3, rfl, _, rfl, ite2 (fun z => q _ fun y => by cases y) (fun z => ?_)⟩
    refine ⟨_, e2, lf, _, _, _, rfl, rfl, SqL.of el, (rfl : atI [V.int k] 0 = some (.int k)), rfl, _, rfl, ite2 (fun z => q _ fun y => by cases y) (fun z' => ?_)⟩
    refine ⟨_, e4, rfl, _, rfl, q _ fun _ => ⟨?_, fun y => z' (by rw [y]; exact decide_eq_true rfl)⟩⟩
    cases d with
    | zero => exact absurd (decide_eq_true rfl) z
    | succ d => omega
  case c2 =>
    rintro σ H Q ⟨e2, ⟨r, e4⟩, el, q⟩
    refine ⟨_, e4, _, _, rfl, rfl, _, rfl, ite2 (fun z => ?_) (fun z => q _ fun y => by cases y)⟩
    refine ⟨_, e2, lf, _, _, _, rfl, rfl, SqL.of el, (rfl : atI [V.int k] 0 = some (.int k)), _, _, rfl, rfl, _, rfl, q _ fun y => of_decide_eq_true y⟩
  case c3 =>
    rintro σ H Q ⟨e1, ⟨r, e4⟩, kit, q⟩
    refine ⟨_, e4, _, _, rfl, rfl, _, rfl, ite2 (fun z => ?_) (fun z => q _ H (Same.refl H) fun y => by cases y)⟩
    refine ⟨_, e1, kd, _, rfl, kit.getF, sz (by decide), fun p hp => ?_⟩
    obtain ⟨rows, er, pr⟩ := kit.fl
    have sp := same_up (o := .lst []) hp
    have pr' : Paired (RowAt (upd H p (.lst []))) rows fns := L2.Paired.mapP pr fun a b r => r.keep fun p xs e => sp _ _ e
    refine ⟨.list (fns.map dFn), .list [], .lst (SqL.of (sp _ _ er)) (rows_dp pr'), .lst (SqL.of upd_same) .nil, shaped_fns S.kw.fok, by decide +kernel, _, rfl, q _ _ sp fun y z => ?_⟩
    rw [z] at y
    simp [PyData.eqv, PyData.eqvAll] at y
  case c4 =>
    rintro σ H Q ⟨e1, ⟨r, e4⟩, kit, q⟩
    refine ⟨_, e4, rfl, _, rfl, ite2 (fun z => ?_) (fun z => q _ fun y => by cases y)⟩
    exact ⟨_, e1, kd, _, rfl, kit.getG, _, rfl, q _ fun y => y⟩
  -- way
  refine ⟨_, rfl, a, 11, n, rfl, S.bag, by omega, by decide, by decide, fun r H0 r0 r1 hB0 kp0 => ?_⟩
  have S0 := S.drawn kp0.kq hB0
  have q0 : Kq [a, lf] H H0 := kq2 kp0.kq
  refine ⟨rfl, rfl, ⟨r, rfl⟩, S0.lef, fun b hb => ?_⟩
  have hc4 := cost_pos d
  cases b with
  | true =>
    refine iteT ⟨_, rfl, _, rfl, _, rfl, a, kd, pl, fl, lf, ps, fns, g, _, k, rfl, S0, by omega, fun v e k' H' i1 w1 S1 q1 => ?_⟩
    exact q v e k' H' i1 (w1 d) (S1.mono (by omega)) (q0.trans q1)
  | false =>
  obtain ⟨hd1, hk0⟩ := hb rfl
  obtain ⟨d, rfl⟩ : ∃ d', d = d' + 1 := ⟨d - 1, by omega⟩
  have hk := S.k0
  have ed : (((d + 1 : Nat) : Int) - 1) = (d : Int) := by push_cast; omega
  have ec : cost (d + 1) = 4 + 3 * cost d := rfl
  have hcd := cost_pos d
  refine iteF ⟨_, rfl, _, _, rfl, rfl, _, rfl, ite2 (fun z => ?_) (fun z => ?_)⟩
  · -- store
    refine ⟨_, rfl, lf, _, _, _, rfl, rfl, SqL.of S0.lef, (rfl : atI [V.int k] 0 = some (.int k)), _, _, rfl, rfl, _, rfl, lf, _, _, 0, rfl, rfl, S0.lef, rfl, ?_⟩
    have S1 : Sit (upd H0 lf (.lst [.int (k - 1)])) a kd pl fl lf ps fns g (n + 1) (k - 1) := S0.put (by omega)
    have q1 : Kq [a, lf] H (upd H0 lf (.lst [.int (k - 1)])) := q0.at_ (by simp)
    refine ⟨_, rfl, _, rfl, kd, _, rfl, S1.kit.getP, a, pl, _, _, rfl, S1.bag, by omega, SqL.of S1.kit.pl, S1.pa, ?_, ?_, fun v H2 hv hB2 kp2 => ?_⟩
    · rw [List.length_map, S.kw.pl]; decide
    · rw [List.length_map, S.kw.pl]; decide
    obtain ⟨x, hx, rfl⟩ := List.mem_map.mp hv
    have S2 := S1.drawn kp2.kq hB2
    refine ⟨_, rfl, _, rfl, _, rfl, _, rfl, _, _, rfl, rfl, a, kd, pl, fl, lf, ps, fns, g, _, k - 1, d, congrArg (fun z => [V.ref a, V.ref kd, V.ref lf, V.int z]) ed, by omega, by omega, S2, by omega, fun v e k' H3 i3 w3 S3 q3 => ?_⟩
    refine ⟨sz (by show 3 ≤ 1000; decide), fun p hp => ?_⟩
    have kk : ∀ p' xs, H3 p' = some (.tup xs) → (upd H3 p (.tup [V.str "store", .str x, v])) p' = some (.tup xs) := fun p' xs z => same_up hp _ _ z
    exact q _ (.nd (.store x) [e]) k' _ (.nd (.cons (i3.keep kk) .nil) (by unfold NodeAt; exact upd_same)) ((DrawnEs.one w3).nd (by unfold KdW; exact hx) (by show 1 ≤ 3; decide) (by show (1 : Int) + (k - 1) = k; omega) (fun _ => rfl))
      ((S3.same (same_up hp)).mono (by omega)) (((q1.trans (kq2 kp2.kq)).trans q3).trans (same_kq (same_up hp)))
  refine ⟨rfl, ⟨r, rfl⟩, S0.lef, fun b hb => ?_⟩
  cases b with
  | true =>
    -- step
    have hk2 := hb rfl
    refine iteT ⟨_, rfl, lf, _, _, _, rfl, rfl, SqL.of S0.lef, (rfl : atI [V.int k] 0 = some (.int k)), _, _, rfl, rfl, _, rfl, lf, _, _, 0, rfl, rfl, S0.lef, rfl, ?_⟩
    have S1 : Sit (upd H0 lf (.lst [.int (k - 2)])) a kd pl fl lf ps fns g (n + 1) (k - 2) := S0.put (by omega)
    have q1 : Kq [a, lf] H (upd H0 lf (.lst [.int (k - 2)])) := q0.at_ (by simp)
    refine ⟨_, rfl, _, rfl, sz (by show 2 ≤ 1000; decide), fun l1 hl1 => ?_⟩
    have S1' := S1.same (same_up (o := .lst [.int 1, .int (-1)]) hl1)
    refine ⟨a, l1, _, _, rfl, S1'.bag, by omega, SqL.of upd_same, S1.bag.ne hl1, (by show 0 < 2; decide), (by show 2 ≤ 1000; decide), fun vb H2 hvb hB2 kp2 => ?_⟩
    have S2 := S1'.drawn kp2.kq hB2
    have q2 : Kq [a, lf] H H2 := (q1.trans (same_kq (same_up hl1))).trans (kq2 kp2.kq)
    refine ⟨_, rfl, sz (by decide), fun l2 hl2 => ?_⟩
    have S2' := S2.same (same_up (o := .lst [.str "before", .str "after"]) hl2)
    refine ⟨a, l2, _, _, rfl, S2'.bag, by omega, SqL.of upd_same, S2.bag.ne hl2, by decide, by decide, fun vw H3 hvw hB3 kp3 => ⟨_, _, rfl, ?_⟩⟩
    have S3 := S2'.drawn kp3.kq hB3
    have q3 : Kq [a, lf] H H3 := (q2.trans (same_kq (same_up hl2))).trans (kq2 kp3.kq)
    refine ⟨_, rfl, _, rfl, kd, _, rfl, S3.kit.getP, a, pl, _, _, rfl, S3.bag, by omega, SqL.of S3.kit.pl, S3.pa, ?_, ?_, fun v H4 hv hB4 kp4 => ?_⟩
    · rw [List.length_map, S.kw.pl]; decide
    · rw [List.length_map, S.kw.pl]; decide
    obtain ⟨x, hx, rfl⟩ := List.mem_map.mp hv
    have S4 := S3.drawn kp4.kq hB4
    refine ⟨_, rfl, _, rfl, sz (by show 4 ≤ 1000; decide), fun p hp => ?_⟩
    have fin : ∀ (bb : Int) (ww : Str), (bb = 1 ∨ bb = -1) → (ww = "before" ∨ ww = "after") → vb = .int bb → vw = .str ww → Q (.ref p) (upd H4 p (.tup [V.str "step", .str x, vb, vw])) := by
      rintro bb ww h1 h2 rfl rfl
      exact q _ (.nd (.step x bb ww) []) (k - 2) _ (.nd .nil (by unfold NodeAt; exact upd_same)) (.leaf (by unfold KdW; exact ⟨hx, h1, h2⟩) (by show (2 : Int) + (k - 2) = k; omega) rfl)
        ((S4.same (same_up hp)).mono (by omega)) ((q3.trans (kq2 kp4.kq)).trans (same_kq (same_up hp)))
    simp only [List.mem_cons, List.not_mem_nil, or_false] at hvb hvw
    rcases hvb with rfl | rfl <;> rcases hvw with rfl | rfl
    · exact fin 1 _ (.inl rfl) (.inl rfl) rfl rfl
    · exact fin 1 _ (.inl rfl) (.inr rfl) rfl rfl
    · exact fin (-1) _ (.inr rfl) (.inl rfl) rfl rfl
    · exact fin (-1) _ (.inr rfl) (.inr rfl) rfl rfl
  | false =>
  refine iteF ⟨rfl, ⟨r, rfl⟩, S0.kit, fun b H1 s1 hb => ?_⟩
  have S1 := S0.same s1
  have q1 : Kq [a, lf] H H1 := q0.trans (same_kq s1)
  cases b with
  | true =>
    have hf := hb rfl
    refine iteT ⟨_, rfl, lf, _, _, _, rfl, rfl, SqL.of S1.lef, (rfl : atI [V.int k] 0 = some (.int k)), _, _, rfl, rfl, _, rfl, lf, _, _, 0, rfl, rfl, S1.lef, rfl, ?_⟩
    have S2 : Sit (upd H1 lf (.lst [.int (k - 1)])) a kd pl fl lf ps fns g (n + 1) (k - 1) := S1.put (by omega)
    have q2 : Kq [a, lf] H (upd H1 lf (.lst [.int (k - 1)])) := q1.at_ (by simp)
    obtain ⟨rows, er, pr⟩ := S2.kit.fl
    have hrl : rows.length = fns.length := pr.length
    have hfl : 0 < fns.length := List.length_pos_iff.mpr hf
    have hfl3 := S.kw.fl
    refine ⟨_, rfl, _, rfl, kd, _, rfl, S2.kit.getF, a, fl, rows, _, rfl, S2.bag, by omega, SqL.of er, S2.fa, by omega, by omega, fun v H3 hv hB3 kp3 => ?_⟩
    obtain ⟨fn, hfn, hrow⟩ := paired_mem pr hv
    have S3 := S2.drawn kp3.kq hB3
    have q3 : Kq [a, lf] H H3 := q2.trans (kq2 kp3.kq)
    obtain ⟨p, rp, sp, rfl, hp1, _, _⟩ := hrow.keep (H' := H3) fun p' xs z => kp3.kq.tup S2.bag.mut.notup z
    obtain ⟨fw1, ar0, ar3, _, _⟩ := S.kw.fok fn hfn
    refine ⟨_, rfl, p, _, _, _, rfl, rfl, SqT.of hp1, (rfl : atI [V.str fn.name, .int fn.ar, .ref rp, .ref sp] 1 = some (.int fn.ar)), fn.ar, rfl, by omega, by omega, fun D hD => ?_⟩
    have nDa : D ≠ a := S3.bag.ne hD
    have nDl : D ≠ lf := fun z => by rw [z, S3.lef] at hD; cases hD
    have npl : pl ≠ D := ne_of_none S3.kit.pl hD
    have nfl : fl ≠ D := by
      obtain ⟨_, e, _⟩ := S3.kit.fl
      exact ne_of_none e hD
    have hDn : H D = none := q3.free (by simp [nDa, nDl]) hD
    refine lc_range (lo := 0) (n := fn.ar.toNat) (fun i H' => ∃ (es : List Ex) (ws : List V) (k' : Int), H' D = some (.lst ws) ∧ InEs H' es ws ∧ es.length = i ∧ DrawnEs ps fns g d (k - 1) k' es ∧ Sit H' a kd pl fl lf ps fns g (n + 2 + i * cost d) k' ∧ Kq [a, lf] H H' ∧ H' p = some (.tup [V.str fn.name, .int fn.ar, .ref rp, .ref sp]))
      ⟨[], [], k - 1, upd_same, .nil, rfl, .nil, (S3.same (same_up hD)).mono (by omega), q3.put hDn, same_up hD _ _ hp1⟩ ?_ ?_
    · rintro i H' hi ⟨es, ws, k', eD, ies, hl, dr, S', q', hp'⟩
      have hmul : (i + 1) * cost d ≤ 3 * cost d := Nat.mul_le_mul_right _ (by omega)
      have hmul2 : (i + 1) * cost d = i * cost d + cost d := Nat.succ_mul _ _
      refine ⟨rfl, yes_i ?_⟩
      refine ⟨_, rfl, _, rfl, _, rfl, _, rfl, _, _, rfl, rfl, a, kd, pl, fl, lf, ps, fns, g, _, k', d, congrArg (fun z => [V.ref a, V.ref kd, V.ref lf, V.int z]) ed, by omega, by omega, S', by omega, fun v e k2 H4 i4 w4 S4 q4 => ?_⟩
      have eD4 : H4 D = some (.lst ws) := q4 _ _ (by simp [nDa, nDl]) eD
      have kk : ∀ p' xs, H4 p' = some (.tup xs) → (upd H4 D (.lst (ws ++ [v]))) p' = some (.tup xs) := fun p' xs z => by
        rw [upd_ne (fun y => by rw [y, eD4] at z; cases z)]; exact z
      have hws := ies.length
      refine ⟨ws, eD4, small1000 (by omega), es ++ [e], ws ++ [v], k2, upd_same, ?_, by rw [List.length_append, hl]; rfl, dr.snoc w4, ?_, (q'.trans q4).put hDn, kk _ _ (q4.tup S'.mut.notup hp')⟩
      · exact .snoc (ies.keep (fun p' xs z => kk _ _ (q4.tup S'.mut.notup z))) (i4.keep kk)
      · exact (S4.at_ eD4 npl nfl nDa nDl).mono (by omega)
    · rintro H' ⟨es, ws, k', eD, ies, hl, dr, S', q', hp'⟩
      have hmul : fn.ar.toNat * cost d ≤ 3 * cost d := Nat.mul_le_mul_right _ (by omega)
      refine ⟨_, rfl, p, _, _, _, rfl, rfl, SqT.of hp', (rfl : atI [V.str fn.name, .int fn.ar, .ref rp, .ref sp] 0 = some (.str fn.name)), _, rfl, .inl ⟨D, ws, rfl, SqL.of eD, fun t ht => ⟨sz (by show 3 ≤ 1000; decide), fun u hu' => ?_⟩⟩⟩
      have s1 : Same H' (upd (upd H' t (.tup ws)) u (.tup [V.str "call", .str fn.name, .ref t])) := (same_up ht).trans (same_up hu')
      have et : (upd (upd H' t (.tup ws)) u (.tup [V.str "call", .str fn.name, .ref t])) t = some (.tup ws) := same_up hu' _ _ upd_same
      exact q _ (.nd (.call fn.name) es) k' _ (.nd (ies.keep fun p' xs z => s1 _ _ z) (by unfold NodeAt; exact ⟨t, upd_same, et⟩)) (dr.nd (by unfold KdW; exact ⟨fn, hfn, rfl, by omega⟩) (by omega) (by show (1 : Int) + (k - 1) = k; omega) (fun _ => rfl))
        ((S'.same s1).mono (by omega)) (q'.trans (same_kq s1))
  | false =>
  refine iteF ⟨rfl, ⟨r, rfl⟩, S1.kit, fun b hb => ?_⟩
  cases b with
  | true =>
    have hg := hb rfl
    subst hg
    refine iteT ⟨_, rfl, _, rfl, _, rfl, _, rfl, a, kd, pl, fl, lf, ps, fns, _, k, d, rfl, by omega, by omega, S1, by omega, fun v e k' H' i2 w2 S2 q2 => ?_⟩
    exact q v e k' H' i2 w2 (S2.mono (by omega)) (q1.trans q2)
  | false =>
  refine iteF ⟨_, rfl, _, rfl, _, rfl, _, rfl, _, _, rfl, rfl, a, kd, pl, fl, lf, ps, fns, g, _, k, d, congrArg (fun z => [V.ref a, V.ref kd, V.ref lf, V.int z]) ed, by omega, by omega, S1, by omega, fun v2 e2 k2 H2 i2 w2 S2 q2 => ?_⟩
  refine ⟨_, rfl, _, rfl, _, rfl, _, rfl, _, _, rfl, rfl, a, kd, pl, fl, lf, ps, fns, g, _, k2, d, congrArg (fun z => [V.ref a, V.ref kd, V.ref lf, V.int z]) ed, by omega, by omega, S2, by omega, fun v3 e3 k3 H3 i3 w3 S3 q3 => ⟨_, _, rfl, ?_⟩⟩
  have i2' := i2.sit q3 S2.mut
  have q03 : Kq [a, lf] H H3 := (q1.trans q2).trans q3
  have two : DrawnEs ps fns g d k k3 [e2, e3] := (DrawnEs.nil.snoc w2).snoc w3
  refine ⟨_, rfl, rfl, _, rfl, ite2 (fun z => ?_) (fun z => ?_)⟩
  · refine ⟨_, rfl, _, rfl, sz (by show 3 ≤ 1000; decide), fun p hp => ?_⟩
    have kk : ∀ p' xs, H3 p' = some (.tup xs) → (upd H3 p (.tup [V.str "then", v2, v3])) p' = some (.tup xs) := fun p' xs z => same_up hp _ _ z
    exact q _ (.nd .thn [e2, e3]) k3 _ (.nd (.cons (i2'.keep kk) (.cons (i3.keep kk) .nil)) (by unfold NodeAt; exact upd_same)) (two.nd (by unfold KdW; trivial) (by show 2 ≤ 3; decide) (by show (0 : Int) + k = k; omega) (fun _ => rfl))
      ((S3.same (same_up hp)).mono (by omega)) (q03.trans (same_kq (same_up hp)))
  · refine ⟨_, rfl, sz (by decide), fun l hl => ?_⟩
    have S3' := S3.same (same_up (o := .lst [V.str "+", .str "-", .str "*", .str "<"]) hl)
    refine ⟨a, l, _, _, rfl, S3'.bag, by omega, SqL.of upd_same, S3.bag.ne hl, by decide, by decide, fun v4 H4 hv4 hB4 kp4 => ?_⟩
    have S4 := S3'.drawn kp4.kq hB4
    refine ⟨_, rfl, _, rfl, sz (by show 4 ≤ 1000; decide), fun p hp => ?_⟩
    have kk : ∀ p' xs, H3 p' = some (.tup xs) → (upd H4 p (.tup [V.str "op", v4, v2, v3])) p' = some (.tup xs) := fun p' xs z =>
      same_up hp _ _ (kp4.kq.tup S3'.bag.mut.notup (same_up hl _ _ z))
    obtain ⟨sg, hsg, rfl⟩ : ∃ s, s ∈ signs ∧ v4 = .str s := by
      simp only [List.mem_cons, List.not_mem_nil, or_false] at hv4
      rcases hv4 with rfl | rfl | rfl | rfl
      · exact ⟨_, by simp [signs], rfl⟩
      · exact ⟨_, by simp [signs], rfl⟩
      · exact ⟨_, by simp [signs], rfl⟩
      · exact ⟨_, by simp [signs], rfl⟩
    exact q _ (.nd (.op sg) [e2, e3]) k3 _ (.nd (.cons (i2'.keep kk) (.cons (i3.keep kk) .nil)) (by unfold NodeAt; exact upd_same)) (two.nd (by unfold KdW; exact hsg) (by show 2 ≤ 3; decide) (by show (0 : Int) + k = k; omega) (fun _ => rfl))
      ((S4.same (same_up hp)).mono (by omega)) (((q03.trans (same_kq (same_up hl))).trans (kq2 kp4.kq)).trans (same_kq (same_up hp)))
end
end Oo
namespace Oo
open PySem L2 PyProof.Rows
def spRoot : Sp := fun vs H Q _ => ∃ (a kd pl fl : Addr) (ps : List Str) (fns : List Fn) (g : Bool) (n : Nat) (m : Int), vs = [.ref a, .ref kd, .int m] ∧ BagAt H a n ∧ KitAt H kd pl fl ps fns g ∧ KitW ps fns ∧ pl ≠ a ∧ fl ≠ a ∧ 0 ≤ m ∧ n < 600000 ∧
  ∀ (v : V) (e : Ex) (k' : Int) (H' : Hp), InE H' e v → DrawnE ps fns g 4 m k' e → 0 ≤ k' → KitAt H' kd pl fl ps fns g → BagAt H' a (n + 490) → Kq [a] H H' → Q v H'
section
variable {P : Program} {w : World} {K : PySem.W.Frag} {mg : Str → Option Value} {base : Heap} {X : Cx}
theorem expr_none {N : Nat} {f : Addr} {fd : FuncData} {L : Nat} (h : N = 0) : FnOk P w K mg base CX0 L f fd ["_law_bag_here", "_law_kit_here", "_law_left", "_law_depth"] (spExpr N) := by
  have no : ∀ vs H Q E, ¬ spExpr N vs H Q E := fun vs H Q E q => by
    obtain ⟨_, _, _, _, _, _, _, _, _, _, _, _, z, _⟩ := q
    omega
  exact ⟨fun vs H Q E h => absurd h (no vs H Q E), fun A outer s H args us vs Q E _ _ _ _ h => absurd h (no vs H Q E)⟩
theorem scRoot : FnScope ["_law_bag_here", "_law_kit_here", "_law_most", "_law_left", "_law_first", "_law_second"] ["_law_bag_here", "_law_kit_here", "_law_most"] (defScope sRoot) := ⟨rfl, rfl, rfl, by decide +kernel, rfl, by decide +kernel, by decide +kernel⟩
theorem ok_root {f ft fo fe : Addr} {fd fdt fdo fde : FuncData} (F : Fun K "_law_root" "_law_root" sRoot f fd)
    (GT : FnOk P w K mg base CX0 1 ft fdt ["_law_bag_here", "_law_many"] spTake) (kT : PySem.W.keepIn K (.ref ft) = true) (bT : Binds K fdt ["_law_bag_here", "_law_many"] []) (mT : mg "_law_take" = some (.ref ft))
    (GO : FnOk P w K mg base CX0 2 fo fdo ["_law_bag_here", "_law_items"] (spOf K)) (kO : PySem.W.keepIn K (.ref fo) = true) (bO : Binds K fdo ["_law_bag_here", "_law_items"] []) (mO : mg "_law_of" = some (.ref fo))
    (GE : FnOk P w K mg base CX0 13 fe fde ["_law_bag_here", "_law_kit_here", "_law_left", "_law_depth"] (spExpr 5)) (kE : PySem.W.keepIn K (.ref fe) = true) (bE : Binds K fde ["_law_bag_here", "_law_kit_here", "_law_left", "_law_depth"] []) (mE : mg "_law_expr" = some (.ref fe)) :
    FnOk P w K mg base CX0 14 f fd ["_law_bag_here", "_law_kit_here", "_law_most"] spRoot := by
  refine F.ok scRoot (fun vs H Q E h => ?_) (fun cdv A outer s H vs Q E hr h => ?_)
  · obtain ⟨a, kd, pl, fl, ps, fns, g, n, m, rfl, _⟩ := h
    rfl
  obtain ⟨a, kd, pl, fl, ps, fns, g, n, m, rfl, hB, kit, kw, pa, fa, hm, hn, q⟩ := h
  have hr1 : Room 1 _ := hr.mono (by omega)
  have hr2 : Room 2 _ := hr.mono (by omega)
  refine ⟨_, (pss_cons (ps_set (i := 3) scRoot.nd rfl (.inl rfl) (pe_lst (pa_cons (pv 2) pa_nil)))
    (pss_cons (ps_if (pt_cmpR op_eq (pe_call GT hr1 rfl mT kT bT .nil pass0 (pa_cons (pv 0) (pa_cons pe_int pa_nil))) pe_int (nomark _)) (pss_one (ps_ret (pe_call GE hr rfl mE kE bE .nil pass0 (pa_cons (pv 0) (pa_cons (pv 1) (pa_cons (pv 3) (pa_cons pe_int pa_nil))))))) pss_nil)
    (pss_cons (ps_par (i := 4) (j := 5) (by rfl) scRoot.nd rfl rfl (by decide) rfl rfl (pa_cons (pe_call GE hr rfl mE kE bE .nil pass0 (pa_cons (pv 0) (pa_cons (pv 1) (pa_cons (pv 3) (pa_cons pe_int pa_nil))))) (pa_cons (pe_call GE hr rfl mE kE bE .nil pass0 (pa_cons (pv 0) (pa_cons (pv 1) (pa_cons (pv 3) (pa_cons pe_int pa_nil))))) pa_nil)) (by rfl))
    (pss_one (ps_ret (pe_tup (pa_cons pe_str (pa_cons (pe_call GO hr2 rfl mO kO bO .nil pass0 (pa_cons (pv 0) (pa_cons (pe_lst (pa_cons pe_str (pa_cons pe_str (pa_cons pe_str (pa_cons pe_str pa_nil))))) pa_nil))) (pa_cons (pv 4) (pa_cons (pv 5) pa_nil)))))))))), ?_⟩
  have c4 : cost 4 = 484 := by decide
  have c3 : cost 3 = 160 := by decide
  refine ⟨_, rfl, sz (by show 1 ≤ 1000; decide), fun lf hlf => ?_⟩
  have hBn := hB.new (o := .lst [.int m]) hlf
  have s0 : Same H (upd H lf (.lst [.int m])) := same_up hlf
  have la : lf ≠ a := hB.ne hlf
  have pL : pl ≠ lf := ne_of_none kit.pl hlf
  have fL : fl ≠ lf := by
    obtain ⟨_, e, _⟩ := kit.fl
    exact ne_of_none e hlf
  have S0 : Sit (upd H lf (.lst [.int m])) a kd pl fl lf ps fns g n m := ⟨hBn, kit.kq (S := []) (same_kq s0) (fun b hb => by cases hb) (by simp) (by simp), kw, upd_same, hm, la, pa, fa, pL, fL⟩
  refine ⟨_, rfl, a, 2, n, rfl, hBn, by omega, by decide, by decide, fun r H1 r0 r1 hB1 kp1 => ⟨rfl, _, rfl, ?_⟩⟩
  have S1 := S0.drawn kp1.kq hB1
  have q1 : Kq [a, lf] H H1 := (same_kq s0).trans (kq2 kp1.kq)
  have out : ∀ H', Kq [a, lf] H H' → Kq [a] H H' := fun H' x b o hb e => x b o (by
    have : b ≠ lf := ne_of_none e hlf
    simp at hb
    simp [hb, this]) e
  refine ite2 (fun z => ?_) (fun z => ?_)
  · refine ⟨_, rfl, _, rfl, _, rfl, a, kd, pl, fl, lf, ps, fns, g, _, m, 4, rfl, by omega, by omega, S1, by omega, fun v e k' H2 i2 w2 S2 q2 => ?_⟩
    exact q v e k' H2 i2 w2 S2.k0 S2.kit (S2.bag.mono (by omega)) (out _ (q1.trans q2))
  · refine ⟨_, rfl, _, rfl, _, rfl, a, kd, pl, fl, lf, ps, fns, g, _, m, 3, rfl, by omega, by omega, S1, by omega, fun v2 e2 k2 H2 i2 w2 S2 q2 => ?_⟩
    refine ⟨_, rfl, _, rfl, _, rfl, a, kd, pl, fl, lf, ps, fns, g, _, k2, 3, rfl, by omega, by omega, S2, by omega, fun v3 e3 k3 H3 i3 w3 S3 q3 => ⟨_, _, rfl, ?_⟩⟩
    have i2' := i2.sit q3 S2.mut
    have q03 : Kq [a, lf] H H3 := (q1.trans q2).trans q3
    have two : DrawnEs ps fns g 3 m k3 [e2, e3] := (DrawnEs.nil.snoc w2).snoc w3
    refine ⟨_, rfl, sz (by decide), fun l hl => ?_⟩
    have S3' := S3.same (same_up (o := .lst [V.str "+", .str "-", .str "*", .str "<"]) hl)
    refine ⟨a, l, _, _, rfl, S3'.bag, by omega, SqL.of upd_same, S3.bag.ne hl, by decide, by decide, fun v4 H4 hv4 hB4 kp4 => ?_⟩
    have S4 := S3'.drawn kp4.kq hB4
    refine ⟨_, rfl, _, rfl, sz (by show 4 ≤ 1000; decide), fun p hp => ?_⟩
    have kk : ∀ p' xs, H3 p' = some (.tup xs) → (upd H4 p (.tup [V.str "op", v4, v2, v3])) p' = some (.tup xs) := fun p' xs z =>
      same_up hp _ _ (kp4.kq.tup S3'.bag.mut.notup (same_up hl _ _ z))
    obtain ⟨sg, hsg, rfl⟩ : ∃ s, s ∈ signs ∧ v4 = .str s := by
      simp only [List.mem_cons, List.not_mem_nil, or_false] at hv4
      rcases hv4 with rfl | rfl | rfl | rfl
      · exact ⟨_, by simp [signs], rfl⟩
      · exact ⟨_, by simp [signs], rfl⟩
      · exact ⟨_, by simp [signs], rfl⟩
      · exact ⟨_, by simp [signs], rfl⟩
    have S5 := S4.same (same_up (o := .tup [V.str "op", .str sg, v2, v3]) hp)
    exact q _ (.nd (.op sg) [e2, e3]) k3 _ (.nd (.cons (i2'.keep kk) (.cons (i3.keep kk) .nil)) (by unfold NodeAt; exact upd_same)) (two.nd (by unfold KdW; exact hsg) (by show 2 ≤ 3; decide) (by show (0 : Int) + m = m; omega) (fun _ => rfl))
      S5.k0 S5.kit (S5.bag.mono (by omega)) (out _ (((q03.trans (same_kq (same_up hl))).trans (kq2 kp4.kq)).trans (same_kq (same_up hp))))
end
end Oo
/-! enumerate over a tuple -/
namespace Oo
open PySem L2 PyProof.Rows
theorem newMeets {v : Value} {it : Obj} {G : Heap → Prop} (B : Begins v it G) :
    Meets (Builtin.«enumerate.__new__» ⟨[.type "enumerate", v], []⟩) (fun _ R s => G s.heap ∧ R (.ok (.ret (.ref (s.heap.push it).objs.size)))
      { s with heap := (s.heap.push it).push { cls := .type "enumerate", data := .fields #[.none, .bool false, .ref s.heap.objs.size, rawInt 0, .none, .none] } }) :=
  .of_wp fun prog w A R s hh => by
    obtain ⟨hp, g, dr, tk, os⟩ := s
    obtain ⟨gs, hR⟩ := hh
    have hsub := sub_enumerate
    have step : ∀ {A' : Around} {E : Value → Shared → Prop} {Q : Value → Shared → Prop}, Q (.ref hp.objs.size) ⟨hp.push it, g, dr, tk, os⟩ → wpAny (model prog w) A' (pyIter v) Q E ⟨hp, g, dr, tk, os⟩ :=
      fun q => B.iter prog w _ _ ⟨hp, g, dr, tk, os⟩ _ gs q
    wp_walk using step
    refine wpAny_stack_any fun _ => wpAny_pure ?_
    split
    · rename_i c _ _ _ _ _
      cases (c == Value.type "enumerate") <;> (wp_walk using step; exact ⟨_, rfl, hR⟩)
    · wp_walk using step
      exact ⟨_, rfl, hR⟩
section
variable {prog : Program} {w : World} {A : Around} {E : Value → Shared → Prop} {s : Shared}
theorem call_enum1 {v : Value} {it : Obj} {G : Heap → Prop} {Q : Value → Shared → Prop} (B : Begins v it G) (gs : G s.heap)
    (hq : ∀ h', IsEnum h' (s.heap.objs.size + 1) s.heap.objs.size 0 .none → h'.get? s.heap.objs.size = some it → h'.objs.size = s.heap.objs.size + 2 → (∀ b u, s.heap.get? b = some u → h'.get? b = some u) → Q (.ref (s.heap.objs.size + 1)) { s with heap := h' }) :
    wpAny (model prog w) A (call (.type "enumerate") [v]) Q E s := by
  refine callType_new F.called_enumerate (by decide) (F.typeCall_enumerate_1 _) (F.newCall_enumerate_1 _) (fun obj => F.args_object_init_2 obj _) F.entry_enumerate_new (newMeets B) ⟨gs, ?_⟩
  have z : (s.heap.push it).objs.size = s.heap.objs.size + 1 := Heap.size_push ..
  show _ ∧ _
  rw [z]
  have he : IsEnum ((s.heap.push it).push { cls := .type "enumerate", data := .fields #[.none, .bool false, .ref s.heap.objs.size, rawInt 0, .none, .none] }) (s.heap.objs.size + 1) s.heap.objs.size 0 .none := by
    have y := Heap.get?_push_size (s.heap.push it) (o := { cls := .type "enumerate", data := .fields #[.none, .bool false, .ref s.heap.objs.size, rawInt 0, .none, .none] }) rfl
    rw [z] at y
    exact y
  exact ⟨⟨_, he, rfl⟩, hq _ he (Heap.get?_push_of_some _ (Heap.get?_push_size _ B.free)) (by rw [Heap.size_push, z]) fun b u x => Heap.get?_push_of_some _ (Heap.get?_push_of_some _ x)⟩
end
/-- the tuple at a, each item in a new pair with its number -/
def Itu (K : PySem.W.Frag) (a : Addr) : It :=
  ⟨fun i H => ∃ (xs : List V) (x : V), SqT K H a xs ∧ xs[i]? = some x, fun i H v H' => ∃ T x, v = .ref T ∧ H T = none ∧ H' = upd H T (.tup [.int (i : Nat), x]) ∧ ∀ xs, SqT K H a xs → xs[i]? = some x, fun i H => ∃ xs : List V, SqT K H a xs ∧ xs.length = i⟩
theorem turn_enumU {P : Program} {w : World} {K : PySem.W.Frag} {elts : List PySem.Expr} {kk : Nat} {tpos : Pos} (a e it : Addr) :
    Turn P w K (.Tuple elts kk tpos) (Itu K a) [e, it] e (fun i h => (∃ old, IsEnum h e it ((i : Nat) : Int) old) ∧ h.IsTupleIter it a i ∧ e ≠ it ∧ a ≠ it ∧ a ≠ e) where
  mem := by simp
  obj := fun i h st b hb => by
    obtain ⟨⟨old, he⟩, ⟨o, ho, hc, hd⟩, _⟩ := st
    rcases List.mem_cons.mp hb with z | z
    · exact ⟨_, by rw [z]; exact he, fun v q => by cases q⟩
    · exact ⟨o, by rw [List.mem_singleton.mp z]; exact ho, fun v q => by rw [hd] at q; cases q⟩
  keep := fun i h h' st k => let ⟨⟨old, he⟩, hi, hne⟩ := st; ⟨⟨old, k e (by simp) _ he⟩, hi.at fun o q => k it (by simp) o q, hne⟩
  item := by
    intro X hP hw hK hc i pins s σ H E I hf st hg
    subst hP hw hK
    obtain ⟨⟨old, he⟩, hit, hne, hai, hae⟩ := st
    obtain ⟨xs, x, hq, hx⟩ := hg
    obtain ⟨its, rv, p, hz⟩ := I.tuple hq
    obtain ⟨u, hu, ru⟩ := rv.get hx
    have hel : e < s.heap.objs.size := Heap.lt_size he
    have hil : it < s.heap.objs.size := by obtain ⟨_, q, _⟩ := hit; exact Heap.lt_size q
    have pt : s.heap.IsTuple a its.toArray := p
    have hi : i < its.toArray.size := by
      have := (List.getElem?_eq_some_iff.mp hu).1
      simpa using this
    refine wpAny_pyNext_enum_itemD (Draws.tuple (prog := X.prog) (w := X.w) (A := X.A.in1) (show X.A.in1.handled = none from I.ok.hd hc) it a hai its.toArray) he ⟨hit, pt⟩ hi hne (by simp [hne, hae.symm]) fun x' h' tk hx' ho hit' hT hsz hk => ?_
    have ex : x' = u := by
      have h2 : its.toArray[i]? = some x' := hx'
      rw [List.getElem?_toArray, hu] at h2
      exact (Option.some.inj h2).symm
    subst ex
    refine ⟨_, rfl, wpAny_letOwnedTupleGo_enum (s := { s with heap := h', toks := tk + 1 }) ho fun h'' he' sb => ?_⟩
    have hT2 : h''.get? s.heap.objs.size = some { cls := .type "tuple", data := .seq #[.int i tk, x'] } := (sb.2 _ (Nat.ne_of_gt hel)).trans hT
    have new : ObjOk X.prog X.w (upd H s.heap.objs.size (.tup [.int (i : Nat), x])) h'' s.heap.objs.size (.tup [.int (i : Nat), x]) :=
      ⟨by show 2 ≤ sizeLine; decide, [.int i tk, x'], .cons ⟨_, rfl⟩ (.cons ru .nil), ⟨_, hT2, rfl, _, rfl⟩⟩
    have I1 : Inv X pins σ (upd H s.heap.objs.size (.tup [.int (i : Nat), x])) { s with heap := h'', toks := tk + 1 } :=
      I.turnedNew (ch := [e, it]) (fun b ob hb q => (sb.2 b (fun z => hb (by simp [z]))).trans (hk b ob (fun z => hb (by simp [z])) (fun z => hb (by simp [z])) q)) hf (Nat.le_refl _) new
    refine ⟨.ref s.heap.objs.size, _, I1, rfl, ⟨_, x, rfl, I.hok.fresh (Nat.le_refl _), rfl, fun ys hy => by rw [I.tuple_inj hy hq]; exact hx⟩, ⟨⟨x', ?_⟩, hit'.1.at fun o q => (sb.2 it (Ne.symm hne)).trans q, hne, hai, hae⟩, fun b hb => ?_⟩
    · have e1 : ((i + 1 : Nat) : Int) = (i : Int) + 1 := by omega
      rw [e1]; exact he'
    · have hb' : b < s.heap.objs.size := by
        rcases List.mem_cons.mp hb with z | z
        · rw [z]; exact hel
        · rw [List.mem_singleton.mp z]; exact hil
      rw [upd_ne (Nat.ne_of_lt hb')]
      exact (hf b hb).1
  done := by
    intro X hP hw hK hc i pins s σ H E I hf st hg
    subst hP hw hK
    obtain ⟨⟨old, he⟩, hit, hne, hai, hae⟩ := st
    obtain ⟨xs, hq, hx⟩ := hg
    obtain ⟨its, rv, p, hz⟩ := I.tuple hq
    obtain ⟨f0, f1, f2, f3, f4, f5⟩ := hf it (by simp)
    have hl := rv.length
    have pt : s.heap.IsTuple a its.toArray := p
    have hn : i = its.toArray.size := by simp; omega
    refine wpAny_pyNext_enum_endD (Draws.tuple (prog := X.prog) (w := X.w) (A := X.A.in1) (show X.A.in1.handled = none from I.ok.hd hc) it a hai its.toArray) he (by rw [← hn]; exact ⟨hit, pt⟩) fun h' eb => ⟨rfl, I.turned (t' := s.toks) (fun b o hb q => eb b o hb q) f0 f1 f3 f4 f5⟩
  self := fun A i s Q E st h => let ⟨⟨_, he⟩, _⟩ := st; wpAny_pyIter_enum he h
def iEnumU (K : PySem.W.Frag) (ta : TA) : TI := fun σ H R => ta σ H fun vs H1 => ∃ a xs, vs = [.ref a] ∧ SqT K H1 a xs ∧ R (Itu K a) H1
theorem pi_enumT {X : Cx} {e : PySem.Expr} {ta : TA} {p pos tpos : Pos} {elts : List PySem.Expr} {kk : Nat} (hg : Gl X "enumerate") (hm : X.mg "enumerate" = none) (ha : PA X [e] ta) (hs : starEach [e] X.env = [(false, eval e X.env)] := by rfl) :
    PI X (.Tuple elts kk tpos) (.Call (.Name "enumerate" p) [e] [] pos) (iEnumU X.K ta) := by
  refine ⟨fun pins s σ H R I h => Call_ (ld_blt I hg hm boot_enumerate (PyProof.Rows.callWith_type1 (thn (ha.run pos pins s σ H _ I h) fun us s1 hq => ?_) hs rfl))⟩
  obtain ⟨vs, H1, I1, r1, a, xs, ex, hq, q⟩ := hq
  subst ex
  cases r1 with
  | cons r rr =>
    cases rr
    cases r
    obtain ⟨its, rv, p', hz⟩ := I1.tuple hq
    have pt : s1.heap.IsTuple a its.toArray := p'
    have hla : a < s1.heap.objs.size := by obtain ⟨_, y, _⟩ := pt; exact Heap.lt_size y
    refine call_enum1 (begins_tuple a its.toArray) pt fun h' he hit hsz hk => wpAny_pyIter_enum he ?_
    have I2 : Inv X pins σ H1 { s1 with heap := h' } := I1.kept (t' := s1.toks) hk
    refine ⟨s1.heap.objs.size + 1, [s1.heap.objs.size + 1, s1.heap.objs.size], _, _, H1, rfl, I2, turn_enumU a (s1.heap.objs.size + 1) s1.heap.objs.size, ⟨⟨.none, he⟩, ⟨_, hit, rfl, rfl⟩, Nat.succ_ne_self _, Nat.ne_of_lt hla, Nat.ne_of_lt (Nat.lt_succ_of_lt hla)⟩, fun b hb => ?_, q⟩
    have hle : s1.heap.objs.size ≤ b := by
      rcases List.mem_cons.mp hb with z | z
      · rw [z]; exact Nat.le_succ _
      · rw [List.mem_singleton.mp z]; exact Nat.le_refl _
    exact I1.fpOk hle (I1.hok.fresh hle)
theorem walk_enumU {K : PySem.W.Frag} {a : Addr} {xs : List V} : Walk (Itu K a) xs.length (fun H => SqT K H a xs) (YPair (fun i => some (.int (i : Nat))) (fun i => xs[i]?)) :=
  ⟨fun i _ hi q => ⟨xs, xs[i], q, by simp [hi]⟩, fun _ q => ⟨xs, q, rfl⟩, fun i H x H' _ q y => by
    obtain ⟨T, x', e1, e2, e3, e4⟩ := y
    exact ⟨T, _, x', e1, e2, e3, rfl, e4 xs q⟩⟩
end Oo
namespace Oo
open PySem L2 PyProof.Rows
abbrev sOperands : Stmt := top 71
abbrev sNodes : Stmt := top 72
def Ex.ops : Ex → List Ex
  | .num _ => []
  | .nd _ os => os
def Kd.word : Kd → Str
  | .read _ => "read" | .store _ => "store" | .step _ _ _ => "step" | .op _ => "op" | .call _ => "call" | .thn => "then" | .and_ => "and" | .or_ => "or" | .cho => "choose"
def Kd.isRS : Kd → Bool
  | .read _ => true | .step _ _ _ => true | _ => false
def Kd.isSO : Kd → Bool
  | .store _ => true | .op _ => true | _ => false
theorem NodeAt.tup {H : Hp} {p : Addr} {k : Kd} {vs : List V} (n : NodeAt H p k vs) : ∃ tl, H p = some (.tup (.str k.word :: tl)) := by
  cases k with
  | call f =>
    obtain ⟨q, h1, _⟩ := n
    exact ⟨_, h1⟩
  | _ => exact ⟨_, n⟩
theorem word_rs (k : Kd) : inV (.str k.word) [.str "read", .str "step"] = k.isRS := by
  cases k <;> (simp only [Kd.word, Kd.isRS]; decide +kernel)
theorem word_so (k : Kd) : inV (.str k.word) [.str "store", .str "op"] = k.isSO := by
  cases k <;> (simp only [Kd.word, Kd.isSO]; decide +kernel)
def Kd.isCall : Kd → Bool
  | .call _ => true | _ => false
theorem word_call (k : Kd) : decide (V.str k.word = .str "call") = k.isCall := by
  cases k <;> first | exact decide_eq_true rfl | exact decide_eq_false (by simp only [Kd.word]; decide +kernel)
theorem at0 (x : V) (tl : List V) : atI (x :: tl) 0 = some x := at_of (j := 0) rfl rfl
theorem cut1 (a : V) (r : List V) : cutV (a :: r) (some 1) none = r := by
  unfold cutV
  simp [HT.sIx]
theorem cut2 (a b : V) (r : List V) : cutV (a :: b :: r) (some 2) none = r := by
  unfold cutV
  simp [HT.sIx]
def spOperands : Sp := fun vs H Q _ => ∃ (v : V) (e : Ex), vs = [v] ∧ InE H e v ∧ (∀ k os, e = .nd k os → k.isRS = true → os = []) ∧ ∀ (p : Addr) (ws : List V) (H' : Hp), H' p = some (.tup ws) → InEs H' e.ops ws → Same H H' → Q (.ref p) H'
section
variable {P : Program} {w : World} {K : PySem.W.Frag} {mg : Str → Option Value} {base : Heap} {X : Cx}
theorem scOperands : FnScope ["_law_node"] ["_law_node"] (defScope sOperands) := ⟨rfl, rfl, rfl, by decide +kernel, rfl, by decide +kernel, by decide +kernel⟩
theorem ok_operands {f : Addr} {fd : FuncData} (F : Fun K "_law_operands" "_law_operands" sOperands f fd) (mi : mg "int" = none) (mis : mg "isinstance" = none) : FnOk P w K mg base CX0 1 f fd ["_law_node"] spOperands := by
  refine F.ok scOperands (fun vs H Q E h => ?_) (fun cdv A outer s H vs Q E hr h => ?_)
  · obtain ⟨v, e, rfl, _⟩ := h
    rfl
  obtain ⟨v, e, rfl, ie, hw, q⟩ := h
  refine ⟨_, (pss_cons (ps_if (PW.pt (pw_or (pt_val (pe_callB call_isi (by rfl) mis (by decide +kernel) (pa_cons (pv 0) (pa_cons (pe_bltn (v := .ty "int") (by rfl) mi (by decide +kernel) rfl) pa_nil)))) (pw_or1 (pt_cmpR op_in_seq (pe_ix ix_tup (pv 0) pe_int (fun _ _ => rfl)) (pe_tup (pa_cons pe_str (pa_cons pe_str pa_nil))) (by rfl))))) (pss_one (ps_ret (pe_tup pa_nil))) pss_nil)
    (pss_cons (ps_if (pt_cmpR op_eq (pe_ix ix_tup (pv 0) pe_int (fun _ _ => rfl)) pe_str (nomark _)) (pss_one (ps_ret (pe_ix ix_tup (pv 0) pe_int (fun _ _ => rfl)))) pss_nil)
    (pss_one (ps_ret (pe_ifExp (pt_cmpR op_in_seq (pe_ix ix_tup (pv 0) pe_int (fun _ _ => rfl)) (pe_tup (pa_cons pe_str (pa_cons pe_str pa_nil))) (by rfl)) (pe_slice sl_tup (pv 0) (po_some pe_int) po_none) (pe_slice sl_tup (pv 0) (po_some pe_int) po_none)))))), ?_⟩
  cases e with
  | num n =>
    unfold InE at ie
    subst ie
    refine ⟨_, rfl, _, _, _, _, true, rfl, .ty "int", .base (.int n), kit_ty (by decide +kernel), _, rfl, iteT (iteT ⟨sz (by decide), fun p hp => ?_⟩)⟩
    exact q p [] _ upd_same .nil (same_up hp)
  | nd k os =>
    unfold InE at ie
    obtain ⟨p, ws, rfl, ios, na⟩ := ie
    obtain ⟨tl, ht⟩ := na.tup
    refine ⟨_, rfl, _, _, _, _, false, rfl, .ty "int", .base (.tup ht), kit_ty (by decide +kernel), _, rfl, iteF ?_⟩
    refine ⟨_, rfl, p, _, _, _, rfl, rfl, SqT.of ht, at0 _ _, sz (by decide), fun t1 ht1 => ?_⟩
    have s1 := same_up (o := .tup [.str "read", .str "step"]) ht1
    refine ⟨t1, _, rfl, .inr (SqT.of upd_same), rfl, rfl, _, rfl, ?_⟩
    simp only [Bool.false_eq_true, if_false]
    rw [word_rs]
    cases hrs : k.isRS with
    | true =>
      refine iteT ⟨sz (by decide), fun t2 ht2 => ?_⟩
      have := hw k os rfl hrs
      subst this
      exact q t2 [] _ upd_same .nil (s1.trans (same_up ht2))
    | false =>
      refine iteF ⟨_, rfl, p, _, _, _, rfl, rfl, SqT.of (s1 _ _ ht), at0 _ _, rfl, _, rfl, ?_⟩
      rw [word_call]
      cases hc : k.isCall with
      | true =>
        cases k with
        | call f =>
          obtain ⟨qa, h1, h2⟩ := na
          refine iteT ⟨_, rfl, p, _, _, _, rfl, rfl, SqT.of (s1 _ _ h1), (rfl : atI [V.str "call", .str f, .ref qa] 2 = some (.ref qa)), ?_⟩
          exact q qa ws _ (s1 _ _ h2) (ios.keep fun p' xs z => s1 _ _ z) s1
        | _ => cases hc
      | false =>
        refine iteF ⟨_, rfl, p, _, _, _, rfl, rfl, SqT.of (s1 _ _ ht), at0 _ _, sz (by decide), fun t3 ht3 => ?_⟩
        have s3 := same_up (o := .tup [.str "store", .str "op"]) ht3
        have s13 := s1.trans s3
        refine ⟨t3, _, rfl, .inr (SqT.of upd_same), rfl, rfl, _, rfl, ?_⟩
        simp only [Bool.false_eq_true, if_false]
        rw [word_so]
        have fin2 : ∀ (a b : V), H p = some (.tup (a :: b :: ws)) → ∀ h', Same H h' → ∀ t4, h' t4 = none → InEs (upd h' t4 (.tup ws)) os ws → Q (.ref t4) (upd h' t4 (.tup ws)) := fun a b e h' sh t4 n4 i4 => q t4 ws _ upd_same i4 (sh.trans (same_up n4))
        have sl2 : ∀ (a b : V), H p = some (.tup (a :: b :: ws)) → (tSl (rSlT K) (tVar 0) (tPart (tC (.int 2))) tNoPart) [some (.ref p)] (upd (upd H t1 (.tup [.str "read", .str "step"])) t3 (.tup [.str "store", .str "op"])) Q := fun a b e => by
          refine ⟨_, rfl, _, rfl, p, _, rfl, SqT.of (s13 _ _ e), ?_, fun t4 n4 => ?_⟩
          · rintro ⟨z, _⟩
            have := HT.sIx_nat (a :: b :: ws).length 0 2
            rw [List.length_cons, List.length_cons] at this z
            have z' := this.symm.trans z
            omega
          · rw [cut2]
            exact q t4 ws _ upd_same (ios.keep fun p' xs z => same_up n4 _ _ (s13 _ _ z)) (s13.trans (same_up n4))
        have sl1 : ∀ (a : V), H p = some (.tup (a :: ws)) → (tSl (rSlT K) (tVar 0) (tPart (tC (.int 1))) tNoPart) [some (.ref p)] (upd (upd H t1 (.tup [.str "read", .str "step"])) t3 (.tup [.str "store", .str "op"])) Q := fun a e => by
          refine ⟨_, rfl, _, rfl, p, _, rfl, SqT.of (s13 _ _ e), ?_, fun t4 n4 => ?_⟩
          · rintro ⟨z, _⟩
            have := HT.sIx_nat (a :: ws).length 0 1
            rw [List.length_cons] at this z
            have z' := this.symm.trans z
            omega
          · rw [cut1]
            exact q t4 ws _ upd_same (ios.keep fun p' xs z => same_up n4 _ _ (s13 _ _ z)) (s13.trans (same_up n4))
        cases k with
        | read x => cases hrs
        | step x b w => cases hrs
        | call f => cases hc
        | store x => exact iteT (sl2 _ _ na)
        | op s => exact iteT (sl2 _ _ na)
        | thn => exact iteF (sl1 _ na)
        | and_ => exact iteF (sl1 _ na)
        | or_ => exact iteF (sl1 _ na)
        | cho => exact iteF (sl1 _ na)
end
end Oo
namespace Oo
open PySem L2 PyProof.Rows
/-! ### paths, preorder -/
def pv_ (p : List Nat) : List V := p.map fun (i : Nat) => V.int (i : Int)
def PathAt (H : Hp) (v : V) (p : List Nat) : Prop := ∃ q : Addr, v = .ref q ∧ H q = some (.tup (pv_ p))
theorem PathAt.keep {H H' : Hp} {v : V} {p : List Nat} (h : ∀ q xs, H q = some (.tup xs) → H' q = some (.tup xs)) (x : PathAt H v p) : PathAt H' v p := by
  obtain ⟨q, e, z⟩ := x
  exact ⟨q, e, h _ _ z⟩
theorem same_t {H H' : Hp} (s : Same H H') : ∀ q xs, H q = some (.tup xs) → H' q = some (.tup xs) := fun q xs z => s _ _ z
theorem cat_path {K : PySem.W.Frag} {H : Hp} {a b : Addr} {p : List Nat} {i : Nat} {Q : VK} (ha : H a = some (.tup (pv_ p))) (hb : H b = some (.tup [.int (i : Int)])) (hl : p.length ≤ 100) (q : ∀ v H', PathAt H' v (p ++ [i]) → Same H H' → Q v H') : rCatA K (.ref a) (.ref b) H Q := by
  refine ⟨a, b, _, _, rfl, rfl, SqT.of ha, SqT.of hb, sz (by simp [pv_]; omega), fun z => ?_, fun _ z => by simp at z, fun _ _ t ht => ?_⟩
  · have : p = [] := by simpa [pv_] using z
    subst this
    exact q _ H ⟨b, rfl, hb⟩ (Same.refl H)
  · exact q _ _ ⟨t, rfl, by rw [upd_same]; simp [pv_]⟩ (same_up ht)
mutual
def Ex.pre : Ex → List Nat → List (List Nat × Ex)
  | .num n, p => [(p, .num n)]
  | .nd k os, p => (p, .nd k os) :: Ex.pres os p 0
def Ex.pres : List Ex → List Nat → Nat → List (List Nat × Ex)
  | [], _, _ => []
  | e :: r, p, i => Ex.pre e (p ++ [i]) ++ Ex.pres r p (i + 1)
end
theorem Ex.pre_eq (e : Ex) (p : List Nat) : e.pre p = (p, e) :: Ex.pres e.ops p 0 := by
  cases e with
  | num n => simp [Ex.pre, Ex.ops, Ex.pres]
  | nd k os => simp [Ex.pre, Ex.ops]
theorem pres_append : ∀ (a b : List Ex) (p : List Nat) (j : Nat), Ex.pres (a ++ b) p j = Ex.pres a p j ++ Ex.pres b p (j + a.length)
  | [], b, p, j => by simp [Ex.pres]
  | e :: r, b, p, j => by
    show Ex.pres (e :: (r ++ b)) p j = _
    simp only [Ex.pres, pres_append r b p (j + 1), List.append_assoc, List.length_cons]
    congr 3
    omega
theorem pres_snoc (os : List Ex) (p : List Nat) (i : Nat) (h : i < os.length) : Ex.pres (os.take (i + 1)) p 0 = Ex.pres (os.take i) p 0 ++ Ex.pre os[i] (p ++ [i]) := by
  have hl : (os.take i).length = i := by rw [List.length_take]; omega
  rw [take_succ_get os i h, pres_append]
  simp [Ex.pres, hl]
mutual
theorem pre_len : ∀ (e : Ex) (p : List Nat), (e.pre p).length = e.nodes
  | .num _, p => by simp [Ex.pre, Ex.nodes]
  | .nd _ os, p => by simp [Ex.pre, Ex.nodes, pres_len os p 0]; omega
theorem pres_len : ∀ (es : List Ex) (p : List Nat) (j : Nat), (Ex.pres es p j).length = Ex.nodess es
  | [], p, j => by simp [Ex.pres, Ex.nodess]
  | e :: r, p, j => by simp [Ex.pres, Ex.nodess, pre_len e, pres_len r]
end
theorem nodess_take : ∀ (es : List Ex) (i : Nat), Ex.nodess (es.take i) ≤ Ex.nodess es
  | [], i => by simp [Ex.nodess]
  | e :: r, 0 => by simp [Ex.nodess]
  | e :: r, i + 1 => by
    have := nodess_take r i
    simp only [List.take_succ_cons, Ex.nodess]
    omega
theorem depth_get : ∀ (es : List Ex) (i : Nat) (h : i < es.length), es[i].depth ≤ Ex.depths es
  | e :: r, 0, h => by simp [Ex.depths]; omega
  | e :: r, i + 1, h => by
    have := depth_get r i (by simpa using h)
    simp only [List.getElem_cons_succ, Ex.depths]
    omega
theorem nodes_get : ∀ (es : List Ex) (i : Nat) (h : i < es.length), Ex.nodess (es.take i) + es[i].nodes ≤ Ex.nodess es
  | e :: r, 0, h => by simp [Ex.nodess]
  | e :: r, i + 1, h => by
    have := nodes_get r i (by simpa using h)
    simp only [List.take_succ_cons, List.getElem_cons_succ, Ex.nodess]
    omega
/-! one that reads or steps has no operands, at every node -/
mutual
def Shp : Ex → Prop
  | .num _ => True
  | .nd k os => (k.isRS = true → os = []) ∧ Shps os
def Shps : List Ex → Prop
  | [] => True
  | e :: r => Shp e ∧ Shps r
end
mutual
theorem ExW.shp {ps : List Str} {fns : List Fn} : ∀ (e : Ex), ExW ps fns e → Shp e
  | .num _, _ => by unfold Shp; trivial
  | .nd k os, h => by
    unfold ExW at h
    unfold Shp
    refine ⟨fun z => ?_, ExWs.shp os h.2⟩
    have h1 := h.1
    cases k with
    | read x =>
      cases os with
      | nil => rfl
      | cons e r => simp [KdW] at h1
    | step x b w =>
      cases os with
      | nil => rfl
      | cons e r => simp [KdW] at h1
    | _ => cases z
theorem ExWs.shp {ps : List Str} {fns : List Fn} : ∀ (es : List Ex), ExWs ps fns es → Shps es
  | [], _ => by unfold Shps; trivial
  | e :: r, h => by
    unfold ExWs at h
    unfold Shps
    exact ⟨ExW.shp e h.1, ExWs.shp r h.2⟩
end
theorem Shps.get : ∀ {es : List Ex}, Shps es → ∀ (i : Nat) (h : i < es.length), Shp es[i]
  | e :: r, s, 0, h => by unfold Shps at s; exact s.1
  | e :: r, s, i + 1, h => by
    unfold Shps at s
    simpa using Shps.get s.2 i (by simpa using h)
theorem Shp.ops {e : Ex} (s : Shp e) : Shps e.ops := by
  cases e with
  | num n => unfold Ex.ops Shps; trivial
  | nd k os => unfold Shp at s; exact s.2
theorem Shp.rs {e : Ex} (s : Shp e) : ∀ k os, e = .nd k os → k.isRS = true → os = [] := fun k os h => by
  subst h
  unfold Shp at s
  exact s.1
theorem depth_ops {e : Ex} {i : Nat} (h : i < e.ops.length) : (e.ops[i]).depth + 1 ≤ e.depth := by
  cases e with
  | num n => simp [Ex.ops] at h
  | nd k os =>
    have := depth_get os i h
    show os[i].depth + 1 ≤ Ex.depth (.nd k os)
    have e : Ex.depth (.nd k os) = 1 + Ex.depths os := by simp [Ex.depth]
    rw [e]
    omega
theorem nodes_ops (e : Ex) : 1 + Ex.nodess e.ops = e.nodes := by
  cases e with
  | num n => simp [Ex.ops, Ex.nodess, Ex.nodes]
  | nd k os => simp [Ex.ops, Ex.nodes]
theorem InEs.get {H : Hp} : ∀ {es : List Ex} {vs : List V}, InEs H es vs → ∀ (i : Nat) (h : i < es.length), ∃ v, vs[i]? = some v ∧ InE H es[i] v
  | e :: r, vs, q, i, h => by
    unfold InEs at q
    obtain ⟨v, ws, rfl, q1, q2⟩ := q
    cases i with
    | zero => exact ⟨v, rfl, q1⟩
    | succ i => exact InEs.get q2 i (by simpa using h)
def RowN (H : Hp) (v : V) (r : List Nat × Ex) : Prop := ∃ (q : Addr) (vp ve : V), v = .ref q ∧ H q = some (.tup [vp, ve]) ∧ PathAt H vp r.1 ∧ InE H r.2 ve
theorem RowN.keep {H H' : Hp} {v : V} {r : List Nat × Ex} (h : ∀ q xs, H q = some (.tup xs) → H' q = some (.tup xs)) (x : RowN H v r) : RowN H' v r := by
  obtain ⟨q, vp, ve, e, z, a, b⟩ := x
  exact ⟨q, vp, ve, e, h _ _ z, a.keep h, b.keep h⟩
theorem paired_append {α β : Type} {F : α → β → Prop} : ∀ {a : List α} {b : List β} {c : List α} {d : List β}, Paired F a b → Paired F c d → Paired F (a ++ c) (b ++ d)
  | _, _, _, _, .nil, y => y
  | _, _, _, _, .cons f t, y => .cons f (paired_append t y)
def spNodes (N : Nat) : Sp := fun vs H Q _ => ∃ (ve vp : V) (e : Ex) (p : List Nat), vs = [ve, vp] ∧ InE H e ve ∧ Shp e ∧ PathAt H vp p ∧ e.depth ≤ N ∧ p.length + e.depth ≤ 90 ∧ e.nodes ≤ 900 ∧
  ∀ (l : Addr) (rows : List V) (H' : Hp), H l = none → H' l = some (.lst rows) → Paired (RowN H') rows (e.pre p) → Same H H' → Q (.ref l) H'
section
variable {P : Program} {w : World} {K : PySem.W.Frag} {mg : Str → Option Value} {base : Heap} {X : Cx}
theorem scNodes : FnScope ["_law_node", "_law_path", "_law_found", "_law_at", "_law_one"] ["_law_node", "_law_path"] (defScope sNodes) := ⟨rfl, rfl, rfl, by decide +kernel, rfl, by decide +kernel, by decide +kernel⟩
theorem ok_nodes {N L : Nat} {f fp fn : Addr} {fd fdp fdn : FuncData} (F : Fun K "_law_nodes" "_law_nodes" sNodes f fd) (hL : 1 ≤ L) (men : mg "enumerate" = none)
    (GP : FnOk P w K mg base CX0 1 fp fdp ["_law_node"] spOperands) (kP : PySem.W.keepIn K (.ref fp) = true) (bP : Binds K fdp ["_law_node"] []) (mP : mg "_law_operands" = some (.ref fp))
    (GN : FnOk P w K mg base CX0 L fn fdn ["_law_node", "_law_path"] (spNodes N)) (kN : PySem.W.keepIn K (.ref fn) = true) (bN : Binds K fdn ["_law_node", "_law_path"] []) (mN : mg "_law_nodes" = some (.ref fn)) :
    FnOk P w K mg base CX0 (L + 1) f fd ["_law_node", "_law_path"] (spNodes (N + 1)) := by
  refine F.ok scNodes (fun vs H Q E h => ?_) (fun cdv A outer s H vs Q E hr h => ?_)
  · obtain ⟨ve, vp, e, p, rfl, _⟩ := h
    rfl
  obtain ⟨ve, vp, e, p, rfl, ie, sh, hp, hd, hpl, hnn, q⟩ := h
  have hr1 : Room 1 _ := hr.mono hL
  refine ⟨_, (pss_cons (ps_set (i := 2) scNodes.nd rfl (.inl rfl) (pe_lst (pa_cons (pe_tup (pa_cons (pv 1) (pa_cons (pv 0) pa_nil))) pa_nil)))
    (pss_cons (ps_for PassesOwn.never rfl (pi_enumT (by rfl) men (pa_cons (pe_call GP hr1 rfl mP kP bP .nil pass0 (pa_cons (pv 0) pa_nil)) pa_nil)) (pg_tup rfl (pgs_cons (pg_name (i := 3) scNodes.nd rfl (Or.inl rfl)) (pgs_cons (pg_name (i := 4) scNodes.nd rfl (Or.inl rfl)) pgs_nil))) (pss_one (ps_set (i := 2) scNodes.nd rfl (.inl rfl) (pe_op op_cat (pv 2) (pe_call GN hr rfl mN kN bN .nil pass0 (pa_cons (pv 4) (pa_cons (pe_op op_catA (pv 1) (pe_tup (pa_cons (pv 3) pa_nil))) pa_nil)))))))
    (pss_one (ps_ret (pv 2))))), ?_⟩
  obtain ⟨pa, rfl, epa⟩ := id hp
  refine ⟨_, rfl, _, rfl, sz (by show 2 ≤ 1000; decide), fun t0 n0 => ⟨sz (by show 1 ≤ 1000; decide), fun l0 nl0 => ?_⟩⟩
  have s0 : Same H (upd (upd H t0 (.tup [.ref pa, ve])) l0 (.lst [.ref t0])) := (same_up n0).trans (same_up nl0)
  have et0 : (upd (upd H t0 (.tup [.ref pa, ve])) l0 (.lst [.ref t0])) t0 = some (.tup [.ref pa, ve]) := same_up nl0 _ _ upd_same
  refine ⟨_, rfl, ve, e, rfl, ie.keep (same_t s0) , sh.rs, fun po ws H1 eo io s1 => ?_⟩
  have s01 := s0.trans s1
  refine ⟨po, ws, rfl, SqT.of eo, ?_⟩
  have hws : ws.length = e.ops.length := io.length
  refine for_it walk_enumU (fun i σ H' => ∃ (l : Addr) (rows : List V) (x y : Option V), σ = [some ve, some (.ref pa), some (.ref l), x, y] ∧ H l = none ∧ H' l = some (.lst rows) ∧ Paired (RowN H') rows ((p, e) :: Ex.pres (e.ops.take i) p 0) ∧ H' po = some (.tup ws) ∧ InEs H' e.ops ws ∧ Same H H')
    ⟨l0, [.ref t0], none, none, rfl, (same_up n0).free nl0, s1 _ _ upd_same, ?_, eo, io, s01⟩ (fun i σ H' _ ⟨_, _, _, _, _, _, _, _, z, _⟩ => SqT.of z) ?_ ?_
  · simp only [List.take_zero, Ex.pres]
    exact .cons ⟨t0, _, _, rfl, s1 _ _ et0, hp.keep (same_t s01), ie.keep (same_t s01)⟩ .nil
  · rintro i x σ H2 H3 hi ⟨l, rows, x0, y0, rfl, nl, el, pr, eo2, io2, s2⟩ ⟨T, x', y', rfl, nT, rfl, hx, hy⟩
    have hx' : x' = .int (i : Int) := (Option.some.inj hx).symm
    subst hx'
    have hio : i < e.ops.length := by omega
    obtain ⟨v, hv, iv⟩ := io2.get i hio
    have : y' = v := Option.some.inj (hy.symm.trans hv)
    subst this
    have sT := same_up (o := .tup [V.int (i : Int), y']) nT
    refine ⟨T, _, rfl, SqT.of upd_same, rfl, _, _, rfl, _, _, rfl, rfl, ?_⟩
    have s3 := s2.trans sT
    refine ⟨_, rfl, _, rfl, _, rfl, _, rfl, sz (by show 1 ≤ 1000; decide), fun t1 n1 => ?_⟩
    have s4 := s3.trans (same_up (o := .tup [V.int (i : Int)]) n1)
    have sA := sT.trans (same_up (o := .tup [V.int (i : Int)]) n1)
    refine cat_path (s4 _ _ epa) upd_same (by omega) fun vp2 H4 hp2 s5 => ?_
    have s25 := sA.trans s5
    have hdi := depth_ops hio
    have hnn' := nodes_get e.ops i hio
    have hno := nodes_ops e
    refine ⟨y', vp2, e.ops[i], p ++ [i], rfl, iv.keep (same_t s25), sh.ops.get i hio, hp2, by omega, by rw [List.length_append, List.length_singleton]; omega, by omega, fun l6 rows6 H6 nl6 el6 pr6 s6 => ?_⟩
    have s26 := s25.trans s6
    have hlen1 := pr.length
    have hlen2 := pr6.length
    rw [List.length_cons, pres_len] at hlen1
    rw [pre_len] at hlen2
    refine ⟨l, l6, _, _, rfl, rfl, s26 _ _ el, el6, sz (by omega), fun l7 nl7 => ?_⟩
    have s27 := s26.trans (same_up (o := .lst (rows ++ rows6)) nl7)
    refine ⟨l7, rows ++ rows6, _, _, rfl, (s2.trans s26).free nl7, upd_same, ?_, s27 _ _ eo2, io2.keep (same_t s27), s2.trans s27⟩
    rw [pres_snoc _ _ _ hio, ← List.cons_append]
    exact paired_append (L2.Paired.mapP pr fun a b r => r.keep (same_t s27)) (L2.Paired.mapP pr6 fun a b r => r.keep (same_t (same_up nl7)))
  · rintro σ H2 ⟨l, rows, x0, y0, rfl, nl, el, pr, eo2, io2, s2⟩
    rw [hws, List.take_length, ← Ex.pre_eq] at pr
    exact ⟨_, rfl, q l rows H2 nl el pr s2⟩
end
end Oo
namespace Oo
open PySem L2 PyProof.Rows
def dI (p : List Nat) : List PyData := p.map fun (i : Nat) => PyData.int (i : Int)
def dP (p : List Nat) : PyData := .tuple (dI p)
def pathLt (p q : List Nat) : Prop := PySem.W.dataLt (dP p) (dP q) = true
theorem alike_ints : ∀ (p q : List Nat), PySem.W.alikeAll (dI p) (dI q) = true
  | [], q => by cases q <;> rfl
  | i :: p, [] => rfl
  | i :: p, j :: q => by
    show (PySem.W.alike (.int (i : Int)) (.int (j : Int)) && PySem.W.alikeAll (dI p) (dI q)) = true
    rw [alike_ints p q]
    rfl
theorem alike_paths (ps : List (List Nat)) : PySem.W.AllAlike (ps.map dP) := fun d hd d' hd' => by
  obtain ⟨p, _, rfl⟩ := List.mem_map.mp hd
  obtain ⟨q, _, rfl⟩ := List.mem_map.mp hd'
  show PySem.W.alike (.tuple (dI p)) (.tuple (dI q)) = true
  simp only [PySem.W.alike]
  exact alike_ints p q
theorem depth_ints : ∀ p : List Nat, PyData.depthAll (dI p) = 0
  | [] => by simp [dI, PyData.depthAll]
  | i :: p => by
    have := depth_ints p
    simp [dI, PyData.depthAll, PyData.depth] at this ⊢
    exact this
theorem depth_path (p : List Nat) : (dP p).depth = 1 := by
  unfold dP
  simp [PyData.depth, depth_ints]
theorem dpAll_ints {K : PySem.W.Frag} {H : Hp} : ∀ p : List Nat, DpAll K H (pv_ p) (dI p)
  | [] => .nil
  | i :: p => .cons (.int _) (dpAll_ints p)
theorem PathAt.dp {K : PySem.W.Frag} {H : Hp} {v : V} {p : List Nat} (h : PathAt H v p) : Dp K H v (dP p) := by
  obtain ⟨q, rfl, e⟩ := h
  exact .tup (SqT.of e) (dpAll_ints p)
/-! the order of paths -/
theorem toks_pre (p q r : List Nat) : PySem.W.dataLt (dP (p ++ q)) (dP (p ++ r)) = PySem.W.dataLt (dP q) (dP r) := by
  unfold dP
  rw [PySem.W.dataLt_tuple, PySem.W.dataLt_tuple]
  induction p with
  | nil => rfl
  | cons i p ih =>
    rw [← ih]
    show lexLt itemOrd (PySem.W.keyToksAll (.int (i : Int) :: dI (p ++ q))) (PySem.W.keyToksAll (.int (i : Int) :: dI (p ++ r))) = _
    simp only [PySem.W.keyToksAll, PySem.W.keyToks]
    exact PySem.W.lex_pre [.inl 1, .inl (i : Int)] _ _
theorem nil_lt (i : Nat) (r : List Nat) : pathLt [] (i :: r) := by
  unfold pathLt dP
  rw [PySem.W.dataLt_tuple]
  simp only [dI, List.map_nil, List.map_cons, PySem.W.keyToksAll]
  rfl
theorem cons_lt {i j : Nat} (h : i < j) (q r : List Nat) : pathLt (i :: q) (j :: r) := by
  unfold pathLt dP
  rw [PySem.W.dataLt_tuple]
  simp only [dI, List.map_cons, PySem.W.keyToksAll, PySem.W.keyToks]
  have ne : (Sum.inl (i : Int) : Int ⊕ List Nat) ≠ Sum.inl (j : Int) := fun z => by
    have := Sum.inl.inj z
    omega
  refine (lex_self (O := itemOrd) (Sum.inl 1) _ _).trans ((lex_diff (O := itemOrd) ne).trans ?_)
  show decide ((i : Int) < (j : Int)) = true
  exact decide_eq_true (by omega)
theorem lt_nil (p : List Nat) : ¬ pathLt p [] := by
  unfold pathLt dP
  rw [PySem.W.dataLt_tuple]
  cases p with
  | nil =>
    simp only [dI, List.map_nil, PySem.W.keyToksAll]
    decide
  | cons i p =>
    simp only [dI, List.map_nil, List.map_cons, PySem.W.keyToksAll]
    have ne : (Sum.inl 1 : Int ⊕ List Nat) ≠ Sum.inl 0 := fun z => by
      have := Sum.inl.inj z
      omega
    intro z
    have := (lex_diff (O := itemOrd) ne).symm.trans z
    exact absurd this (by decide)
theorem pathLt.pre {p q r : List Nat} (h : pathLt q r) : pathLt (p ++ q) (p ++ r) := by
  unfold pathLt at h ⊢
  rw [toks_pre]
  exact h
mutual
theorem pre_form : ∀ (e : Ex) (p : List Nat), ∀ x ∈ e.pre p, ∃ q, x.1 = p ++ q
  | .num n, p, x, h => by
    simp only [Ex.pre, List.mem_singleton] at h
    exact ⟨[], by rw [h]; simp⟩
  | .nd k os, p, x, h => by
    simp only [Ex.pre, List.mem_cons] at h
    rcases h with h | h
    · exact ⟨[], by rw [h]; simp⟩
    · obtain ⟨i, q, _, e⟩ := pres_form os p 0 x h
      exact ⟨i :: q, e⟩
theorem pres_form : ∀ (os : List Ex) (p : List Nat) (j : Nat), ∀ x ∈ Ex.pres os p j, ∃ i q, j ≤ i ∧ x.1 = p ++ i :: q
  | [], p, j, x, h => by simp [Ex.pres] at h
  | e :: r, p, j, x, h => by
    simp only [Ex.pres, List.mem_append] at h
    rcases h with h | h
    · obtain ⟨q, z⟩ := pre_form e (p ++ [j]) x h
      exact ⟨j, q, Nat.le_refl _, by rw [z, List.append_assoc]; rfl⟩
    · obtain ⟨i, q, hi, z⟩ := pres_form r p (j + 1) x h
      exact ⟨i, q, by omega, z⟩
end
mutual
theorem pre_asc : ∀ (e : Ex) (p : List Nat), (e.pre p).Pairwise fun x y => pathLt x.1 y.1
  | .num n, p => by simp [Ex.pre]
  | .nd k os, p => by
    simp only [Ex.pre, List.pairwise_cons]
    refine ⟨fun y hy => ?_, pres_asc os p 0⟩
    obtain ⟨i, q, _, z⟩ := pres_form os p 0 y hy
    rw [z]
    have := (nil_lt i q).pre (p := p)
    rwa [List.append_nil] at this
theorem pres_asc : ∀ (os : List Ex) (p : List Nat) (j : Nat), (Ex.pres os p j).Pairwise fun x y => pathLt x.1 y.1
  | [], p, j => by simp [Ex.pres]
  | e :: r, p, j => by
    simp only [Ex.pres, List.pairwise_append]
    refine ⟨pre_asc e (p ++ [j]), pres_asc r p (j + 1), fun x hx y hy => ?_⟩
    obtain ⟨q, z⟩ := pre_form e (p ++ [j]) x hx
    obtain ⟨i, q', hi, z'⟩ := pres_form r p (j + 1) y hy
    rw [z, z', List.append_assoc]
    exact (cons_lt (by omega) q q').pre
end
/-! ### sorted(paths) -/
def rSortedP (K : PySem.W.Frag) : List V → Hp → VK → Prop := fun vs H Q => ∃ (a : Addr) (rows : List V) (ps : List (List Nat)), vs = [.ref a] ∧ SqL K H a rows ∧ Paired (PathAt H) rows ps ∧ ps.length ≤ 1000 ∧ ps.Pairwise pathLt ∧
  ∀ q, H q = none → Q (.ref q) (upd H q (.lst rows))
theorem each_of {α β γ : Type} {R : α → β → Prop} {S : α → γ → Prop} {T : γ → β → Prop} (h : ∀ u v b, S u v → T v b → R u b) : ∀ {us : List α} {vs : List γ} {bs : List β}, Paired (fun v u => S u v) vs us → Paired T vs bs → PySem.W.EachIs R us bs
  | _, _, _, .nil, .nil => .nil
  | _, _, _, .cons s t, .cons s' t' => .cons (h _ _ _ s s') (each_of h t t')
theorem vals_of_each {R : Value → V × List Nat → Prop} (h : ∀ u b, R u b → RelV b.1 u) : ∀ {us : List Value} {bs : List (V × List Nat)}, PySem.W.EachIs R us bs → Vals (bs.map (·.1)) us
  | _, _, .nil => .nil
  | _, _, .cons s t => .cons (h _ _ s) (vals_of_each h t)
theorem each_zip {R : Value → V × List Nat → Prop} {F : V → List Nat → Prop} (h : ∀ u v p, RelV v u → F v p → R u (v, p)) : ∀ {rows : List V} {us : List Value} {ps : List (List Nat)}, Vals rows us → Paired F rows ps → PySem.W.EachIs R us (rows.zip ps)
  | _, _, _, .nil, .nil => .nil
  | _, _, _, .cons s t, .cons s' t' => .cons (h _ _ _ s s') (each_zip h t t')
theorem zip_fst : ∀ {rows : List V} {ps : List (List Nat)}, rows.length = ps.length → (rows.zip ps).map (·.1) = rows
  | [], [], _ => rfl
  | _ :: r, _ :: t, h => by
    simp only [List.zip_cons_cons, List.map_cons]
    rw [zip_fst (by simpa using h)]
theorem zip_snd : ∀ {rows : List V} {ps : List (List Nat)}, rows.length = ps.length → (rows.zip ps).map (·.2) = ps
  | [], [], _ => rfl
  | _ :: r, _ :: t, h => by
    simp only [List.zip_cons_cons, List.map_cons]
    rw [zip_snd (by simpa using h)]
theorem each_unmap {hS : Heap} : ∀ {us : List Value} {ds : List (List PyData)}, PySem.W.EachIs (fun v d => ∃ as, Reads hS v d as) us (ds.map PyData.tuple) → PySem.W.EachIs (fun v d => ∃ as, Reads hS v (.tuple d) as) us ds
  | [], [], _ => .nil
  | u :: us, d :: ds, h => by
    rw [List.map_cons] at h
    cases h with
    | cons a t => exact .cons a (each_unmap t)
  | [], d :: ds, h => by cases h
  | u :: us, [], h => by cases h
theorem cr_sortedP {X : Cx} (hu : X.A.units + 64 < cLine) : CallR X (.builtin "sorted") (rSortedP X.K) := by
  intro pins s σ H vs us Q I r h
  obtain ⟨a, rows, ps, rfl, hs, pr, hlen, asc, q⟩ := h
  obtain ⟨its, rv, hl, _⟩ := I.list hs
  rw [Vals.ref1 r]
  have hrl : rows.length = ps.length := pr.length
  have hil : its.length = ps.length := by rw [← rv.length]; exact hrl
  let bs := rows.zip ps
  have ebs2 : bs.map (·.2) = ps := zip_snd hrl
  have ebs1 : bs.map (·.1) = rows := zip_fst hrl
  have bl : bs.length = ps.length := by rw [← ebs2, List.length_map]
  let enc : V × List Nat → PyData := fun b => dP b.2
  have emap : bs.map enc = ps.map dP := by rw [← ebs2, List.map_map]; rfl
  have e : PySem.W.EachIs (fun u (b : V × List Nat) => RelV b.1 u) its bs := each_zip (fun u v p x _ => x) rv pr
  have er : PySem.W.EachIs (fun u (b : V × List Nat) => ∃ as, Reads s.heap u (enc b) as) its bs := each_zip (F := PathAt H) (fun u v p x y => Dp.reads I (dP p) v u y.dp x) rv pr
  have hal : PySem.W.AllAlike (bs.map enc) := by rw [emap]; exact alike_paths ps
  have hd1 : ∀ b ∈ bs, X.A.units + 2 + (enc b).depth < cLine := fun b _ => by
    show X.A.units + 2 + (dP b.2).depth < cLine
    rw [depth_path]
    omega
  have hL : its.length ≤ sizeLine := sz (by omega)
  have er' : PySem.W.EachIs (fun v b => ∃ as, Reads (PySem.W.sortingHeap (PySem.W.copyHeap s.heap its) (s.heap.objs.size + 1) its) v (enc b) as) its bs := er.mono fun _ _ ⟨as, r⟩ => ⟨as, PyProof.Rows.Reads.keeps (fun _ _ => PySem.W.sorting_copy_old) r⟩
  let hS := PySem.W.sortingHeap (PySem.W.copyHeap s.heap its) (s.heap.objs.size + 1) its
  have hd2 : ∀ d, d ∈ bs.map enc → X.A.in1.in1.units + d.depth < cLine := fun d hd => by
    obtain ⟨b, hb, rfl⟩ := List.mem_map.mp hd
    have := hd1 b hb
    show X.A.units + 1 + 1 + (enc b).depth < cLine
    omega
  have S : PySem.W.SortsAt X.prog X.w X.A.in1.in1 { s with heap := hS } (PySem.W.dataKind hS (bs.map enc)) its := by
    by_cases hz : ∀ p ∈ ps, p ≠ []
    · refine PySem.W.SortsAt.data (s := { s with heap := hS }) (PySem.W.each_map (R := fun v d => ∃ as, Reads hS v d as) enc er') hal (.inl fun d hd => ?_) hd2
      rw [emap] at hd
      obtain ⟨p, hp, rfl⟩ := List.mem_map.mp hd
      cases p with
      | nil => exact absurd rfl (hz _ hp)
      | cons i p => exact ⟨_, _, rfl⟩
    · obtain ⟨t, et⟩ : ∃ t, ps = [] :: t := by
        cases ps with
        | nil => exact absurd (fun p hp => by cases hp) hz
        | cons p t =>
          rw [List.pairwise_cons] at asc
          cases p with
          | nil => exact ⟨t, rfl⟩
          | cons i p =>
            refine absurd (fun p' hp' => ?_) hz
            rcases List.mem_cons.mp hp' with h | h
            · rw [h]; simp
            · intro z
              rw [z] at h
              exact lt_nil _ (asc.1 _ h)
      have em2 : bs.map enc = (([] : List PyData) :: t.map dI).map PyData.tuple := by
        rw [emap, et]
        simp [dP, dI]
      have er2 := PySem.W.each_map (R := fun v d => ∃ as, Reads hS v d as) enc er'
      rw [em2] at er2 hal hd2 ⊢
      exact sorts_first (s := { s with heap := hS }) (each_unmap er2) er2 hal hd2
  have eo := PySem.W.sortVals_data (h' := hS) false e er' hal
  have srt : bs.mergeSort (PySem.W.dataLe false enc) = bs := by
    refine List.mergeSort_of_pairwise ?_
    have asc2 : bs.Pairwise fun x y => pathLt x.2 y.2 := by
      have := asc
      rw [← ebs2, List.pairwise_map] at this
      exact this
    refine asc2.imp fun {x y} hxy => ?_
    rw [PySem.W.dataLe_eq]
    show (!PySem.W.dataLt (dP y.2) (dP x.2)) = true
    cases z : PySem.W.dataLt (dP y.2) (dP x.2) with
    | false => rfl
    | true =>
      have h1 : (listOrd itemOrd).blt (PySem.W.keyToks (dP x.2)) (PySem.W.keyToks (dP y.2)) = true := hxy
      have h2 : (listOrd itemOrd).blt (PySem.W.keyToks (dP y.2)) (PySem.W.keyToks (dP x.2)) = true := z
      have h3 := (listOrd itemOrd).trans _ _ _ h1 h2
      rw [(listOrd itemOrd).irrefl] at h3
      cases h3
  rw [srt] at eo
  have hv := vals_of_each (fun u b x => x) eo
  rw [ebs1] at hv
  refine PySem.W.sorted_vals hl.isList S hL ?_
  obtain ⟨ep, he'⟩ := PyProof.Rows.sortedAll_at s.heap its (PySem.W.sortVals (PySem.W.dataKind hS (bs.map enc)) false its its).toArray
  exact ⟨.ref _, upd H (s.heap.objs.size + 1) (.lst rows), I.laid (t' := s.toks) (fun _ _ => PyProof.Rows.sortedAll_old) (Nat.le_succ _) ⟨sz (by omega), _, ep, by simpa using hv, he'⟩, rfl, q _ (I.hok.fresh (Nat.le_succ _))⟩
end Oo
namespace Oo
open PySem L2 PyProof.Rows
abbrev sOpen : Stmt := top 73
abbrev sPoints : Stmt := top 74
def Ex.isNum : Ex → Bool
  | .num _ => true
  | .nd _ _ => false
def isOpenE : Ex → Bool
  | .nd (.op _) _ => true
  | .nd (.call _) os => decide (1 < os.length)
  | _ => false
def Ex.opens (e : Ex) (p : List Nat) : List (List Nat) := ((e.pre p).filter fun x => isOpenE x.2).map (·.1)
theorem isi_ex {K : PySem.W.Frag} {H : Hp} {e : Ex} {v : V} {Q : VK} (ie : InE H e v) (q : Q (.bl e.isNum) H) : rIsi K [v, .ty "int"] H Q := by
  cases e with
  | num n =>
    unfold InE at ie
    subst ie
    exact ⟨_, _, _, _, true, rfl, .ty "int", .base (.int n), kit_ty (by decide +kernel), q⟩
  | nd k os =>
    unfold InE at ie
    obtain ⟨p, ws, rfl, ios, na⟩ := ie
    obtain ⟨tl, ht⟩ := na.tup
    exact ⟨_, _, _, _, false, rfl, .ty "int", .base (.tup ht), kit_ty (by decide +kernel), q⟩
def Kd.isOp : Kd → Bool
  | .op _ => true | _ => false
theorem word_op (k : Kd) : decide (V.str k.word = .str "op") = k.isOp := by
  cases k <;> first | exact decide_eq_true rfl | exact decide_eq_false (by simp only [Kd.word]; decide +kernel)
theorem paired_get {α β : Type} {F : α → β → Prop} : ∀ {xs : List α} {ys : List β} {i : Nat} {x : α}, Paired F xs ys → xs[i]? = some x → ∃ y, ys[i]? = some y ∧ F x y
  | _, _, i, x, .nil, h => by simp at h
  | _, _, 0, x, .cons f t, h => by
    have : _ = x := Option.some.inj h
    exact ⟨_, rfl, this ▸ f⟩
  | _, _, i + 1, x, .cons f t, h => by
    obtain ⟨y, h1, h2⟩ := paired_get (i := i) t (by simpa using h)
    exact ⟨y, by simpa using h1, h2⟩
def ttNotNum (i : Nat) : TT := fun σ H Q => ∃ v r, σ[i]? = some (some v) ∧ RowN H v r ∧ Q (!r.2.isNum) H
def ttOpenE (i : Nat) : TT := fun σ H Q => ∃ v e, σ[i]? = some (some v) ∧ InE H e v ∧ e.isNum = false ∧ Q (isOpenE e) H
def spOpen : Sp := fun vs H Q _ => ∃ (v : V) (e : Ex), vs = [v] ∧ InE H e v ∧ Shp e ∧ e.depth ≤ 80 ∧ e.nodes ≤ 900 ∧
  ∀ (l : Addr) (rows : List V) (H' : Hp), H l = none → H' l = some (.lst rows) → Paired (PathAt H') rows (e.opens []) → Same H H' → Q (.ref l) H'
section
variable {P : Program} {w : World} {K : PySem.W.Frag} {mg : Str → Option Value} {base : Heap} {X : Cx}
theorem scOpen : FnScope ["_law_expr_here", "_law_some_here", "_law_pair", "_law_path", "_law_node"] ["_law_expr_here"] (defScope sOpen) := ⟨rfl, rfl, rfl, by decide +kernel, rfl, by decide +kernel, by decide +kernel⟩
theorem ok_open {f fn : Addr} {fd fdn : FuncData} {L : Nat} (F : Fun K "_law_open" "_law_open" sOpen f fd) (hL : 1 ≤ L) (mi : mg "int" = none) (mis : mg "isinstance" = none) (ml : mg "len" = none) (ms : mg "sorted" = none)
    (GN : FnOk P w K mg base CX0 L fn fdn ["_law_node", "_law_path"] (spNodes 80)) (kN : PySem.W.keepIn K (.ref fn) = true) (bN : Binds K fdn ["_law_node", "_law_path"] []) (mN : mg "_law_nodes" = some (.ref fn)) :
    FnOk P w K mg base CX0 (L + 1) f fd ["_law_expr_here"] spOpen := by
  refine F.ok scOpen (fun vs H Q E h => ?_) (fun cdv A outer s H vs Q E hr h => ?_)
  · obtain ⟨v, e, rfl, _⟩ := h
    rfl
  obtain ⟨v, e, rfl, ie, sh, hd, hn, q⟩ := h
  refine ⟨_, (pss_cons (ps_setLc (i := 1) (own := [("_law_pair", 2)]) (g := gName 2) (by rfl) scOpen.nd rfl rfl (sw_true rfl rfl rfl (by decide +kernel)) (pi_list (pe_call GN hr rfl mN kN bN .nil pass0 (pa_cons (pv 0) (pa_cons (pe_tup pa_nil) pa_nil)))) (blkOk_by (own := [("_law_pair", 2)]) (N := ["_law_expr_here", "_law_some_here", "_law_pair", "_law_path", "_law_node"]) (sc := defScope sOpen) (by decide +kernel)) (fun _ _ _ _ _ => (pg_name (i := 2) scOpen.nd rfl (Or.inl rfl))) (fun _ _ _ _ _ => (pts_one (pt_as (t' := ttNotNum 2) (pt_not (pt_val (pe_callB call_isi (by rfl) mis boot_isinstance (pa_cons (pe_ix ix_tup (pv 2) pe_int (fun _ _ => rfl)) (pa_cons (pe_bltn (v := .ty "int") (by rfl) mi (by decide +kernel) rfl) pa_nil))))) ?c1))) (fun _ _ _ _ _ => (pv 2)))
    (pss_one (ps_ret (pe_callB (cr_sortedP hr.units) (by rfl) ms (by decide +kernel) (pa_cons (pe_lc (own := [("_law_path", 3), ("_law_node", 4)]) (g := gTup K 2 (gCons (gName 3) (gCons (gName 4) gNil))) (by rfl) scOpen.nd (pi_list (pv 1)) (blkOk_by (own := [("_law_path", 3), ("_law_node", 4)]) (N := ["_law_expr_here", "_law_some_here", "_law_pair", "_law_path", "_law_node"]) (sc := defScope sOpen) (by decide +kernel)) (fun _ _ _ _ _ => (pg_tup rfl (pgs_cons (pg_name (i := 3) scOpen.nd rfl (Or.inl rfl)) (pgs_cons (pg_name (i := 4) scOpen.nd rfl (Or.inl rfl)) pgs_nil)))) (fun _ _ _ _ _ => (pts_one (pt_as (t' := ttOpenE 4) (PW.pt (pw_or (pt_cmpR op_eq (pe_ix ix_tup (pv 4) pe_int (fun _ _ => rfl)) pe_str (nomark _)) (pw_or1 (PW.pt (pw_and (pt_cmpR op_eq (pe_ix ix_tup (pv 4) pe_int (fun _ _ => rfl)) pe_str (nomark _)) (pw_and1 (pt_cmpR op_gt (pe_callB call_len_seq (by rfl) ml PySem.boot_len (pa_cons (pe_ix ix_tup (pv 4) pe_int (fun _ _ => rfl)) pa_nil)) pe_int (nomark _)))))))) ?c2))) (fun _ _ _ _ _ => (pv 3))) pa_nil))))), ?_⟩
  case c1 =>
    rintro σ H Q ⟨v, r, e2, rn, q⟩
    obtain ⟨qd, vp, ve', rfl, eq, hp', ie'⟩ := rn
    exact ⟨_, e2, qd, _, _, _, rfl, rfl, SqT.of eq, (rfl : atI [vp, ve'] 1 = some ve'), isi_ex (Q := fun x H1 => ∃ c, x = V.bl c ∧ Q (!c) H1) ie' ⟨_, rfl, q⟩⟩
  case c2 =>
    rintro σ H Q ⟨v, e, e4, ie, hnum, q⟩
    cases e with
    | num n => cases hnum
    | nd k os =>
      unfold InE at ie
      obtain ⟨p, ws, rfl, ios, na⟩ := ie
      obtain ⟨tl, ht⟩ := na.tup
      refine ⟨_, e4, p, _, _, _, rfl, rfl, SqT.of ht, at0 _ _, rfl, _, rfl, ?_⟩
      rw [word_op]
      cases ho : k.isOp with
      | true =>
        cases k with
        | op s => exact iteT q
        | _ => cases ho
      | false =>
        refine iteF ⟨_, e4, p, _, _, _, rfl, rfl, SqT.of ht, at0 _ _, rfl, _, rfl, ?_⟩
        rw [word_call]
        cases hc : k.isCall with
        | true =>
          cases k with
          | call f =>
            obtain ⟨qa, h1, h2⟩ := na
            refine iteT ⟨_, e4, p, _, _, _, rfl, rfl, SqT.of h1, (rfl : atI [V.str "call", .str f, .ref qa] 2 = some (.ref qa)), qa, _, rfl, .inr (SqT.of h2), _, _, rfl, rfl, _, rfl, ?_⟩
            have : (decide ((1 : Int) < (ws.length : Int))) = isOpenE (.nd (.call f) os) := by
              rw [ios.length]
              show _ = decide (1 < os.length)
              by_cases z : 1 < os.length
              · rw [decide_eq_true z, decide_eq_true (by omega)]
              · rw [decide_eq_false z, decide_eq_false (by omega)]
            rw [this]
            exact q
          | _ => cases hc
        | false =>
          refine iteF ?_
          have : isOpenE (.nd k os) = false := by
            cases k with
            | op s => cases ho
            | call f => cases hc
            | _ => rfl
          rw [this] at q
          exact q
  refine ⟨_, rfl, sz (by decide), fun t0 n0 => ?_⟩
  have s0 : Same H (upd H t0 (.tup [])) := same_up n0
  refine ⟨v, .ref t0, e, [], rfl, ie.keep (same_t s0), sh, ⟨t0, rfl, upd_same⟩, hd, by simp; omega, hn, fun l rows H1 nl el pr s1 => ?_⟩
  have hlen : rows.length = e.nodes := by rw [pr.length, pre_len]
  refine ⟨l, rfl, ⟨_, SqL.of el⟩, fun D nD => ?_⟩
  have s01 := s0.trans s1
  have hD := s01.free nD
  refine lc_list (K := K) (a := l) (xs := rows) (fun i H' => ∃ acc, H' D = some (.lst acc) ∧ Paired (RowN H') acc (((e.pre []).take i).filter fun x => !x.2.isNum) ∧ H' l = some (.lst rows) ∧ Paired (RowN H') rows (e.pre []) ∧ Same H H')
    ⟨[], upd_same, .nil, same_up nD _ _ el, L2.Paired.mapP pr fun a b r => r.keep (same_t (same_up nD)), s01.trans (same_up nD)⟩ (fun i H' _ ⟨_, _, _, z, _⟩ => SqL.of z) ?_ ?_
  · rintro i x H' hi ⟨acc, eD, pa, el', pr', s'⟩
    obtain ⟨y, hy, rn⟩ := paired_get pr' hi
    have hil : i < (e.pre []).length := (List.getElem?_eq_some_iff.mp hy).1
    have ey : (e.pre [])[i] = y := (List.getElem?_eq_some_iff.mp hy).2
    have et : (e.pre []).take (i + 1) = (e.pre []).take i ++ [y] := by rw [take_succ_get _ i hil, ey]
    have ef : (((e.pre []).take (i + 1)).filter fun x => !x.2.isNum) = (((e.pre []).take i).filter fun x => !x.2.isNum) ++ ([y].filter fun x => !x.2.isNum) := by rw [et, List.filter_append]
    have hal : acc.length ≤ 900 := by
      rw [pa.length]
      refine Nat.le_trans (List.length_filter_le _ _) ?_
      rw [List.length_take, pre_len]
      omega
    refine ⟨rfl, x, y, rfl, rn, ?_⟩
    cases hb : y.2.isNum with
    | true =>
      refine iteF ⟨acc, eD, ?_, el', pr', s'⟩
      rw [ef, List.filter_cons_of_neg (by simp [hb]), List.filter_nil, List.append_nil]
      exact pa
    | false =>
      have ku : ∀ q xs, H' q = some (.tup xs) → (upd H' D (.lst (acc ++ [x]))) q = some (.tup xs) := fun q xs z => by
        rw [upd_ne (fun w => by rw [w, eD] at z; cases z)]; exact z
      refine iteT ⟨_, rfl, acc, eD, small1000 (by omega), acc ++ [x], upd_same, ?_, ?_, L2.Paired.mapP pr' fun a b r => r.keep ku, fun b o z => by rw [upd_ne (ne_of_none z hD)]; exact s' b o z⟩
      · rw [ef, List.filter_cons_of_pos (by simp [hb]), List.filter_nil]
        exact paired_append (L2.Paired.mapP pa fun a b r => r.keep ku) (.cons (rn.keep ku) .nil)
      · rw [upd_ne (fun w => by rw [w] at el; rw [el] at nD; cases nD)]
        exact el'
  · rintro H' ⟨acc, eD, pa, el', pr', s'⟩
    rw [hlen, ← pre_len e [], List.take_length] at pa
    refine ⟨_, rfl, D, rfl, ⟨_, SqL.of eD⟩, fun D2 nD2 => ?_⟩
    have hD2 := s'.free nD2
    refine lc_list (K := K) (a := D) (xs := acc) (fun i H2 => ∃ acc2, H2 D2 = some (.lst acc2) ∧ Paired (PathAt H2) acc2 (((((e.pre []).filter fun x => !x.2.isNum).take i).filter fun x => isOpenE x.2).map (·.1)) ∧ H2 D = some (.lst acc) ∧ Paired (RowN H2) acc ((e.pre []).filter fun x => !x.2.isNum) ∧ Same H H2)
      ⟨[], upd_same, .nil, same_up nD2 _ _ eD, L2.Paired.mapP pa fun a b r => r.keep (same_t (same_up nD2)), s'.trans (same_up nD2)⟩ (fun i H' _ ⟨_, _, _, z, _⟩ => SqL.of z) ?_ ?_
    · rintro i x H2 hi ⟨acc2, eD2, pa2, eD', pr2, s2⟩
      obtain ⟨y, hy, rn⟩ := paired_get pr2 hi
      have hil := (List.getElem?_eq_some_iff.mp hy).1
      have ey := (List.getElem?_eq_some_iff.mp hy).2
      have hnum : y.2.isNum = false := by
        have := List.mem_of_getElem? hy
        have := (List.mem_filter.mp this).2
        simpa using this
      have et := take_succ_get ((e.pre []).filter fun x => !x.2.isNum) i hil
      rw [ey] at et
      obtain ⟨qd, vp, ve', rfl, eq, hp', ie'⟩ := rn
      have hal2 : acc2.length ≤ 900 := by
        rw [pa2.length, List.length_map]
        refine Nat.le_trans (List.length_filter_le _ _) (Nat.le_trans (List.length_take_le _ _) (Nat.le_of_lt (Nat.lt_of_lt_of_le hil (Nat.le_trans (List.length_filter_le _ _) ?_))))
        rw [pre_len]
        omega
      refine ⟨qd, _, rfl, SqT.of eq, rfl, _, _, rfl, _, _, rfl, rfl, rfl, ve', y.2, rfl, ie', hnum, ?_⟩
      rw [et, List.filter_append, List.map_append]
      cases hb : isOpenE y.2 with
      | false =>
        refine iteF ⟨acc2, eD2, ?_, eD', pr2, s2⟩
        rw [List.filter_cons_of_neg (by simp [hb]), List.filter_nil, List.map_nil, List.append_nil]
        exact pa2
      | true =>
        have ku : ∀ q xs, H2 q = some (.tup xs) → (upd H2 D2 (.lst (acc2 ++ [vp]))) q = some (.tup xs) := fun q xs z => by
          rw [upd_ne (fun w => by rw [w, eD2] at z; cases z)]; exact z
        refine iteT ⟨_, rfl, acc2, eD2, small1000 (by omega), acc2 ++ [vp], upd_same, ?_, ?_, L2.Paired.mapP pr2 fun a b r => r.keep ku, fun b o z => by rw [upd_ne (ne_of_none z hD2)]; exact s2 b o z⟩
        · rw [List.filter_cons_of_pos (by simp [hb]), List.filter_nil, List.map_cons, List.map_nil]
          exact paired_append (L2.Paired.mapP pa2 fun a b r => r.keep ku) (.cons (hp'.keep ku) .nil)
        · rw [upd_ne (fun w => by rw [w] at eD; rw [eD] at nD2; cases nD2)]
          exact eD'
    · rintro H2 ⟨acc2, eD2, pa2, eD', pr2, s2⟩
      rw [pa.length, List.take_length, List.filter_filter] at pa2
      have ef : ((e.pre []).filter fun x => isOpenE x.2 && !x.2.isNum) = (e.pre []).filter fun x => isOpenE x.2 := by
        congr 1
        funext x
        cases x.2 with
        | num n => rfl
        | nd k os => simp [Ex.isNum]
      rw [ef] at pa2
      refine ⟨D2, acc2, _, rfl, SqL.of eD2, pa2, ?_, ?_, fun r nr => q r acc2 _ (s2.free nr) upd_same (L2.Paired.mapP pa2 fun a b z => z.keep (same_t (same_up nr))) (s2.trans (same_up nr))⟩
      · rw [List.length_map]
        refine Nat.le_trans (List.length_filter_le _ _) ?_
        rw [pre_len]
        omega
      · rw [List.pairwise_map]
        exact (pre_asc e []).filter _
end
end Oo
namespace Oo
open PySem L2 PyProof.Rows
def spPoints : Sp := fun vs H Q _ => ∃ (a : Addr) (v : V) (e : Ex) (n : Nat), vs = [.ref a, v] ∧ BagAt H a n ∧ n < 500000 ∧ InE H e v ∧ Shp e ∧ e.depth ≤ 80 ∧ e.nodes ≤ 900 ∧
  ∀ (t : Addr) (rows : List V) (ps : List (List Nat)) (H' : Hp), ps.Sublist (e.opens []) → H' t = some (.tup rows) → Paired (PathAt H') rows ps → BagAt H' a (n + 902) → Kq [a] H H' → Q (.ref t) H'
theorem opens_len (e : Ex) : (e.opens []).length ≤ e.nodes := by
  unfold Ex.opens
  rw [List.length_map, ← pre_len e []]
  exact List.length_filter_le _ _
section
variable {P : Program} {w : World} {K : PySem.W.Frag} {mg : Str → Option Value} {base : Heap} {X : Cx}
theorem scPoints : FnScope ["_law_bag_here", "_law_expr_here", "_law_lot", "_law_path"] ["_law_bag_here", "_law_expr_here"] (defScope sPoints) := ⟨rfl, rfl, rfl, by decide +kernel, rfl, by decide +kernel, by decide +kernel⟩
theorem ok_points {f ft fo : Addr} {fd fdt fdo : FuncData} {L : Nat} (F : Fun K "_law_points" "_law_points" sPoints f fd) (hL : 1 ≤ L) (mt : mg "tuple" = none)
    (GT : FnOk P w K mg base CX0 1 ft fdt ["_law_bag_here", "_law_many"] spTake) (kT : PySem.W.keepIn K (.ref ft) = true) (bT : Binds K fdt ["_law_bag_here", "_law_many"] []) (mT : mg "_law_take" = some (.ref ft))
    (GO : FnOk P w K mg base CX0 L fo fdo ["_law_expr_here"] spOpen) (kO : PySem.W.keepIn K (.ref fo) = true) (bO : Binds K fdo ["_law_expr_here"] []) (mO : mg "_law_open" = some (.ref fo)) :
    FnOk P w K mg base CX0 (L + 1) f fd ["_law_bag_here", "_law_expr_here"] spPoints := by
  refine F.ok scPoints (fun vs H Q E h => ?_) (fun cdv A outer s H vs Q E hr h => ?_)
  · obtain ⟨a, v, e, n, rfl, _⟩ := h
    rfl
  obtain ⟨a, v, e, n, rfl, hB, hn, ie, sh, hd, hnn, q⟩ := h
  have hr1 : Room 1 _ := hr.mono hL
  refine ⟨_, (pss_cons (ps_set (i := 2) scPoints.nd rfl (.inr rfl) (pe_call GT hr1 rfl mT kT bT .nil pass0 (pa_cons (pv 0) (pa_cons pe_int pa_nil))))
    (pss_cons (ps_if (pt_cmpR op_eq (pv 2) pe_int (nomark _)) (pss_one (ps_ret (pe_tupleOf (by rfl) mt (pe_call GO hr rfl mO kO bO .nil pass0 (pa_cons (pv 1) pa_nil))))) pss_nil)
    (pss_one (ps_ret (pe_tupleOf (by rfl) mt (pe_lc (own := [("_law_path", 3)]) (g := gName 3) (by rfl) scPoints.nd (pi_list (pe_call GO hr rfl mO kO bO .nil pass0 (pa_cons (pv 1) pa_nil))) (blkOk_by (own := [("_law_path", 3)]) (N := ["_law_bag_here", "_law_expr_here", "_law_lot", "_law_path"]) (sc := defScope sPoints) (by decide +kernel)) (fun _ _ _ _ _ => (pg_name (i := 3) scPoints.nd rfl (Or.inl rfl))) (fun _ _ _ _ _ => (pts_one (PW.pt (pw_and (pt_cmpR op_lt (pv 2) pe_int (nomark _)) (pw_and1 (pt_cmpR op_eq (pe_call GT hr1 rfl mT kT bT .nil pass0 (pa_cons (pv 0) (pa_cons pe_int pa_nil))) pe_int (nomark _))))))) (fun _ _ _ _ _ => (pv 3)))))))), ?_⟩
  have hol := opens_len e
  refine ⟨_, rfl, a, 6, n, rfl, hB, by omega, by decide, by decide, fun r H1 r0 r1 hB1 kp1 => ⟨_, rfl, rfl, _, rfl, ?_⟩⟩
  have ie1 := InE.sit ie kp1.kq hB.mut
  refine ite2 (fun z => ?_) (fun z => ?_)
  · refine ⟨_, rfl, v, e, rfl, ie1, sh, hd, hnn, fun l rows H2 nl el pr s2 => ?_⟩
    refine .inl ⟨l, rows, rfl, SqL.of el, fun t nt => ?_⟩
    exact q t rows _ _ (List.Sublist.refl _) upd_same (L2.Paired.mapP pr fun a b z => z.keep (same_t (same_up nt))) ((same_bag (same_up nt) (same_bag s2 hB1)).mono (by omega)) ((kp1.kq.trans (same_kq s2)).trans (same_kq (same_up nt)))
  · refine ⟨_, rfl, v, e, rfl, ie1, sh, hd, hnn, fun l rows H2 nl el pr s2 => ?_⟩
    have hB2 := same_bag s2 hB1
    have q2 : Kq [a] H H2 := kp1.kq.trans (same_kq s2)
    have nla : l ≠ a := hB1.ne nl
    refine ⟨l, rfl, ⟨_, SqL.of el⟩, fun D nD => ?_⟩
    have nDa : D ≠ a := hB2.ne nD
    have hD : H D = none := q2.free (by simp [nDa]) nD
    have nlD : l ≠ D := fun w => by rw [w] at el; rw [el] at nD; cases nD
    have hrl : rows.length ≤ 900 := by rw [pr.length]; omega
    refine lc_list (K := K) (a := l) (xs := rows) (fun i H' => ∃ acc ps, H' D = some (.lst acc) ∧ ps.Sublist ((e.opens []).take i) ∧ Paired (PathAt H') acc ps ∧ H' l = some (.lst rows) ∧ Paired (PathAt H') rows (e.opens []) ∧ BagAt H' a (n + 1 + i) ∧ Kq [a] H H')
      ⟨[], [], upd_same, List.Sublist.refl _, .nil, same_up nD _ _ el, L2.Paired.mapP pr fun a b z => z.keep (same_t (same_up nD)), hB2.new nD, q2.put hD⟩ (fun i H' _ ⟨_, _, _, _, _, z, _⟩ => SqL.of z) ?_ ?_
    · rintro i x H' hi ⟨acc, ps, eD, sb, pa, el', pr', hB', q'⟩
      obtain ⟨y, hy, py⟩ := paired_get pr' hi
      have hil : i < (e.opens []).length := (List.getElem?_eq_some_iff.mp hy).1
      have ey := (List.getElem?_eq_some_iff.mp hy).2
      have et : (e.opens []).take (i + 1) = (e.opens []).take i ++ [y] := by rw [take_succ_get _ i hil, ey]
      have sb' : ps.Sublist ((e.opens []).take (i + 1)) := by rw [et]; exact sb.trans (List.sublist_append_left _ _)
      refine ⟨rfl, _, rfl, _, _, rfl, rfl, _, rfl, ?_⟩
      refine ite2 (fun z1 => ?_) (fun z1 => iteF ⟨acc, ps, eD, sb', pa, el', pr', hB'.mono (by omega), q'⟩)
      refine ⟨_, rfl, a, 3, _, rfl, hB', by omega, by decide, by decide, fun r2 H3 r20 r21 hB3 kp3 => ⟨rfl, _, rfl, ?_⟩⟩
      have kt : ∀ q xs, H' q = some (.tup xs) → H3 q = some (.tup xs) := fun q xs z => kp3.kq.tup hB'.mut.notup z
      have eD3 : H3 D = some (.lst acc) := kp3 _ _ nDa eD
      have el3 : H3 l = some (.lst rows) := kp3 _ _ nla el'
      have pr3 := L2.Paired.mapP pr' fun a b (z : PathAt H' a b) => z.keep kt
      have pa3 := L2.Paired.mapP pa fun a b (z : PathAt H' a b) => z.keep kt
      refine ite2 (fun z2 => ?_) (fun z2 => ⟨acc, ps, eD3, sb', pa3, el3, pr3, hB3.mono (by omega), q'.trans kp3.kq⟩)
      have ku : ∀ q xs, H3 q = some (.tup xs) → (upd H3 D (.lst (acc ++ [x]))) q = some (.tup xs) := fun q xs z => by
        rw [upd_ne (fun w => by rw [w, eD3] at z; cases z)]; exact z
      have hacc : acc.length ≤ 900 := by
        rw [pa.length]
        refine Nat.le_trans sb.length_le ?_
        rw [List.length_take]
        omega
      refine ⟨_, rfl, acc, eD3, small1000 (by omega), acc ++ [x], ps ++ [y], upd_same, ?_, ?_, ?_, L2.Paired.mapP pr3 fun a b z => z.keep ku, (hB3.mono (by omega)).put nDa, (q'.trans kp3.kq).put hD⟩
      · rw [et]
        exact sb.append (List.Sublist.refl _)
      · exact paired_append (L2.Paired.mapP pa3 fun a b z => z.keep ku) (.cons ((py.keep kt).keep ku) .nil)
      · rw [upd_ne nlD]; exact el3
    · rintro H' ⟨acc, ps, eD, sb, pa, el', pr', hB', q'⟩
      refine .inl ⟨D, acc, rfl, SqL.of eD, fun t nt => ?_⟩
      exact q t acc ps _ (sb.trans (List.take_sublist _ _)) upd_same (L2.Paired.mapP pa fun a b z => z.keep (same_t (same_up nt))) ((same_bag (same_up nt) hB').mono (by omega)) (q'.trans (same_kq (same_up nt)))
end
end Oo
namespace Oo
open PySem L2 PyProof.Rows
abbrev sSteps : Stmt := top 9999
/-! ### steps -/
structure StepR where
  kind : Str
  path : List Nat
  rd : List Str
  st : List Str
def StrsAt (H : Hp) (v : V) (xs : List Str) : Prop := ∃ q : Addr, v = .ref q ∧ H q = some (.tup (xs.map V.str))
theorem StrsAt.keep {H H' : Hp} {v : V} {xs : List Str} (h : ∀ q ys, H q = some (.tup ys) → H' q = some (.tup ys)) (x : StrsAt H v xs) : StrsAt H' v xs := by
  obtain ⟨q, e, z⟩ := x
  exact ⟨q, e, h _ _ z⟩
def StepAt (H : Hp) (v : V) (r : StepR) : Prop := ∃ (q : Addr) (vp vr vs : V), v = .ref q ∧ H q = some (.tup [.str r.kind, vp, vr, vs]) ∧ PathAt H vp r.path ∧ StrsAt H vr r.rd ∧ StrsAt H vs r.st
theorem StepAt.keep {H H' : Hp} {v : V} {r : StepR} (h : ∀ q ys, H q = some (.tup ys) → H' q = some (.tup ys)) (x : StepAt H v r) : StepAt H' v r := by
  obtain ⟨q, a, b, c, e, z, h1, h2, h3⟩ := x
  exact ⟨q, a, b, c, e, h _ _ z, h1.keep h, h2.keep h, h3.keep h⟩
def ownSteps (fns : List Fn) (p : List Nat) : Kd → List StepR
  | .read x => [⟨"read", p, [x], []⟩]
  | .store x => [⟨"store", p, [], [x]⟩]
  | .step x _ _ => [⟨"read", p, [x], []⟩, ⟨"store", p, [], [x]⟩]
  | .call f => (fns.filter fun fn => decide (fn.name = f)).map fun fn => ⟨"call", p, fn.rd, fn.st⟩
  | _ => []
mutual
def Ex.stepL (fns : List Fn) : Ex → List Nat → List StepR
  | .num _, _ => []
  | .nd k os, p => Ex.stepLs fns os p 0 ++ ownSteps fns p k
def Ex.stepLs (fns : List Fn) : List Ex → List Nat → Nat → List StepR
  | [], _, _ => []
  | e :: r, p, i => Ex.stepL fns e (p ++ [i]) ++ Ex.stepLs fns r p (i + 1)
end
theorem stepLs_append (fns : List Fn) : ∀ (a b : List Ex) (p : List Nat) (j : Nat), Ex.stepLs fns (a ++ b) p j = Ex.stepLs fns a p j ++ Ex.stepLs fns b p (j + a.length)
  | [], b, p, j => by simp [Ex.stepLs]
  | e :: r, b, p, j => by
    show Ex.stepLs fns (e :: (r ++ b)) p j = _
    simp only [Ex.stepLs, stepLs_append fns r b p (j + 1), List.append_assoc, List.length_cons]
    congr 3
    omega
theorem stepLs_snoc (fns : List Fn) (os : List Ex) (p : List Nat) (i : Nat) (h : i < os.length) : Ex.stepLs fns (os.take (i + 1)) p 0 = Ex.stepLs fns (os.take i) p 0 ++ Ex.stepL fns os[i] (p ++ [i]) := by
  have hl : (os.take i).length = i := by rw [List.length_take]; omega
  rw [take_succ_get os i h, stepLs_append]
  simp [Ex.stepLs, hl]
theorem own_len (fns : List Fn) (p : List Nat) (k : Kd) (h : fns.length ≤ 3) : (ownSteps fns p k).length ≤ 3 := by
  cases k <;> simp [ownSteps]
  exact Nat.le_trans (List.length_filter_le _ _) h
mutual
theorem stepL_len (fns : List Fn) (h : fns.length ≤ 3) : ∀ (e : Ex) (p : List Nat), (Ex.stepL fns e p).length ≤ 3 * e.nodes
  | .num _, p => by simp [Ex.stepL]
  | .nd k os, p => by
    have h1 := stepLs_len fns h os p 0
    have h2 := own_len fns p k h
    simp only [Ex.stepL, List.length_append, Ex.nodes]
    omega
theorem stepLs_len (fns : List Fn) (h : fns.length ≤ 3) : ∀ (es : List Ex) (p : List Nat) (j : Nat), (Ex.stepLs fns es p j).length ≤ 3 * Ex.nodess es
  | [], p, j => by simp [Ex.stepLs]
  | e :: r, p, j => by
    have h1 := stepL_len fns h e (p ++ [j])
    have h2 := stepLs_len fns h r p (j + 1)
    simp only [Ex.stepLs, List.length_append, Ex.nodess]
    omega
end
def FnsAt (K : PySem.W.Frag) (H : Hp) (l : Addr) (fns : List Fn) : Prop := ∃ rows, SqL K H l rows ∧ Paired (RowAt H) rows fns
def ttRow (i j : Nat) : TT := fun σ H Q => ∃ (v : V) (fn : Fn) (p : Addr) (a : V) (f : Str) (tl : List V), σ[i]? = some (some v) ∧ RowAt H v fn ∧ σ[j]? = some (some (.ref p)) ∧ H p = some (.tup (a :: .str f :: tl)) ∧ Q (decide (fn.name = f)) H
def teCall (i j : Nat) : TE := fun σ H Q => ∃ (v vp : V) (fn : Fn) (path : List Nat), σ[i]? = some (some v) ∧ σ[j]? = some (some vp) ∧ RowAt H v fn ∧ PathAt H vp path ∧ ∀ (u : V) (H' : Hp), Same H H' → StepAt H' u ⟨"call", path, fn.rd, fn.st⟩ → Q u H'
def Ex.word : Ex → Str
  | .num _ => "number"
  | .nd k _ => k.word
def teWord (i : Nat) : TE := fun σ H Q => ∃ (v : V) (e : Ex), σ[i]? = some (some v) ∧ InE H e v ∧ Q (.str e.word) H
theorem dec_str (a b : Str) : decide (V.str a = V.str b) = decide (a = b) := by
  by_cases h : a = b
  · rw [decide_eq_true h, decide_eq_true (by rw [h])]
  · rw [decide_eq_false h, decide_eq_false fun z => h (V.str.inj z)]
theorem at1 (x y : V) (tl : List V) : atI (x :: y :: tl) 1 = some y := at_of (j := 1) rfl rfl
def Ex.isRS : Ex → Bool
  | .num _ => false
  | .nd k _ => k.isRS
def Kd.isSS : Kd → Bool
  | .store _ => true | .step _ _ _ => true | _ => false
def Ex.isSS : Ex → Bool
  | .num _ => false
  | .nd k _ => k.isSS
theorem ex_rs (e : Ex) : inV (.str e.word) [.str "read", .str "step"] = e.isRS := by
  cases e with
  | num n => simp only [Ex.word, Ex.isRS]; decide +kernel
  | nd k os => exact word_rs k
theorem ex_ss (e : Ex) : inV (.str e.word) [.str "store", .str "step"] = e.isSS := by
  cases e with
  | num n => simp only [Ex.word, Ex.isSS]; decide +kernel
  | nd k os => cases k <;> (simp only [Ex.word, Ex.isSS, Kd.word, Kd.isSS]; decide +kernel)
def own1 (p : List Nat) : Ex → List StepR
  | .nd (.read x) _ => [⟨"read", p, [x], []⟩]
  | .nd (.step x _ _) _ => [⟨"read", p, [x], []⟩]
  | _ => []
def own2 (p : List Nat) : Ex → List StepR
  | .nd (.store x) _ => [⟨"store", p, [], [x]⟩]
  | .nd (.step x _ _) _ => [⟨"store", p, [], [x]⟩]
  | _ => []
def own3 (fns : List Fn) (p : List Nat) : Ex → List StepR
  | .nd (.call f) _ => (fns.filter fun fn => decide (fn.name = f)).map fun fn => ⟨"call", p, fn.rd, fn.st⟩
  | _ => []
theorem stepL_own (fns : List Fn) (e : Ex) (p : List Nat) : Ex.stepL fns e p = Ex.stepLs fns e.ops p 0 ++ own1 p e ++ own2 p e ++ own3 fns p e := by
  cases e with
  | num n => simp [Ex.stepL, Ex.ops, Ex.stepLs, own1, own2, own3]
  | nd k os => cases k <;> simp [Ex.stepL, Ex.ops, ownSteps, own1, own2, own3]
theorem own1_no {p : List Nat} {e : Ex} (h : e.isRS = false) : own1 p e = [] := by
  cases e with
  | num n => rfl
  | nd k os => cases k <;> first | rfl | cases h
theorem own2_no {p : List Nat} {e : Ex} (h : e.isSS = false) : own2 p e = [] := by
  cases e with
  | num n => rfl
  | nd k os => cases k <;> first | rfl | cases h
def Ex.isCall : Ex → Bool
  | .num _ => false
  | .nd k _ => k.isCall
theorem own3_no {fns : List Fn} {p : List Nat} {e : Ex} (h : e.isCall = false) : own3 fns p e = [] := by
  cases e with
  | num n => rfl
  | nd k os => cases k <;> first | rfl | cases h
theorem ex_call (e : Ex) : decide (V.str e.word = .str "call") = e.isCall := by
  cases e with
  | num n => exact decide_eq_false (by simp only [Ex.word]; decide +kernel)
  | nd k os => exact word_call k
theorem rs_node {H : Hp} {e : Ex} {ve : V} {p : List Nat} (ie : InE H e ve) (h : e.isRS = true) : ∃ (pn : Addr) (x : Str) (tl : List V), ve = .ref pn ∧ H pn = some (.tup (.str e.word :: .str x :: tl)) ∧ own1 p e = [⟨"read", p, [x], []⟩] := by
  cases e with
  | num n => cases h
  | nd k os =>
    unfold InE at ie
    obtain ⟨pn, ws, rfl, _, na⟩ := ie
    cases k with
    | read x => exact ⟨pn, x, _, rfl, na, rfl⟩
    | step x b w => exact ⟨pn, x, _, rfl, na, rfl⟩
    | _ => cases h
theorem ss_node {H : Hp} {e : Ex} {ve : V} {p : List Nat} (ie : InE H e ve) (h : e.isSS = true) : ∃ (pn : Addr) (x : Str) (tl : List V), ve = .ref pn ∧ H pn = some (.tup (.str e.word :: .str x :: tl)) ∧ own2 p e = [⟨"store", p, [], [x]⟩] := by
  cases e with
  | num n => cases h
  | nd k os =>
    unfold InE at ie
    obtain ⟨pn, ws, rfl, _, na⟩ := ie
    cases k with
    | store x => exact ⟨pn, x, _, rfl, na, rfl⟩
    | step x b w => exact ⟨pn, x, _, rfl, na, rfl⟩
    | _ => cases h
theorem call_node {H : Hp} {e : Ex} {ve : V} {fns : List Fn} {p : List Nat} (ie : InE H e ve) (h : e.isCall = true) : ∃ (pn : Addr) (f : Str) (tl : List V), ve = .ref pn ∧ H pn = some (.tup (.str e.word :: .str f :: tl)) ∧ own3 fns p e = (fns.filter fun fn => decide (fn.name = f)).map fun fn => ⟨"call", p, fn.rd, fn.st⟩ := by
  cases e with
  | num n => cases h
  | nd k os =>
    unfold InE at ie
    obtain ⟨pn, ws, rfl, _, na⟩ := ie
    cases k with
    | call f =>
      obtain ⟨q, h1, _⟩ := na
      exact ⟨pn, f, _, rfl, h1, rfl⟩
    | _ => cases h
theorem FnsAt.keep {K : PySem.W.Frag} {H H' : Hp} {l : Addr} {fns : List Fn} (h : FnsAt K H l fns) (s : Same H H') : FnsAt K H' l fns := by
  obtain ⟨rows, h1, h2⟩ := h
  exact ⟨rows, s.seq h1, L2.Paired.mapP h2 fun a b r => r.keep (same_t s)⟩
/-- a stage of the list found: what is added is told by f -/
def tsAdd (f : List Nat → Ex → List StepR) : TS := fun D σ H => ∃ (e : Ex) (p : List Nat) (ve vp : V) (a0 x y z : Option V) (l : Addr) (rows : List V) (rs : List StepR), σ = [a0, some ve, some vp, some (.ref l), x, y, some (.str e.word), z] ∧
  InE H e ve ∧ PathAt H vp p ∧ H l = some (.lst rows) ∧ Paired (StepAt H) rows rs ∧ rs.length ≤ 950 ∧
  ∀ (l' : Addr) (rows' : List V) (H' : Hp), (H l' = none ∨ l' = l) → H' l' = some (.lst rows') → Paired (StepAt H') rows' (rs ++ f p e) → Same H H' → D.nx [a0, some ve, some vp, some (.ref l'), x, y, some (.str e.word), z] H'
def tsRS : TS := tsAdd own1
def tsSS : TS := tsAdd own2
def tsCall (K : PySem.W.Frag) : TS := fun D σ H => ∃ (e : Ex) (p : List Nat) (ve vp : V) (fl : Addr) (fns : List Fn) (x y z : Option V) (l : Addr) (rows : List V) (rs : List StepR), σ = [some (.ref fl), some ve, some vp, some (.ref l), x, y, some (.str e.word), z] ∧
  FnsAt K H fl fns ∧ fns.length ≤ 3 ∧ InE H e ve ∧ PathAt H vp p ∧ H l = some (.lst rows) ∧ Paired (StepAt H) rows rs ∧ rs.length ≤ 950 ∧
  ∀ (l' : Addr) (rows' : List V) (H' : Hp) (z' : Option V), (H l' = none ∨ l' = l) → H' l' = some (.lst rows') → Paired (StepAt H') rows' (rs ++ own3 fns p e) → Same H H' → D.nx [some (.ref fl), some ve, some vp, some (.ref l'), x, y, some (.str e.word), z'] H'
def spSteps (K : PySem.W.Frag) (N : Nat) : Sp := fun vs H Q _ => ∃ (fl : Addr) (fns : List Fn) (ve vp : V) (e : Ex) (p : List Nat), vs = [.ref fl, ve, vp] ∧ FnsAt K H fl fns ∧ fns.length ≤ 3 ∧ InE H e ve ∧ Shp e ∧ PathAt H vp p ∧ e.depth ≤ N ∧ p.length + e.depth ≤ 90 ∧ e.nodes ≤ 300 ∧
  ∀ (l : Addr) (rows : List V) (H' : Hp), H l = none → H' l = some (.lst rows) → Paired (StepAt H') rows (Ex.stepL fns e p) → Same H H' → Q (.ref l) H'
end Oo
namespace Oo
open PySem L2 PyProof.Rows
abbrev sWritten : Stmt := top 9999
/-! ### texts of nodes -/
def stSign (b : Int) : Str := if b = 1 then "++" else "--"
def mkS (m : Bool) : Str := match m with | true => ";" | false => ""
def sepS (m : Bool) : Str := match m with | true => "; " | false => ", "
def kdText : Kd → Bool → List Str → Str
  | .read x, _, _ => x
  | .store x, _, t :: _ => "(" ++ x ++ " = " ++ t ++ ")"
  | .step x b w, _, _ => if w = "before" then stSign b ++ x else x ++ stSign b
  | .call f, m, ts => f ++ "(" ++ Txt.join (sepS m) ts ++ ")"
  | .op s, m, t :: u :: _ => "(" ++ t ++ " " ++ s ++ mkS m ++ " " ++ u ++ ")"
  | .cho, _, t :: u :: v :: _ => "(" ++ t ++ " ? " ++ u ++ " : " ++ v ++ ")"
  | .thn, _, t :: u :: _ => "(" ++ t ++ "," ++ " " ++ u ++ ")"
  | .and_, _, t :: u :: _ => "(" ++ t ++ " &&" ++ " " ++ u ++ ")"
  | .or_, _, t :: u :: _ => "(" ++ t ++ " ||" ++ " " ++ u ++ ")"
  | _, _, _ => ""
mutual
def Ex.text (mk : List (List Nat)) : Ex → List Nat → Str
  | .num n, _ => Str.ofString (toString n)
  | .nd k os, p => kdText k (decide (p ∈ mk)) (Ex.texts mk os p 0)
def Ex.texts (mk : List (List Nat)) : List Ex → List Nat → Nat → List Str
  | [], _, _ => []
  | e :: r, p, i => Ex.text mk e (p ++ [i]) :: Ex.texts mk r p (i + 1)
end
theorem texts_len (mk : List (List Nat)) : ∀ (es : List Ex) (p : List Nat) (j : Nat), (Ex.texts mk es p j).length = es.length
  | [], p, j => by simp [Ex.texts]
  | e :: r, p, j => by simp [Ex.texts, texts_len mk r]
theorem texts_get (mk : List (List Nat)) : ∀ (es : List Ex) (p : List Nat) (j i : Nat) (h : i < es.length), (Ex.texts mk es p j)[i]? = some (Ex.text mk es[i] (p ++ [j + i]))
  | e :: r, p, j, 0, h => by simp [Ex.texts]
  | e :: r, p, j, i + 1, h => by
    have := texts_get mk r p (j + 1) i (by simpa using h)
    simp only [Ex.texts, List.getElem?_cons_succ, List.getElem_cons_succ]
    rw [this]
    congr 4
    omega
theorem texts_append (mk : List (List Nat)) : ∀ (a b : List Ex) (p : List Nat) (j : Nat), Ex.texts mk (a ++ b) p j = Ex.texts mk a p j ++ Ex.texts mk b p (j + a.length)
  | [], b, p, j => by simp [Ex.texts]
  | e :: r, b, p, j => by
    show Ex.texts mk (e :: (r ++ b)) p j = _
    simp only [Ex.texts, texts_append mk r b p (j + 1), List.length_cons, List.cons_append]
    congr 3
    omega
theorem texts_snoc (mk : List (List Nat)) (os : List Ex) (p : List Nat) (i : Nat) (h : i < os.length) : Ex.texts mk (os.take (i + 1)) p 0 = Ex.texts mk (os.take i) p 0 ++ [Ex.text mk os[i] (p ++ [i])] := by
  have hl : (os.take i).length = i := by rw [List.length_take]; omega
  rw [take_succ_get os i h, texts_append]
  simp [Ex.texts, hl]
/-! lengths -/
theorem okName_len {x : Str} (h : okName x = true) : x.length ≤ 8 := by
  unfold okName at h
  simp only [Bool.and_eq_true, decide_eq_true_eq] at h
  exact h.1.2
theorem sum_len (ts : List Str) (B : Nat) : (ts.map (·.length)).sum + 2 * ts.length ≤ B + 2 * ts.length ↔ (ts.map (·.length)).sum ≤ B := by omega
def tlen (ts : List Str) : Nat := (ts.map (·.length)).sum
theorem join_len (m : Bool) (ts : List Str) : (Txt.join (sepS m) ts).length ≤ tlen ts + 2 * ts.length := by
  show (Builtin.Str.glued _ ts).length ≤ _
  rw [StrLaws.glued_eq_join]
  refine Nat.le_trans (StrLaws.join_length_le _ ts) ?_
  have e : (sepS m).length = 2 := by cases m <;> rfl
  rw [e]
  unfold tlen
  omega
theorem kdText_len {ps : List Str} {fns : List Fn} (hk : KitW ps fns) {k : Kd} {m : Bool} {ts : List Str} (h : KdW ps fns k ts.length) (h3 : ts.length ≤ 3) : (kdText k m ts).length ≤ tlen ts + 16 := by
  have l1 : ("(" : Str).length = 1 := rfl
  have l2 : (")" : Str).length = 1 := rfl
  have l3 : (" = " : Str).length = 3 := rfl
  have l4 : (" " : Str).length = 1 := rfl
  have l5 : (" ? " : Str).length = 3 := rfl
  have l6 : (" : " : Str).length = 3 := rfl
  have l7 : ("," : Str).length = 1 := rfl
  have l8 : (" &&" : Str).length = 3 := rfl
  have l9 : (" ||" : Str).length = 3 := rfl
  have ls : ∀ b, (stSign b).length = 2 := fun b => by unfold stSign; split <;> rfl
  have le : (mkS m).length ≤ 1 := by cases m <;> decide
  have lg : ∀ s ∈ signs, s.length = 1 := by decide
  cases k with
  | read x =>
    have := okName_len (hk.pok x (by match ts, h with | [], h => exact h))
    simp only [kdText]
    omega
  | step x b w =>
    have hx : x ∈ ps := by match ts, h with | [], h => exact h.1
    have := okName_len (hk.pok x hx)
    simp only [kdText]
    split <;> rw [Str.length_append, ls] <;> omega
  | store x =>
    match ts, h with
    | [t], h =>
      have := okName_len (hk.pok x h)
      simp only [kdText, Str.length_append, l1, l2, l3, tlen, List.map_cons, List.map_nil, List.sum_cons, List.sum_nil]
      omega
  | call f =>
    have hf : f.length ≤ 8 := by
      have h' : ∃ fn ∈ fns, fn.name = f ∧ fn.ar = (ts.length : Int) := by
        simp only [KdW] at h
        exact h
      obtain ⟨fn, h1, h2, _⟩ := h'
      rw [← h2]
      exact okName_len (hk.fok fn h1).1
    have := join_len m ts
    simp only [kdText, Str.length_append, l1, l2]
    omega
  | op s =>
    match ts, h with
    | [t, u], h =>
      have := lg s h
      simp only [kdText, Str.length_append, l1, l2, l4, tlen, List.map_cons, List.map_nil, List.sum_cons, List.sum_nil]
      omega
  | cho =>
    match ts, h with
    | [t, u, v], h =>
      simp only [kdText, Str.length_append, l1, l2, l5, l6, tlen, List.map_cons, List.map_nil, List.sum_cons, List.sum_nil]
      omega
  | thn =>
    match ts, h with
    | [t, u], h =>
      simp only [kdText, Str.length_append, l1, l2, l4, l7, tlen, List.map_cons, List.map_nil, List.sum_cons, List.sum_nil]
      omega
  | and_ =>
    match ts, h with
    | [t, u], h =>
      simp only [kdText, Str.length_append, l1, l2, l4, l8, tlen, List.map_cons, List.map_nil, List.sum_cons, List.sum_nil]
      omega
  | or_ =>
    match ts, h with
    | [t, u], h =>
      simp only [kdText, Str.length_append, l1, l2, l4, l9, tlen, List.map_cons, List.map_nil, List.sum_cons, List.sum_nil]
      omega
theorem kdW_three {ps : List Str} {fns : List Fn} (hk : KitW ps fns) {k : Kd} {n : Nat} (h : KdW ps fns k n) : n ≤ 3 := by
  cases k with
  | call f =>
    have h' : ∃ fn ∈ fns, fn.name = f ∧ fn.ar = (n : Int) := by
      simp only [KdW] at h
      exact h
    obtain ⟨fn, h1, _, h3⟩ := h'
    have := (hk.fok fn h1).2.2.1
    omega
  | _ => (match n, h with | 0, _ => decide | 1, _ => decide | 2, _ => decide | 3, _ => decide)
mutual
theorem text_len {ps : List Str} {fns : List Fn} (hk : KitW ps fns) (mk : List (List Nat)) : ∀ (e : Ex) (p : List Nat), ExW ps fns e → (Ex.text mk e p).length ≤ 16 * e.nodes
  | .num n, p, h => by
    unfold ExW at h
    simp only [Ex.text, Ex.nodes]
    exact Nat.le_trans (PyProof.Rows.toString_length_le h.1 (k := 6) (by decide) (by omega)) (by decide)
  | .nd k os, p, h => by
    unfold ExW at h
    have h1 := texts_len mk os p 0
    have h2 := texts_sum hk mk os p 0 h.2
    have h3 := kdText_len hk (m := decide (p ∈ mk)) (k := k) (ts := Ex.texts mk os p 0) (by rw [h1]; exact h.1) (by rw [h1]; exact kdW_three hk h.1)
    simp only [Ex.text, Ex.nodes]
    omega
theorem texts_sum {ps : List Str} {fns : List Fn} (hk : KitW ps fns) (mk : List (List Nat)) : ∀ (es : List Ex) (p : List Nat) (j : Nat), ExWs ps fns es → tlen (Ex.texts mk es p j) ≤ 16 * Ex.nodess es
  | [], p, j, _ => by simp [Ex.texts, tlen]
  | e :: r, p, j, h => by
    unfold ExWs at h
    have h1 := text_len hk mk e (p ++ [j]) h.1
    have h2 := texts_sum hk mk r p (j + 1) h.2
    simp only [Ex.texts, tlen, List.map_cons, List.sum_cons, Ex.nodess] at h2 ⊢
    omega
end
theorem ExW.ops {ps : List Str} {fns : List Fn} {e : Ex} (h : ExW ps fns e) : ExWs ps fns e.ops := by
  cases e with
  | num n => unfold Ex.ops ExWs; trivial
  | nd k os => unfold ExW at h; exact h.2
theorem ExWs.get {ps : List Str} {fns : List Fn} : ∀ {es : List Ex}, ExWs ps fns es → ∀ (i : Nat) (h : i < es.length), ExW ps fns es[i]
  | e :: r, s, 0, h => by unfold ExWs at s; exact s.1
  | e :: r, s, i + 1, h => by
    unfold ExWs at s
    simpa using ExWs.get s.2 i (by simpa using h)
/-! ### a path in a tuple of paths -/
theorem canLay_ints : ∀ p : List Nat, PyData.canLayAll0 (dI p) = true
  | [] => by simp [dI, PyData.canLayAll0]
  | i :: p => by
    have := canLay_ints p
    simp only [dI, List.map_cons, PyData.canLayAll0, PyData.canLay0, Bool.true_and] at this ⊢
    exact this
theorem canLay_path (p : List Nat) : (dP p).canLay0 = true := by
  unfold dP
  simp only [PyData.canLay0]
  exact canLay_ints p
theorem canLay_paths : ∀ ps : List (List Nat), PyData.canLayAll0 (ps.map dP) = true
  | [] => by simp [PyData.canLayAll0]
  | p :: r => by
    simp only [List.map_cons, PyData.canLayAll0, Bool.and_eq_true]
    exact ⟨canLay_path p, canLay_paths r⟩
theorem dpAll_paths {K : PySem.W.Frag} {H : Hp} : ∀ {rows : List V} {ps : List (List Nat)}, Paired (PathAt H) rows ps → DpAll K H rows (ps.map dP)
  | _, _, .nil => .nil
  | _, _, .cons r t => .cons r.dp (dpAll_paths t)
theorem eqv_ints : ∀ p q : List Nat, PyData.eqvAll (dI p) (dI q) = decide (p = q)
  | [], [] => by simp [dI, PyData.eqvAll]
  | [], j :: q => by simp [dI, PyData.eqvAll]
  | i :: p, [] => by simp [dI, PyData.eqvAll]
  | i :: p, j :: q => by
    have := eqv_ints p q
    simp only [dI, List.map_cons, PyData.eqvAll] at this ⊢
    rw [this]
    have e : PyData.eqv (.int (i : Int)) (.int (j : Int)) = decide (i = j) := by
      by_cases h : i = j
      · rw [h]; simp [PyData.eqv]
      · have : ¬ ((i : Int) = (j : Int)) := by omega
        simp [PyData.eqv, h, this]
    rw [e]
    by_cases h1 : i = j <;> by_cases h2 : p = q <;> simp [h1, h2]
theorem eqv_path (p q : List Nat) : PyData.eqv (dP p) (dP q) = decide (p = q) := by
  unfold dP
  simp only [PyData.eqv]
  exact eqv_ints p q
theorem any_path (p : List Nat) (ps : List (List Nat)) : ((ps.map dP).any fun z => PyData.eqv z (dP p)) = decide (p ∈ ps) := by
  induction ps with
  | nil => simp
  | cons q r ih =>
    rw [List.map_cons, List.any_cons, ih, eqv_path]
    by_cases h1 : q = p
    · subst h1; simp
    · have : ¬ p = q := fun z => h1 z.symm
      simp [h1, this]
def rInP (K : PySem.W.Frag) : R2 := fun x y H Q => ∃ (p : List Nat) (a : Addr) (rows : List V) (ps : List (List Nat)), PathAt H x p ∧ y = .ref a ∧ SqT K H a rows ∧ Paired (PathAt H) rows ps ∧ Q (.bl (decide (p ∈ ps))) H
theorem op_inP {X : Cx} (hu : X.A.units + 64 < cLine) : OpR X (compareOp .In) (rInP X.K) := by
  intro pins s σ H x y v u Q I rx ry h
  obtain ⟨p, a, rows, ps, hp, rfl, hs, pr, q⟩ := h
  obtain ⟨as, r1⟩ := Dp.reads I (dP p) x v hp.dp rx
  obtain ⟨bs, r2⟩ := Dp.reads I (.tuple (ps.map dP)) _ u (.tup hs (dpAll_paths pr)) ry
  refine SeqAt.in_tuple_reads r2 r1 (canLay_paths ps) (canLay_path p) ?_ ⟨.bl _, H, I, rfl, ?_⟩
  · rw [depth_path]
    have := Nat.min_le_right (PyData.depthAll (ps.map dP)) 1
    omega
  · rw [any_path]
    exact q
def rNotInP (K : PySem.W.Frag) : R2 := fun x y H Q => ∃ (p : List Nat) (a : Addr) (rows : List V) (ps : List (List Nat)), PathAt H x p ∧ y = .ref a ∧ SqT K H a rows ∧ Paired (PathAt H) rows ps ∧ Q (.bl (!decide (p ∈ ps))) H
theorem op_notInP {X : Cx} (hu : X.A.units + 64 < cLine) : OpR X (compareOp .NotIn) (rNotInP X.K) := by
  intro pins s σ H x y v u Q I rx ry h
  obtain ⟨p, a, rows, ps, hp, rfl, hs, pr, q⟩ := h
  obtain ⟨as, r1⟩ := Dp.reads I (dP p) x v hp.dp rx
  obtain ⟨bs, r2⟩ := Dp.reads I (.tuple (ps.map dP)) _ u (.tup hs (dpAll_paths pr)) ry
  refine SeqAt.notIn_tuple_reads r2 r1 (canLay_paths ps) (canLay_path p) ?_ ⟨.bl _, H, I, rfl, ?_⟩
  · rw [depth_path]
    have := Nat.min_le_right (PyData.depthAll (ps.map dP)) 1
    omega
  · rw [any_path]
    exact q
end Oo
namespace Oo
open PySem L2 PyProof.Rows
theorem iteNo {c A B : Prop} [Decidable c] (hc : ¬ c) (h : B) : if (decide c) = true then A else B := by
  rw [decide_eq_false hc]
  exact iteF h
theorem iteYes {c A B : Prop} [Decidable c] (hc : c) (h : A) : if (decide c) = true then A else B := by
  rw [decide_eq_true hc]
  exact iteT h
theorem log_small {n : Int} (h0 : 0 ≤ n) (h1 : n ≤ 999999) : n.natAbs.log2 < 1920 := by
  by_cases h : n.natAbs = 0
  · rw [h]; decide
  · have : n.natAbs.log2 < 20 := (Nat.log2_lt h).mpr (by omega)
    omega
theorem sz2 {n : Nat} (h : n ≤ 100000) : n ≤ sizeLine := by rw [sizeLine_eq]; omega
theorem nodess_ge : ∀ os : List Ex, os.length ≤ Ex.nodess os
  | [] => by simp [Ex.nodess]
  | e :: r => by
    have h1 := nodess_ge r
    have h2 := nodes_ops e
    simp only [List.length_cons, Ex.nodess]
    omega
def dThen : Key := Sum.inr "then"
def dAnd : Key := Sum.inr "and"
def dOr : Key := Sum.inr "or"
theorem dne1 : ¬ (dThen = dAnd) := by decide +kernel
theorem dne2 : ¬ (dThen = dOr) := by decide +kernel
theorem dne3 : ¬ (dAnd = dOr) := by decide +kernel
theorem dsp_merge (x y z : V) : mergeK [] [(dThen, x), (dAnd, y), (dOr, z)] = [(dThen, x), (dAnd, y), (dOr, z)] := by
  simp [mergeK, putK, dne1, dne2, dne3]
theorem dsp_then {H : Hp} {a : Addr} {x y z : V} (e : H a = some (.dK (mergeK [] [(dThen, x), (dAnd, y), (dOr, z)]))) : DGet H a (.str "then") (some x) := by
  rw [dsp_merge] at e
  exact .inl ⟨_, dThen, .inl e, rfl, by rw [valV_pos rfl]⟩
theorem dsp_and {H : Hp} {a : Addr} {x y z : V} (e : H a = some (.dK (mergeK [] [(dThen, x), (dAnd, y), (dOr, z)]))) : DGet H a (.str "and") (some y) := by
  rw [dsp_merge] at e
  exact .inl ⟨_, dAnd, .inl e, rfl, by rw [valV_neg dne1, valV_pos rfl]⟩
theorem dsp_or {H : Hp} {a : Addr} {x y z : V} (e : H a = some (.dK (mergeK [] [(dThen, x), (dAnd, y), (dOr, z)]))) : DGet H a (.str "or") (some z) := by
  rw [dsp_merge] at e
  exact .inl ⟨_, dOr, .inl e, rfl, by rw [valV_neg dne2, valV_neg dne3, valV_pos rfl]⟩
theorem ll1 : ("(" : Str).length = 1 := rfl
theorem ll2 : (")" : Str).length = 1 := rfl
theorem ll3 : (" = " : Str).length = 3 := rfl
theorem ll4 : (" " : Str).length = 1 := rfl
theorem ll5 : (" ? " : Str).length = 3 := rfl
theorem ll6 : (" : " : Str).length = 3 := rfl
theorem ll7 : ("," : Str).length = 1 := rfl
theorem ll8 : (" &&" : Str).length = 3 := rfl
theorem ll9 : (" ||" : Str).length = 3 := rfl
theorem ll10 : (";" : Str).length = 1 := rfl
theorem ll11 : ("" : Str).length = 0 := rfl
theorem ll12 : ("++" : Str).length = 2 := rfl
theorem ll13 : ("--" : Str).length = 2 := rfl
theorem ll14 : ("; " : Str).length = 2 := rfl
theorem ll15 : (", " : Str).length = 2 := rfl
theorem seqT_up {K : PySem.W.Frag} {H H' : Hp} {a : Addr} {xs : List V} (s : Same H H') (h : SqT K H a xs) : SqT K H' a xs := by
  rcases h with (h | ⟨o, h⟩) | h
  · exact .inl (.inl (s _ _ h))
  · exact .inl (.inr ⟨o, s _ _ h⟩)
  · exact .inr h
def spWritten (K : PySem.W.Frag) (N : Nat) : Sp := fun vs H Q _ => ∃ (ve vp : V) (tm : Addr) (rows : List V) (mk : List (List Nat)) (e : Ex) (p : List Nat) (ps : List Str) (fns : List Fn), vs = [ve, vp, .ref tm] ∧ InE H e ve ∧ ExW ps fns e ∧ KitW ps fns ∧ PathAt H vp p ∧ SqT K H tm rows ∧ Paired (PathAt H) rows mk ∧
  e.depth ≤ N ∧ p.length + e.depth ≤ 90 ∧ e.nodes ≤ 900 ∧ ∀ (H' : Hp), Same H H' → Q (.str (Ex.text mk e p)) H'
def teWr (K : PySem.W.Frag) (N : Nat) : TE := fun σ H Q => ∃ (i : Nat) (pa tm : Addr) (ve : V) (rows : List V) (mk : List (List Nat)) (e : Ex) (p : List Nat) (ps : List Str) (fns : List Fn), σ[4]? = some (some (.int (i : Int))) ∧ σ[5]? = some (some ve) ∧ σ[1]? = some (some (.ref pa)) ∧ σ[2]? = some (some (.ref tm)) ∧
  H pa = some (.tup (pv_ p)) ∧ SqT K H tm rows ∧ Paired (PathAt H) rows mk ∧ InE H e ve ∧ ExW ps fns e ∧ KitW ps fns ∧ e.depth ≤ N ∧ p.length + 1 + e.depth ≤ 90 ∧ e.nodes ≤ 900 ∧ ∀ H', Same H H' → Q (.str (Ex.text mk e (p ++ [i]))) H'
end Oo
/-! sorted of a tuple with a key -/
namespace Oo
open PySem PySem.W PySem.Calls PyProof.Rows
section
variable {prog : Program} {w : World} {A : Around} {E : Value → Shared → Prop} {s : Shared}
theorem collect_tup {l : Addr} {vs : List Value} {Q : List Value → Shared → Prop} (hl : s.heap.IsTuple l vs.toArray)
    (h : Q vs { s with heap := (s.heap.push (seqObj "list" #[] 0)).update s.heap.objs.size (Obj.mapSeq (· ++ vs.toArray)) }) (hsz : vs.length ≤ sizeLine) :
    wpAny (model prog w) A (collect (.ref l)) Q E s := by
  obtain ⟨o, ho, hc, n, hd⟩ := id hl
  unfold collect
  refine wpAny_bind (wpAny_runValue (codeAny_builtin entry_proto_collect' ?_))
  show wpAny _ _ (do again (.builtin "list.__iadd__" ⟨[← newList [], .ref l], []⟩)) _ _ s
  refine wpAny_bind (wpAny_newList (wpAny_pure ⟨Code.quiet_builtin _ (by decide +kernel), codeAny_builtin entry_list_iadd' ?_⟩))
  show wpAny _ _ (Builtin.List.listExtendWith (.ref s.heap.objs.size) (.ref l) (.ref s.heap.objs.size)) _ _ { s with heap := s.heap.push (seqObj "list" #[] 0) }
  unfold Builtin.List.listExtendWith
  have ho' : (s.heap.push (seqObj "list" #[] 0)).get? l = some o := Heap.get?_push_of_some _ ho
  refine wpAny_bind (wpAny_typeOf (T := "tuple") ⟨o, ho', hc⟩ ?_)
  have ht : (Value.type "tuple" == Value.type "tuple") = true := by rfl
  rw [if_pos (by rw [ht]; simp)]
  refine wpAny_bind (listItems_at ho' hd ?_)
  refine wpAny_bind (listItems_at (xs := #[]) (n := 0) (Heap.get?_push_size _ rfl) rfl ?_)
  rw [if_neg (by simp)]
  refine wpAny_bind (listUpdate_at (xs := #[]) (n := 0) (Heap.get?_push_size _ rfl) rfl ?_ (Nat.zero_le _) (by show (#[] ++ vs.toArray).size ≤ sizeLine + 1; simp only [Array.size_append, List.size_toArray, List.length_nil]; omega))
  refine wpAny_pure ?_
  show wpAny (model prog w) A (do
      let o ← load s.heap.objs.size
      match o.data with
      | .seq xs _ => pure xs.toList
      | _ => unsupported "internal:collect") Q E { s with heap := (s.heap.push (seqObj "list" #[] 0)).update s.heap.objs.size (Obj.mapSeq (· ++ vs.toArray)) }
  refine wpAny_bind (wpAny_load (get?_update_seq (Heap.get?_push_size _ rfl) _) ?_)
  show wpAny _ _ (pure ((#[] : Array Value) ++ vs.toArray).toList) Q E _
  rw [show ((#[] : Array Value) ++ vs.toArray).toList = vs by simp]
  exact wpAny_pure h
theorem sorted_of_sortT {l : Addr} {vs : List Value} {kw : List (Str × Value)} {Q : Value → Shared → Prop} (hl : s.heap.IsTuple l vs.toArray) (hL : vs.length ≤ sizeLine) (ha1 : argsOk "sorted" ⟨[.ref l], kw⟩) (ha2 : ∀ x, argsOk "list.sort" ⟨[.ref x], kw⟩)
    (body : ∀ E' : Value → Shared → Prop, wpAny (model prog w) A.in1.in1 (Builtin.«list.sort» ⟨[.ref (s.heap.objs.size + 1)], kw⟩) (fun f s' => f = .done (.ret .none) ∧ Q (.ref (s.heap.objs.size + 1)) s') E' { s with heap := copyHeap s.heap vs }) :
    wpAny (model prog w) A (call (.builtin "sorted") [.ref l] kw) Q E s := by
  refine call_function_entry_kw kind_sorted plain_sorted entry_sorted ha1 ?_
  unfold Builtin.«sorted»
  refine wpAny_bind (m := checkCount "sorted" 1 1 _) (wpAny_pure ?_)
  refine wpAny_bind (collect_tup hl ?_ hL)
  refine wpAny_bind (wpAny_newList ?_ hL)
  have hsz : ((s.heap.push (seqObj "list" #[] 0)).update s.heap.objs.size (Obj.mapSeq (· ++ vs.toArray))).objs.size = s.heap.objs.size + 1 := by
    rw [Heap.size_update, size_push']
  show wpAny _ _ _ _ _ { s with heap := copyHeap s.heap vs }
  rw [hsz]
  refine wpAny_bind (wpAny_holding (wpAny_call_entry_kw slot_list_sort ⟨_, copyHeap_at s.heap vs, rfl⟩ entry_list_sort ?body (ha2 _)))
  case body =>
    show wpAny (model prog w) A.in1.in1 (Builtin.«list.sort» ⟨[.ref (s.heap.objs.size + 1)], kw⟩) _ _ _
    refine wpAny_mono (body _) (fun f s' hf => ?_) fun _ _ e => e
    obtain ⟨rfl, hq⟩ := hf
    exact ⟨_, rfl, wpAny_pure ⟨_, rfl, hq⟩⟩
theorem sorted_key_dataT {β : Type} {vs : List Value} {bs : List β} {R : Value → β → Prop} {l : Addr} {f : Value} {kw : List (Str × Value)} {b : Bool} {Q : Value → Shared → Prop} (k : β → PyData) (hl : s.heap.IsTuple l vs.toArray) (e : EachIs R vs bs) (hal : AllAlike (bs.map k)) (hk : Sortable (bs.map k)) (hL : bs.length ≤ sizeLine)
    (hu : ∀ x, x ∈ bs → A.units + 2 + (k x).depth < cLine) (ha1 : argsOk "sorted" ⟨[.ref l], kw⟩) (ha2 : ∀ x, argsOk "list.sort" ⟨[.ref x], kw⟩) (ht : ∀ x, Builtin.«list.sort» ⟨[.ref x], kw⟩ = ksk_tree x f b)
    (turn : ∀ (v : Value) (x : β), R v x → x ∈ bs → ∀ (h : Heap) (tk : Nat), (∀ b o, s.heap.get? b = some o → h.get? b = some o) →
      wpAny (model prog w) A.in1.in1 (call f [v]) (KeyPure (k x) { s with heap := h, toks := tk }) (fun _ _ => False) { s with heap := h, toks := tk })
    (h : ∀ out c h' tk, (∀ b o, s.heap.get? b = some o → h'.get? b = some o) → s.heap.get? (s.heap.objs.size + 1) = none → h'.get? (s.heap.objs.size + 1) = some (seqObj "list" (List.toArray out) c) → out.length = bs.length → EachIs R out (bs.mergeSort (dataLe b k)) →
      Q (.ref (s.heap.objs.size + 1)) { s with heap := h', toks := tk }) :
    wpAny (model prog w) A (call (.builtin "sorted") [.ref l] kw) Q E s := by
  have fresh : s.heap.get? (s.heap.objs.size + 1) = none := Heap.get?_none_of_le (Nat.le_succ _)
  have up : ∀ {g : Heap}, KeepsBut (s.heap.objs.size + 1) (copyHeap s.heap vs) g → ∀ b o, s.heap.get? b = some o → g.get? b = some o := fun {g} kp b o q =>
    kp b o (Nat.ne_of_lt (Nat.lt_succ_of_lt (Heap.lt_size q))) (copyHeap_old q)
  refine sorted_of_sortT hl (by rw [e.length]; exact hL) ha1 ha2 fun E' => ?_
  rw [ht]
  refine keyH_tree (kz := bs.map k) (s := { s with heap := copyHeap s.heap vs }) (copyHeap_at s.heap vs) (by rw [List.length_map]; exact e.length.symm) (by rw [e.length]; exact hL) hal hk (bound_map (A := A.in1.in1) hu)
    (keyH_turns (s := { s with heap := copyHeap s.heap vs }) e fun v x hR hx h tk kp => turn v x hR hx h tk (up kp)) fun h' tk out c kp hD ko => ⟨rfl, ?_⟩
  exact h out c h' tk (up kp) fresh hD ((ko.length (by rw [List.length_map]; exact e.length.symm)).trans e.length) (keyedOut_each k ko e)
end
/-! a lambda that reads a field of its argument -/
section
variable {prog : Program} {w : World} {A : Around} {s : Shared} {K : Frag}
theorem lam_field {f a dx C c' : Addr} {x fld qual : Str} {params : Arguments} {scope : Scope} {pm ctv : Value} {p1 p2 : Pos} {y : Str} {t : Tok} {mA : Str → Option Value}
    (X : K.In s.heap) (hf : s.heap.get? f = some (kla_obj "<lambda>" qual params (.Attribute (.Name x p1) fld p2) scope [] pm c' ctv)) (hc : s.heap.CodeRec (.ref c') qual)
    (hk : scope.kind = .function) (co : scope.isCoroutine = false) (gen : scope.isGenerator = false) (nc : ∀ y ∈ scope.names, y.2 ≠ .cell) (hx : scope.names.lookup x = some .local)
    (hb : ∀ v : Value, bindArgs (kla_fn "<lambda>" qual params (.Attribute (.Name x p1) fld p2) scope [] pm (.ref c') ctv) ⟨[v], []⟩ = pure [(x, v)])
    (O : L2.ObjM s.heap a dx C mA) (hg : plainGet K C fld = true) (hh : hasDictIn K C = true) (ha : findIn K (.ref C) fld = some none) (hv : mA fld = some (.str y t))
    (lim : s.heap.NoLimit) (hr : A.depth < recursionLimit) (hd : (x == ("__debug__" : Str)) = false)
    (hab : ∀ env, attributeBase (.Name x p1) fld env (eval (.Name x p1) env) = eval (.Name x p1) env) :
    wpAny (model prog w) A (call (.ref f) [.ref a]) (KeyPure (.str y) s) (fun _ _ => False) s := by
  refine wpAny_call (kla_callFunE hr hf rfl co gen rfl hc ?_)
  rw [hb]
  refine wpAny_pure (wpAny_newFunctionEnv nc (fun z hz => by rw [List.mem_singleton.mp hz]; exact hx) (fun h₁ hns hsb => ⟨lim.fresh _ hsb, ?_⟩) hk)
  refine kla_codeExpr ?_
  have kp : ∀ b o, s.heap.get? b = some o → h₁.get? b = some o := fun b o e => hsb.extBut b o (Nat.ne_of_lt (Heap.lt_size e)) (Heap.get?_push_of_some _ e)
  refine L2.attr_of (hab _) (wpAny_Name (wpAny_loadName_local hk hx hns (v := .ref a) (by simp) ?_) hd)
  have O' : L2.ObjM h₁ a dx C mA := by
    obtain ⟨ob, ⟨o, es, ep, ho, r⟩, ne⟩ := O
    exact ⟨kp _ _ ob, ⟨o, es, ep, kp _ _ ho, r⟩, ne⟩
  refine L2.get_map (X.keeps kp) O' hg hh ha hv rfl ?_
  exact ⟨h₁, _, rfl, kp, .str _ _⟩
end
end Oo
namespace Oo
open PySem L2 PyProof.Rows LamX
theorem valsB_of_each {β : Type} {R : Value → V × β → Prop} (h : ∀ u b, R u b → RelV b.1 u) : ∀ {us : List Value} {bs : List (V × β)}, PySem.W.EachIs R us bs → Vals (bs.map (·.1)) us
  | _, _, .nil => .nil
  | _, _, .cons s t => .cons (h _ _ s) (valsB_of_each h t)
theorem eachB_zip {β : Type} {R : Value → V × β → Prop} {F : V → β → Prop} (h : ∀ u v p, RelV v u → F v p → R u (v, p)) : ∀ {rows : List V} {us : List Value} {ps : List β}, Vals rows us → Paired F rows ps → PySem.W.EachIs R us (rows.zip ps)
  | _, _, _, .nil, .nil => .nil
  | _, _, _, .cons s t, .cons s' t' => .cons (h _ _ _ s s') (eachB_zip h t t')
/-- an instance of the class at C whose field f is the text k -/
def FldAt (C : Addr) (f : Str) (H : Hp) (v : V) (k : Str) : Prop := ∃ p dx fs, v = .ref p ∧ H p = some (.ins C dx fs) ∧ fs.lookup f = some (.str k)
/-- sorted(e, key=lambda x: x.f), a tuple of instances -/
def tSortF (K : PySem.W.Frag) (T : List (Addr × Str)) (C : Addr) (f : Str) (ta : TA) : TE := fun σ H Q => ta σ H fun vs H1 => Tabs T H1 ∧ ∃ (a : Addr) (rows : List V) (ks : List Str), vs = [.ref a] ∧ SqT K H1 a rows ∧ Paired (FldAt C f H1) rows ks ∧ rows.length ≤ 1000 ∧
  ∀ (H2 : Hp) (bs : List (V × Str)) (q : Addr), ExtN H1 H2 → Tabs T H2 → H2 q = none → bs.Perm (rows.zip ks) → bs.Pairwise (fun x y => x.2.cps.toList ≤ y.2.cps.toList) → Q (.ref q) (upd H2 q (.lst (bs.map (·.1))))
theorem pe_sortedF {X : Cx} {T : List (Addr × Str)} {c P C : Addr} {k : Nat} {e : Expr} {ta : TA} {x fld : Str} {params : Arguments} {scope : Scope} {p pos lpos kpos p1 p2 : Pos}
    (hg : Gl X "sorted") (hm : X.mg "sorted" = none) (ha : PA X [e] ta) (hr : Room (k + 2) X.A)
    (TB : TabB X.base X.mg c P) (hcode : X.env.code = .ref c) (hmT : (P, X.env.qual ++ "<lambda>") ∈ T) (hu : ∀ p ∈ T, p.1 = P → p.2 = X.env.qual ++ "<lambda>") (hdef : defaultsOf params X.env = ([], []))
    (hk : scope.kind = .function) (co : scope.isCoroutine = false) (gen : scope.isGenerator = false) (hnm : scope.names = [(x, .local)])
    (hb : ∀ (q : Str) (pm cv ctv v : Value), bindArgs (PySem.W.kla_fn "<lambda>" q params (.Attribute (.Name x p1) fld p2) scope [] pm cv ctv) ⟨[v], []⟩ = pure [(x, v)])
    (cC : Cls X.K C) (nA : NoAttr X.K C fld) (hd : (x == ("__debug__" : Str)) = false)
    (hab : ∀ env, attributeBase (.Name x p1) fld env (eval (.Name x p1) env) = eval (.Name x p1) env)
    (he : backTo pos (starEach (e :: []) X.env) = (false, eval e X.env) :: backTo pos (starEach [] X.env) := by rfl) (hpl : (backTo pos (starEach (e :: []) X.env)).any (·.1) = false := by rfl) :
    PE X (.Call (.Name "sorted" p) [e] [⟨some "key", .Lambda params (.Attribute (.Name x p1) fld p2) scope lpos, kpos⟩] pos) (tSortF X.K T C fld ta) := by
  refine ⟨fun pins s σ H Q I h => ?_⟩
  refine wpAny_Call_Name_kw (ld_blt I hg hm boot_sorted ?_)
  refine PyProof.Rows.callWith_kw (thn (ha.run pos pins s σ H _ I h) fun us s1 hq => ?_) he hpl (by rfl) (by rfl)
  obtain ⟨vs, H1, I1, r1, hT, a, rows, ks, rfl, hsq, pr, hlen, q⟩ := hq
  show wpAny _ _ (evalAll ((do let v ← eval (.Lambda params (.Attribute (.Name x p1) fld p2) scope lpos) X.env; standAt pos; pure v) :: (backToKw pos (keywordEach [] X.env)).map (·.2))) _ _ s1
  refine wpAny_evalAll_cons (wpAny_bind (lam_make2 I1 TB hcode hmT hu hT hdef (fun y hy hf => ?_) fun f c' pm' ctv H2 s2 I2 eN T2 hf hfn hfr hco => ?_))
  · rw [hnm] at hy
    rw [List.mem_singleton.mp hy] at hf
    cases hf
  refine wpAny_bind (wpAny_standAt (wpAny_pure (wpAny_evalAll_nil ?_)))
  have hclo : cloFrom X.env.cells scope.names [] = [] := by rw [hnm]; rfl
  rw [hclo] at hf
  obtain rfl := Vals.ref1 r1
  show wpAny _ _ (call (.builtin "sorted") [.ref a] [(Str.ofString "key", .ref f)]) _ _ s2
  have hsq2 : SqT X.K H2 a rows := hsq.elim (fun h => .inl (h.elim (fun h => .inl (eN _ _ h (by intro ps z; cases z))) fun ⟨o, h⟩ => .inr ⟨o, eN _ _ h (by intro ps z; cases z)⟩)) fun h => .inr h
  have pr2 : Paired (FldAt C fld H2) rows ks := L2.Paired.mapP pr fun u b ⟨p, dx, fs, e1, e2, e3⟩ => ⟨p, dx, fs, e1, eN _ _ e2 (by intro ps z; cases z), e3⟩
  obtain ⟨its, rv, hl, _⟩ := I2.tuple hsq2
  have hrl : rows.length = ks.length := pr2.length
  have hil : its.length = rows.length := rv.length.symm
  have hcr : s2.heap.CodeRec (.ref c') (X.env.qual ++ "<lambda>") := by
    obtain ⟨⟨oc, vs, t, e1, e2, e3⟩, _⟩ := I2.hok c' _ hco
    exact ⟨c', oc, vs, t, rfl, e1, e2, e3⟩
  let bs := rows.zip ks
  have bl : bs.length = rows.length := by
    show (rows.zip ks).length = _
    rw [List.length_zip]
    omega
  have e : PySem.W.EachIs (fun u (b : V × Str) => RelV b.1 u ∧ FldAt C fld H2 b.1 b.2) its bs := eachB_zip (fun u v p x y => ⟨x, y⟩) rv pr2
  refine sorted_key_dataT (b := false) (fun b : V × Str => .str b.2) hl e ?_ ?_ (by rw [bl]; exact Nat.le_of_lt (small1000 hlen)) ?_ (ksk_s1 _ _) (fun _ => ksk_l1 _ _) (fun z => ksk_t1 f z) ?_ ?_
  · intro d hd d' hd'
    obtain ⟨b, _, rfl⟩ := List.mem_map.mp hd
    obtain ⟨b', _, rfl⟩ := List.mem_map.mp hd'
    rfl
  · refine .inr fun d hd => ?_
    obtain ⟨b, _, rfl⟩ := List.mem_map.mp hd
    exact ⟨fun z => (by cases z), fun xs z => (by cases z)⟩
  · intro b _
    have := hr.units
    simp only [PyData.depth]
    omega
  · rintro v b ⟨rb, p, dx, fs, e1, e2, e3⟩ hb' h tk kp
    have I3 : Inv X pins σ H2 { s2 with heap := h, toks := tk } := I2.kept kp
    obtain ⟨mA, O, rO, _, _, _⟩ := ins_get I3.hok e2
    have rl := rO fld
    rw [e3] at rl
    obtain ⟨u, hu1, hu2⟩ := rl.some_of
    obtain ⟨t, rfl⟩ := (show ∃ t, u = Value.str b.2 t from hu2)
    have ev : v = .ref p := by
      rw [e1] at rb
      exact rb
    subst ev
    refine lam_field (s := { s2 with heap := h, toks := tk }) (K := X.K) (C := C) (t := t) I3.kIn (kp _ _ hf) ?_ hk co gen ?_ ?_ (hb _ _ _ _) O (cC.get fld) cC.hd nA hu1 I3.nolimit ?_ hd hab
    · obtain ⟨a1, a2, a3, a4, a5, a6, a7, a8⟩ := hcr
      exact ⟨a1, a2, a3, a4, a5, kp _ _ a6, a7, a8⟩
    · rw [hnm]; simp
    · rw [hnm]; simp
    · exact hr.in1.in1.depth
  · intro out c2 h' tk kp hn hD hol eo
    have hv := valsB_of_each (fun u b x => x.1) eo
    have perm := List.mergeSort_perm bs (PySem.W.dataLe false (fun b : V × Str => .str b.2))
    have hlo : ((bs.mergeSort (PySem.W.dataLe false (fun b : V × Str => .str b.2))).map (·.1)).length ≤ sizeLine := by
      rw [List.length_map, perm.length_eq, bl]
      exact Nat.le_of_lt (small1000 hlen)
    refine ⟨.ref _, upd H2 (s2.heap.objs.size + 1) (.lst _), I2.laid (t' := tk) kp (Nat.le_succ _) ⟨hlo, _, c2, hv, hD⟩, rfl, q H2 _ _ eN T2 (I2.hok.fresh (Nat.le_succ _)) perm ?_⟩
    have srt := List.pairwise_mergeSort (le := PySem.W.dataLe false (fun b : V × Str => .str b.2)) ?_ ?_ bs
    · refine srt.imp fun {x y} hxy => ?_
      rw [PySem.W.dataLe_str] at hxy
      exact of_decide_eq_true hxy
    · intro x y z h1 h2
      rw [PySem.W.dataLe_str] at h1 h2 ⊢
      exact decide_eq_true (List.le_trans (of_decide_eq_true h1) (of_decide_eq_true h2))
    · intro x y
      rw [PySem.W.dataLe_str]
      rcases List.le_total x.2.cps.toList y.2.cps.toList with h1 | h1
      · simp [h1]
      · simp [h1]
end Oo
/-! own methods that built-ins call: in, [], len, str, repr, bool -/
namespace Oo
open PySem L2 PyProof.Rows
/-- the class at C has the def at f as its method m -/
structure Dun (K : PySem.W.Frag) (C : Addr) (m : Str) (f : Addr) : Prop where
  at_ : PySem.W.findIn K (.ref C) m = some (some (.ref f))
  fn : PySem.W.isFn K (.ref f) = true
section
variable {X : Cx} {CX : CXT} {k : Nat} {C f : Addr} {fd : FuncData} {ps : List Str} {sp : Sp} {E : XK}
theorem rref (a : Addr) : RelV (V.ref a) (Value.ref a) := rfl
theorem run_fnA {A : Around} {pins : List (Addr × Obj)} {σ : L2.St} {H : Hp} {s : Shared} {Q : VK} {us : List Value} {vs : List V} (F : FnOk X.prog X.w X.K X.mg X.base CX k f fd ps sp) (hr : Room k A) (hA : A.frames = X.A.frames) (hb : Binds X.K fd ps []) (hx : Passes CX X E)
    (I : Inv X pins σ H s) (r : Vals vs us) (h : sp vs H Q E) : wpAny (model X.prog X.w) A (call (.ref f) us) (EP X pins σ Q) X.xe s := by
  have hl : (us ++ ([] : List Value)).length = ps.length := by rw [List.append_nil, ← r.length]; exact F.len _ _ _ _ h
  have e0 : Env0 X.prog X.w X.K X.mg X.base A X.stack s H := by
    have e := I.env0
    exact ⟨by rw [hA]; exact e.frames, e.mod, e.bs, e.bsz, e.funs, e.frf, e.hok, e.bare⟩
  have hbb := hb s us I.kIn hl
  rw [List.append_nil] at hbb
  refine wpAny_call (codeAny_mono (F.run A X.stack s H ⟨us, []⟩ us vs Q E hr e0 hbb r h) fun r s' hq => ?_)
  cases r with
  | error e => exact hx pins σ H s e s' I hq
  | ok fl =>
    cases fl with
    | ret u => exact I.after hq
    | next => exact False.elim hq
    | brk => exact False.elim hq
    | cont => exact False.elim hq
theorem inst_of {pins : List (Addr × Obj)} {σ : L2.St} {H : Hp} {s : Shared} {a dx : Addr} {fs : List (Str × V)} (I : Inv X pins σ H s) (ea : H a = some (.ins C dx fs)) : ∃ ox od, PySem.W.InstAt s.heap a ox C (some od) := by
  obtain ⟨mA, J, _⟩ := ins_get I.hok ea
  obtain ⟨od, J, _⟩ := J.look
  exact ⟨_, od, J⟩
/-- x in o -/
def rInO (C : Addr) (sp : Sp) (E : XK) : R2 := fun x y H Q => ∃ a dx fs, y = .ref a ∧ H a = some (.ins C dx fs) ∧ sp [.ref a, x] H (fun v H' => ∃ b, v = .bl b ∧ Q (.bl b) H') E
theorem op_inO (F : FnOk X.prog X.w X.K X.mg X.base CX k f fd ps sp) (hr : Room k X.A) (d : Dun X.K C "__contains__" f) (hb : Binds X.K fd ps []) (hx : Passes CX X E) : OpR X (compareOp .In) (rInO C sp E) := by
  intro pins s σ H x y v u Q I rx ry h
  obtain ⟨a, dx, fs, rfl, ea, h⟩ := h
  cases ry
  obtain ⟨ox, od, J⟩ := inst_of I ea
  obtain ⟨m, hF⟩ := I.fr
  refine PySem.W.in_K hF I.ok.mod.kin J d.at_ d.fn (wpAny_mono (run_fnA F hr rfl hb hx I (.cons (rref a) (.cons rx .nil)) h) (fun r s' q => ?_) fun _ _ z => z)
  obtain ⟨w', H', I', rw', b, rfl, q⟩ := q
  cases rw'
  exact wpAny_truthy_bool ⟨.bl b, H', I', rfl, q⟩
/-- o[x] -/
def tIxO (C : Addr) (sp : Sp) (E : XK) (ta tb : TE) : TE := fun σ H Q => ta σ H fun x H1 => tb σ H1 fun y H2 => ∃ a dx fs, x = .ref a ∧ H2 a = some (.ins C dx fs) ∧ sp [.ref a, y] H2 Q E
theorem pe_ixO {a b : Expr} {ta tb : TE} {pos : Pos} (F : FnOk X.prog X.w X.K X.mg X.base CX k f fd ps sp) (hr : Room (k + 1) X.A) (d : Dun X.K C "__getitem__" f) (hfn : PySem.W.fnIn X.K f = true) (hb : Binds X.K fd ps []) (hx : Passes CX X E) (ha : PE X a ta) (hb' : PE X b tb)
    (hsl : ∀ x i : Value, subscripted b true x i = runValue (.builtin "lifetime.subscript" ⟨[x, i], []⟩) := by intro _ _; with_unfolding_all rfl) : PE X (.Subscript a b pos) (tIxO C sp E ta tb) := by
  refine ⟨fun pins s σ H Q I h => ?_⟩
  refine Subscript_ (thn (ha.run pins s σ H _ I h) fun u s1 ⟨x, H1, I1, rx, q1⟩ => thn (hb'.run pins s1 σ H1 _ I1 q1) fun iv s2 ⟨y, H2, I2, ry, o, dx, fs, ex, ea, q2⟩ => ?_)
  subst ex
  obtain rfl : u = Value.ref o := rx
  obtain ⟨ox, od, J⟩ := inst_of I2 ea
  obtain ⟨m, hF⟩ := I2.fr
  exact PySem.W.sub_K hF I2.ok.mod.kin J d.at_ hfn d.fn (run_fnA F hr.in1 rfl hb hx I2 (.cons (rref o) (.cons ry .nil)) q2) (hsl _ _)
/-- len(o) -/
def rLenO (C : Addr) (sp : Sp) (E : XK) : List V → Hp → VK → Prop := fun xs H Q => ∃ a dx fs, xs = [.ref a] ∧ H a = some (.ins C dx fs) ∧ sp [.ref a] H (fun v H' => ∃ n : Nat, v = .int n ∧ n ≤ 1000000 ∧ Q (.int n) H') E
theorem call_lenO (F : FnOk X.prog X.w X.K X.mg X.base CX k f fd ps sp) (hr : Room (k + 1) X.A) (d : Dun X.K C "__len__" f) (hb : Binds X.K fd ps []) (hx : Passes CX X E) : CallR X (.builtin "len") (rLenO C sp E) := by
  intro pins s σ H xs us Q I r h
  obtain ⟨a, dx, fs, rfl, ea, h⟩ := h
  obtain rfl := Vals.ref1 r
  obtain ⟨ox, od, J⟩ := inst_of I ea
  obtain ⟨m, hF⟩ := I.fr
  refine PySem.W.len_K hF I.ok.mod.kin J d.at_ d.fn (wpAny_mono (run_fnA (A := X.A.in1) F hr.in1 rfl hb hx I (.cons (rref a) .nil) h) (fun r s' q => ?_) fun _ _ z => z)
  obtain ⟨w', H', I', rw', n, rfl, hn, q⟩ := q
  obtain ⟨t, rfl⟩ := (show ∃ t, r = Value.int n t from rw')
  exact ⟨⟨by omega, by omega⟩, .int n, H', I'.tok _, ⟨_, rfl⟩, q⟩
/-- str(o), repr(o) -/
def rStrO (C : Addr) (sp : Sp) (E : XK) : List V → Hp → VK → Prop := fun xs H Q => ∃ a dx fs, xs = [.ref a] ∧ H a = some (.ins C dx fs) ∧ sp [.ref a] H (fun v H' => ∃ y : Str, v = .str y ∧ Q (.str y) H') E
theorem call_strO (F : FnOk X.prog X.w X.K X.mg X.base CX k f fd ps sp) (hr : Room (k + 2) X.A) (d : Dun X.K C "__str__" f) (hb : Binds X.K fd ps []) (hx : Passes CX X E) : CallR X (.type "str") (rStrO C sp E) := by
  intro pins s σ H xs us Q I r h
  obtain ⟨a, dx, fs, rfl, ea, h⟩ := h
  obtain rfl := Vals.ref1 r
  obtain ⟨ox, od, J⟩ := inst_of I ea
  refine PySem.W.kso_call hr.in1.in1.units0 I.kIn J d.at_ d.fn (wpAny_mono (run_fnA (A := X.A.in1.in1) F hr.in1.in1 rfl hb hx I (.cons (rref a) .nil) h) (fun r s' q => ?_) fun _ _ z => z)
  obtain ⟨w', H', I', rw', y, rfl, q⟩ := q
  obtain ⟨t, rfl⟩ := (show ∃ t, r = Value.str y t from rw')
  exact ⟨.str y, H', I', ⟨_, rfl⟩, q⟩
theorem call_reprO (F : FnOk X.prog X.w X.K X.mg X.base CX k f fd ps sp) (hr : Room (k + 1) X.A) (d : Dun X.K C "__repr__" f) (hb : Binds X.K fd ps []) (hx : Passes CX X E) : CallR X (.builtin "repr") (rStrO C sp E) := by
  intro pins s σ H xs us Q I r h
  obtain ⟨a, dx, fs, rfl, ea, h⟩ := h
  obtain rfl := Vals.ref1 r
  obtain ⟨ox, od, J⟩ := inst_of I ea
  obtain ⟨m, hF⟩ := I.fr
  refine PySem.W.repr_K hr.in1.units0 hF I.ok.mod.kin J d.at_ d.fn (wpAny_mono (run_fnA (A := X.A.in1) F hr.in1 rfl hb hx I (.cons (rref a) .nil) h) (fun r s' q => ?_) fun _ _ z => z)
  obtain ⟨w', H', I', rw', y, rfl, q⟩ := q
  obtain ⟨t, rfl⟩ := (show ∃ t, r = Value.str y t from rw')
  exact ⟨.str y, H', I', ⟨_, rfl⟩, q⟩
end
end Oo
namespace Oo
open PySem PySem.W PySem.Calls PyProof.Rows Builtin
section
variable {prog : Program} {w : World} {A : Around} {E : Value → Shared → Prop} {s : Shared} {K : Frag} {x C f : Addr} {ox : Obj} {od : Option Obj}
theorem truthy_len {Q : Bool → Shared → Prop} (X : K.In s.heap) (I : InstAt s.heap x ox C od) (hb : findIn K (.ref C) "__bool__" = some none) (hs : findIn K (.ref C) "__len__" = some (some (.ref f))) (hf : isFn K (.ref f) = true)
    (h : wpAny (model prog w) A.in1 (call (.ref f) [.ref x]) (W.LenBack fun v s' => ∃ (n : Int) (t : Tok), v = .int n t ∧ Q (n != 0) s') E s) : wpAny (model prog w) A (truthy (.ref x)) Q E s := by
  unfold truthy
  refine wpAny_bind (m := callSpecial? (.ref x) (Str.ofString "__bool__")) (wpAny_bind (wpAny_bind (I.type.here ((looks_findIn X hb).here (wpAny_pure ?_)))))
  refine wpAny_bind (wpAny_bind (I.type.here ((looks_findIn X hs).here ?_)))
  show wpAny _ _ (if (some (Value.ref f)).isNone = true then _ else _) _ _ _
  rw [if_neg (by simp)]
  refine wpAny_bind (wpAny_runValue (codeAny_builtin entry_len ?_))
  rw [Around.under_plainId plain_len _]
  unfold Builtin.«len»
  refine wpAny_bind (m := oneArg "len" _) (wpAny_pure ?_)
  refine wpAny_bind (m := callSpecial? (.ref x) (Str.ofString "__len__")) (special_fn X I hs (beq_iff_eq.mp hf) (wpAny_mono h (fun r s' hr => ?_) fun _ _ y => y))
  cases r <;> first | exact hr.elim | skip
  rename_i n u
  obtain ⟨⟨h0, h1⟩, n', t', e, hq⟩ := hr
  cases e
  refine wpAny_bind (wpAny_holding (wpAny_pure ?_))
  refine wpAny_bind (wpAny_letGo ?_)
  show wpAny _ _ (if n < 0 then _ else _) _ _ _
  rw [if_neg (by omega)]
  show wpAny _ _ (if n ≥ 2 ^ 63 then _ else _) _ _ _
  rw [if_neg (by omega)]
  exact wpAny_bind (wpAny_mkInt (wpAny_pure (wpAny_pure hq)))
theorem bool_ref {Q : Value → Shared → Prop} (h : wpAny (model prog w) A.in1.in1 (truthy (.ref x)) (fun b s' => Q (.bool b) s') E s) : wpAny (model prog w) A (call (.type "bool") [.ref x]) Q E s := by
  refine callType_codes (T := "bool") (Bi := Builtin.«object.__init__») (Q₁ := fun r s₁ => ∃ b, r = .bool b ∧ Q r s₁) PySem.F.called_bool (PySem.F.typeCall_bool_1 _) PySem.F.entry_object_init ?_ ?_
  · refine codeAny_of_tree ?_
    show wpAny _ A.in1.in1 (do checkBuiltinCall "bool.__new__" ⟨[.type "bool", .ref x], []⟩; again (.builtin "bool.__new__" ⟨[.type "bool", .ref x], []⟩)) _ _ s
    refine wpAny_bind (wpAny_of_eq (PySem.F.newCall_bool_1 _) (wpAny_pure ⟨plainId_quiet (by decide +kernel) _, codeAny_builtin PySem.F.entry_bool_new ?_⟩))
    rw [Around.under_plainId (by decide +kernel) _]
    have f1 := F.conv_sub_bool
    obtain ⟨hp, g, d, tk, os⟩ := s
    repeat (any_goals (first | assumption | (with_reducible refine wpAny_mono h (fun b s' hq => ?_) (fun _ _ z => z)) | wp_step))
    exact ⟨_, rfl, hq⟩
  · rintro obj s₁ ⟨b, rfl, hq⟩
    exact ⟨PySem.typeIs_bool _ _, PySem.F.args_object_init_2 _ _, object_init_meets PySem.F.called_bool.init.lookup PySem.F.called_bool.made (by decide) prog w A.in1 _ s₁ ⟨PySem.typeIs_bool _ _, rfl, hq⟩⟩
end
end Oo
namespace Oo
open PySem L2 PyProof.Rows
section
variable {X : Cx} {CX : CXT} {k : Nat} {C f : Addr} {fd : FuncData} {ps : List Str} {sp : Sp} {E : XK}
/-- bool(o), o with an own __len__ -/
theorem call_boolO (F : FnOk X.prog X.w X.K X.mg X.base CX k f fd ps sp) (hr : Room (k + 3) X.A) (d : Dun X.K C "__len__" f) (n : PySem.W.findIn X.K (.ref C) "__bool__" = some none) (hb : Binds X.K fd ps []) (hx : Passes CX X E) :
    CallR X (.type "bool") (fun xs H Q => ∃ a dx fs, xs = [.ref a] ∧ H a = some (.ins C dx fs) ∧ sp [.ref a] H (fun v H' => ∃ n : Nat, v = .int n ∧ n ≤ 1000000 ∧ Q (.bl (decide (0 < n))) H') E) := by
  intro pins s σ H xs us Q I r h
  obtain ⟨a, dx, fs, rfl, ea, h⟩ := h
  obtain rfl := Vals.ref1 r
  obtain ⟨ox, od, J⟩ := inst_of I ea
  refine bool_ref (truthy_len I.kIn J n d.at_ d.fn (wpAny_mono (run_fnA (A := X.A.in1.in1.in1) F hr.in1.in1.in1 rfl hb hx I (.cons (rref a) .nil) h) (fun r s' q => ?_) fun _ _ z => z))
  obtain ⟨w', H', I', rw', n, rfl, hn, q⟩ := q
  obtain ⟨t, rfl⟩ := (show ∃ t, r = Value.int n t from rw')
  refine ⟨⟨by omega, by omega⟩, n, _, rfl, .bl (decide (0 < n)), H', I'.tok _, ?_, q⟩
  show Value.bool ((n : Int) != 0) = Value.bool (decide (0 < n))
  congr 1
  cases n with
  | zero => rfl
  | succ m =>
    rw [decide_eq_true (Nat.succ_pos m)]
    simp
    omega
end
end Oo
namespace Oo
open PySem L2 PyProof.Rows
abbrev sIsInt : Stmt := top 2
abbrev sAsc : Stmt := top 3
abbrev sName : Stmt := top 19
abbrev sPlaces : Stmt := top 20
/-! ### is_integer, is_ascending, is_name, are_places -/
/-- x < y, data -/
def rLtU (K : PySem.W.Frag) : R2 := fun x y H Q => ∃ d e, Dp K H x d ∧ Dp K H y e ∧ PySem.W.alike d e = true ∧ d ≠ .none ∧ d.depth ≤ 60 ∧ Q (.bl (PySem.W.dataLt d e)) H
theorem op_ltU {X : Cx} (hu : X.A.units + 64 < cLine) : OpR X (compareOp .Lt) (rLtU X.K) := by
  intro pins s σ H x y v u Q I rx ry h
  obtain ⟨d, e, hd, he, al, hn, hdp, q⟩ := h
  obtain ⟨as, r1⟩ := Dp.reads I d x v hd rx
  obtain ⟨bs, r2⟩ := Dp.reads I e y u he ry
  refine PySem.W.lt_data r1 r2 al hn ?_ ⟨.bl _, H, I, rfl, q⟩
  have := Nat.min_le_left d.depth e.depth
  omega
def spIsInt : Sp := fun vs H Q _ => (∃ n, vs = [.int n] ∧ Q (.bl true) H) ∨ (∃ p xs, vs = [.ref p] ∧ H p = some (.tup xs) ∧ Q (.bl false) H)
/-- each one is less than the next -/
def AscD (ds : List PyData) : Prop := ∀ i (h : i + 1 < ds.length), PySem.W.alike ds[i] ds[i + 1] = true ∧ ds[i] ≠ .none ∧ (ds[i]).depth ≤ 60 ∧ PySem.W.dataLt ds[i] ds[i + 1] = true
def teLt (K : PySem.W.Frag) : TE := fun σ H Q => ∃ (p : Addr) (xs : List V) (ds : List PyData) (i : Nat), σ[0]? = some (some (.ref p)) ∧ σ[1]? = some (some (.int (0 + (i : Int)))) ∧ SqT K H p xs ∧ DpAll K H xs ds ∧ i + 1 < ds.length ∧ AscD ds ∧ Q (.bl true) H
def spAsc (K : PySem.W.Frag) : Sp := fun vs H Q _ => ∃ (p : Addr) (xs : List V) (ds : List PyData), vs = [.ref p] ∧ SqT K H p xs ∧ DpAll K H xs ds ∧ xs.length ≤ 1000 ∧ AscD ds ∧ ∀ H', Same H H' → Q (.bl true) H'
theorem same_seqT {K : PySem.W.Frag} {H H' : Hp} (s : Same H H') {a : Addr} {xs : List V} (h : SqT K H a xs) : SqT K H' a xs :=
  h.elim (fun h => .inl (h.elim (fun h => .inl (s _ _ h)) fun ⟨o, h⟩ => .inr ⟨o, s _ _ h⟩)) fun h => .inr h
mutual
theorem dp_ext {K : PySem.W.Frag} {H H' : Hp} (s : Same H H') : ∀ {v : V} {d : PyData}, Dp K H v d → Dp K H' v d
  | _, _, .non => .non
  | _, _, .bl b => .bl b
  | _, _, .int i => .int i
  | _, _, .str x => .str x
  | _, _, .lst h t => .lst (s.seq h) (dpAll_ext s t)
  | _, _, .tup h t => .tup (same_seqT s h) (dpAll_ext s t)
theorem dpAll_ext {K : PySem.W.Frag} {H H' : Hp} (s : Same H H') : ∀ {vs : List V} {ds : List PyData}, DpAll K H vs ds → DpAll K H' vs ds
  | _, _, .nil => .nil
  | _, _, .cons a t => .cons (dp_ext s a) (dpAll_ext s t)
end
theorem dpAll_len {K : PySem.W.Frag} {H : Hp} : ∀ {vs : List V} {ds : List PyData}, DpAll K H vs ds → vs.length = ds.length
  | _, _, .nil => rfl
  | _, _, .cons _ t => by rw [List.length_cons, List.length_cons, dpAll_len t]
theorem dpAll_at {K : PySem.W.Frag} {H : Hp} : ∀ {vs : List V} {ds : List PyData}, DpAll K H vs ds → ∀ (i : Nat) (h : i < vs.length) (h' : i < ds.length), Dp K H vs[i] ds[i]
  | _, _, .cons a t, 0, _, _ => a
  | _, _, .cons _ t, i + 1, h, h' => dpAll_at t i (by simpa using h) (by simpa using h')
section
variable {P : Program} {w : World} {K : PySem.W.Frag} {mg : Str → Option Value} {base : Heap} {X : Cx}
theorem scIsInt : FnScope ["value"] ["value"] (defScope sIsInt) := ⟨rfl, rfl, rfl, by decide +kernel, rfl, by decide +kernel, by decide +kernel⟩
theorem ok_isint {f : Addr} {fd : FuncData} (F : Fun K "is_integer" "is_integer" sIsInt f fd) (mi : mg "int" = none) (mb : mg "bool" = none) (mis : mg "isinstance" = none) : FnOk P w K mg base CX0 1 f fd ["value"] spIsInt := by
  refine F.ok scIsInt (fun vs H Q E h => ?_) (fun cdv A outer s H vs Q E hr h => ?_)
  · rcases h with ⟨n, rfl, _⟩ | ⟨p, xs, rfl, _⟩ <;> rfl
  refine ⟨_, (pss_one (ps_ret (pe_and (pe_callB call_isi (by rfl) mis boot_isinstance (pa_cons (pv 0) (pa_cons (pe_bltn (v := .ty "int") (by rfl) mi (by decide +kernel) rfl) pa_nil))) (pe_one (pe_not (pe_callB call_isi (by rfl) mis boot_isinstance (pa_cons (pv 0) (pa_cons (pe_bltn (v := .ty "bool") (by rfl) mb (by decide +kernel) rfl) pa_nil)))))))), ?_⟩
  rcases h with ⟨n, rfl, q⟩ | ⟨p, xs, rfl, e, q⟩
  · refine ⟨_, rfl, _, _, _, _, true, rfl, .ty "int", .base (.int n), kit_ty (by decide +kernel), true, rfl, iteT ?_⟩
    exact ⟨_, rfl, _, _, _, _, false, rfl, .ty "bool", .base (.int n), kit_ty (by decide +kernel), false, rfl, q⟩
  · exact ⟨_, rfl, _, _, _, _, false, rfl, .ty "int", .base (.tup e), kit_ty (by decide +kernel), false, rfl, iteF q⟩
theorem scAsc : FnScope ["items", "at"] ["items"] (defScope sAsc) := ⟨rfl, rfl, rfl, by decide +kernel, rfl, by decide +kernel, by decide +kernel⟩
theorem ok_asc {f : Addr} {fd : FuncData} (F : Fun K "is_ascending" "is_ascending" sAsc f fd) (mal : mg "all" = none) (mr : mg "range" = none) (ml : mg "len" = none) : FnOk P w K mg base CX0 1 f fd ["items"] (spAsc K) := by
  refine F.ok scAsc (fun vs H Q E h => ?_) (fun cdv A outer s H vs Q E hr h => ?_)
  · obtain ⟨p, xs, ds, rfl, _⟩ := h
    rfl
  obtain ⟨p, xs, ds, rfl, e, hd, hl, asc, q⟩ := h
  refine ⟨_, (pss_one (ps_ret (pe_callB (cr_all rfl) (by rfl) mal (by decide +kernel) (pa_cons (pe_lc (own := [("at", 1)]) (g := gName 1) (tt := tYes) (by rfl) scAsc.nd (pi_range1 (by rfl) mr (pa_cons (pe_op op_sub (pe_callB call_len_seq (by rfl) ml PySem.boot_len (pa_cons (pv 0) pa_nil)) pe_int) pa_nil)) (blkOk_by (own := [("at", 1)]) (N := ["items", "at"]) (sc := defScope sAsc) (by decide +kernel)) (fun _ _ _ _ _ => (pg_name (i := 1) scAsc.nd rfl (Or.inl rfl))) (fun _ _ _ _ _ => pts_nil) (fun _ _ _ _ _ => (pe_as (t' := teLt K) (pe_cmpR (op_ltU hr.units) (pe_ix ix_tup (pv 0) (pv 1) (fun _ _ => rfl)) (pe_ix ix_tup (pv 0) (pe_op op_add (pv 1) pe_int) (fun _ _ => rfl)) (nomark _)) ?c1))) pa_nil)))), ?_⟩
  case c1 =>
    rintro σ H Q ⟨p, xs, ds, i, e0, e1, e, hd, h1, asc, q⟩
    have hlen := dpAll_len hd
    obtain ⟨al, hn, hdp, lt⟩ := asc i h1
    refine ⟨_, e0, _, e1, p, xs, _, xs[i]'(by omega), rfl, rfl, e, at_of (j := i) (by omega) (List.getElem?_eq_getElem (by omega)), _, e0, _, e1, _, _, rfl, rfl, p, xs, _, xs[i + 1]'(by omega), rfl, rfl, e, at_of (j := i + 1) (by omega) (List.getElem?_eq_getElem (by omega)), _, _, dpAll_at hd i (by omega) (by omega), dpAll_at hd (i + 1) (by omega) h1, al, hn, hdp, ?_⟩
    rw [lt]
    exact q
  refine ⟨_, rfl, p, _, rfl, .inr e, _, _, rfl, rfl, _, rfl, by omega, by omega, fun D nD => ?_⟩
  have hlen := dpAll_len hd
  have sD := same_up (o := .lst []) nD
  refine lc_range (lo := 0) (n := ((xs.length : Int) - 1).toNat) (fun i H' => H' D = some (.lst ((List.replicate i true).map V.bl)) ∧ Same H H') ⟨upd_same, sD⟩ ?_ ?_
  · rintro i H' hi ⟨eD, s'⟩
    have h1 : i + 1 < ds.length := by omega
    refine ⟨rfl, yes_i ⟨p, xs, ds, i, rfl, rfl, same_seqT s' e, dpAll_ext s' hd, h1, asc, ?_⟩⟩
    refine ⟨_, eD, small1000 (by rw [List.length_map, List.length_replicate]; omega), ?_, fun b o z => by rw [upd_ne (ne_of_none z nD)]; exact s' b o z⟩
    rw [List.replicate_succ', List.map_append]
    exact upd_same
  · rintro H' ⟨eD, s'⟩
    refine ⟨D, _, rfl, SqL.of eD, ?_⟩
    have : (List.replicate ((xs.length : Int) - 1).toNat true).all id = true := by simp
    rw [this]
    exact q _ s'
end
end Oo
namespace Oo
open PySem L2 PyProof.Rows
theorem pe_globI {X : Cx} {x : Str} {n : Int} {t : Tok} {pos : Pos} (hg : Gl X x) (hm : X.mg x = some (.int n t)) (hd : (x == ("__debug__" : Str)) = false := by decide) : PE X (.Name x pos) (tC (.int n)) := pe_glob (v := .int n) hg hm ⟨t, rfl⟩ hd
theorem pe_globS {X : Cx} {x z : Str} {t : Tok} {pos : Pos} (hg : Gl X x) (hm : X.mg x = some (.str z t)) (hd : (x == ("__debug__" : Str)) = false := by decide) : PE X (.Name x pos) (tC (.str z)) := pe_glob (v := .str z) hg hm ⟨t, rfl⟩ hd
theorem pe_globD {X : Cx} {x : Str} {a : Addr} {pos : Pos} (hg : Gl X x) (hm : X.mg x = some (.ref a)) (hd : (x == ("__debug__" : Str)) = false := by decide) : PE X (.Name x pos) (tC (.ref a)) := pe_glob (v := .ref a) hg hm rfl hd
def letters : Str := "abcdefghijklmnopqrstuvwxyz"
theorem in_letters {c : Nat} (h1 : 97 ≤ c) (h2 : c ≤ 122) : c ∈ letters.cps.toList := by
  have : letters.cps.toList = List.range' 97 26 := by decide +kernel
  rw [this, List.mem_range'_1]
  omega
theorem okName_letters {x : Str} (h : okName x = true) : ∀ c ∈ x.cps.toList, 97 ≤ c ∧ c ≤ 122 := by
  unfold okName at h
  simp only [Bool.and_eq_true, List.all_eq_true, decide_eq_true_eq] at h
  exact h.2
theorem okName_pos {x : Str} (h : okName x = true) : 1 ≤ x.length := by
  unfold okName at h
  simp only [Bool.and_eq_true, decide_eq_true_eq] at h
  exact h.1.1
def teLetter : TE := fun σ H Q => ∃ c : Nat, σ[1]? = some (some (.str ⟨#[c]⟩)) ∧ 97 ≤ c ∧ c ≤ 122 ∧ Q (.bl true) H
def spName : Sp := fun vs H Q _ => ∃ x, vs = [.str x] ∧ okName x = true ∧ ∀ H', Same H H' → Q (.bl true) H'
def spPlaces : Sp := fun vs H Q _ => ∃ (p : Addr) (xs : List Str), vs = [.ref p] ∧ H p = some (.tup (xs.map V.str)) ∧ PlW xs ∧ ∀ H', Same H H' → Q (.bl true) H'
theorem dataLt_strs (a b : Str) : PySem.W.dataLt (.str a) (.str b) = decide (a.cps.toList < b.cps.toList) := PySem.W.dataLt_str a b
theorem risingS_get : ∀ (l : List Str) (p : Str), risingS p l = true → ∀ (h : 0 < l.length), decide (l[0].cps.toList < p.cps.toList) = false
  | x :: r, p, h, _ => by
    unfold risingS at h
    rw [Bool.and_eq_true, ltCps_eq] at h
    have := h.1
    simpa using this
theorem sortedS_get : ∀ (l : List Str), sortedS l = true → ∀ i (h : i + 1 < l.length), ¬ (l[i + 1].cps.toList < l[i].cps.toList)
  | x :: y :: r, hs, 0, h => by
    have := risingS_get (y :: r) x hs (by simp)
    simpa using this
  | x :: y :: r, hs, i + 1, h => by
    have h2 : sortedS (y :: r) = true := by
      have h3 : risingS x (y :: r) = true := hs
      unfold risingS at h3
      rw [Bool.and_eq_true] at h3
      exact h3.2
    have := sortedS_get (y :: r) h2 i (by simpa using h)
    simpa using this
theorem ascD_strs {xs : List Str} (h : sortedS xs = true) (nd : xs.Nodup) : AscD (xs.map PyData.str) := by
  intro i hi
  rw [List.length_map] at hi
  simp only [List.getElem_map]
  refine ⟨rfl, fun z => (by cases z), (by simp [PyData.depth]), ?_⟩
  rw [dataLt_strs]
  refine decide_eq_true ?_
  have h1 := sortedS_get xs h i hi
  have h2 : xs[i].cps.toList ≤ xs[i + 1].cps.toList := List.not_lt.mp h1
  rcases Classical.em (xs[i].cps.toList < xs[i + 1].cps.toList) with h3 | h3
  · exact h3
  · have h4 : xs[i + 1].cps.toList ≤ xs[i].cps.toList := List.not_lt.mp h3
    have h5 := List.le_antisymm h2 h4
    have h6 : xs[i] = xs[i + 1] := Str.ext' (by rw [← Array.toArray_toList (xs := xs[i].cps), h5, Array.toArray_toList])
    have := (List.nodup_iff_pairwise_ne.mp nd)
    rw [List.pairwise_iff_getElem] at this
    exact absurd h6 (this i (i + 1) (by omega) hi (by omega))
section
variable {P : Program} {w : World} {K : PySem.W.Frag} {mg : Str → Option Value} {base : Heap} {X : Cx}
theorem scName : FnScope ["value", "letter"] ["value"] (defScope sName) := ⟨rfl, rfl, rfl, by decide +kernel, rfl, by decide +kernel, by decide +kernel⟩
theorem ok_name {f : Addr} {fd : FuncData} {t1 t2 : Tok} (F : Fun K "is_name" "is_name" sName f fd) (mal : mg "all" = none) (ml : mg "len" = none) (mst : mg "str" = none) (mis : mg "isinstance" = none)
    (mMOST_LETTERS : mg "MOST_LETTERS" = some (.int 8 t1)) (mLETTERS : mg "LETTERS" = some (.str letters t2)) : FnOk P w K mg base CX0 1 f fd ["value"] spName := by
  refine F.ok scName (fun vs H Q E h => ?_) (fun cdv A outer s H vs Q E hr h => ?_)
  · obtain ⟨x, rfl, _⟩ := h
    rfl
  obtain ⟨x, rfl, hx, q⟩ := h
  refine ⟨_, (pss_cons (ps_if (PW.pt (pw_or (pt_not (pt_val (pe_callB call_isi (by rfl) mis boot_isinstance (pa_cons (pv 0) (pa_cons (pe_bltn (v := .ty "str") (by rfl) mst (by decide +kernel) rfl) pa_nil))))) (pw_or1 (pt_not (pt_chain op_le op_le pe_int (pe_callB call_len_str (by rfl) ml PySem.boot_len (pa_cons (pv 0) pa_nil)) (pe_globI rfl mMOST_LETTERS)))))) (pss_one (ps_ret pe_bl)) pss_nil)
    (pss_one (ps_ret (pe_callB (cr_all rfl) (by rfl) mal (by decide +kernel) (pa_cons (pe_lc (own := [("letter", 1)]) (g := gName 1) (tt := tYes) (by rfl) scName.nd (pi_str (pv 0)) (blkOk_by (own := [("letter", 1)]) (N := ["value", "letter"]) (sc := defScope sName) (by decide +kernel)) (fun _ _ _ _ _ => (pg_name (i := 1) scName.nd rfl (Or.inl rfl))) (fun _ _ _ _ _ => pts_nil) (fun _ _ _ _ _ => (pe_as (t' := teLetter) (pe_cmpR op_in_sign (pv 1) (pe_globS rfl mLETTERS) (by rfl)) ?c1))) pa_nil))))), ?_⟩
  case c1 =>
    rintro σ H Q ⟨c, e1, h1, h2, q⟩
    refine ⟨_, e1, c, letters, rfl, rfl, ?_⟩
    rw [decide_eq_true (in_letters h1 h2)]
    exact q
  have hl8 := okName_len hx
  have hl1 := okName_pos hx
  have hcs := okName_letters hx
  refine ⟨_, rfl, _, _, _, _, true, rfl, .ty "str", .base (.str x), kit_ty (by decide +kernel), true, rfl, iteF ?_⟩
  refine ⟨_, rfl, x, rfl, sz (by omega), _, _, rfl, rfl, _, rfl, iteYes (by omega) ⟨_, _, rfl, rfl, ?_⟩⟩
  refine ⟨_, rfl, ?_⟩
  rw [decide_eq_true (show (x.length : Int) ≤ 8 by omega)]
  refine iteF ⟨_, rfl, x, rfl, fun D nD => ?_⟩
  refine lc_it walk_str (fun i H' => H' D = some (.lst ((List.replicate i true).map V.bl)) ∧ Same H H') ⟨upd_same, same_up nD⟩ (fun _ _ _ _ => trivial) ?_ ?_
  · rintro i v H1 H2 hi ⟨eD, s'⟩ ⟨rfl, c, hc, rfl⟩
    have hm : c ∈ x.cps.toList := by
      have := Array.mem_of_getElem? hc
      exact Array.mem_toList_iff.mpr this
    obtain ⟨h1, h2⟩ := hcs c hm
    refine ⟨rfl, yes_i ⟨c, rfl, h1, h2, _, eD, small1000 ?_, ?_, fun b o z => by rw [upd_ne (ne_of_none z nD)]; exact s' b o z⟩⟩
    · rw [List.length_map, List.length_replicate]
      have : x.cps.size ≤ 8 := hl8
      omega
    · rw [List.replicate_succ', List.map_append]
      exact upd_same
  · rintro H' ⟨eD, s'⟩
    refine ⟨D, _, rfl, SqL.of eD, ?_⟩
    have : (List.replicate x.cps.size true).all id = true := by simp
    rw [this]
    exact q _ s'
theorem scPlaces : FnScope ["value", "place"] ["value"] (defScope sPlaces) := ⟨rfl, rfl, rfl, by decide +kernel, rfl, by decide +kernel, by decide +kernel⟩
theorem ok_places {f fn fa : Addr} {fd fdn fda : FuncData} {t1 : Tok} (F : Fun K "are_places" "are_places" sPlaces f fd) (mal : mg "all" = none) (ml : mg "len" = none) (mt : mg "tuple" = none) (mis : mg "isinstance" = none) (mMOST_PLACES : mg "MOST_PLACES" = some (.int 4 t1))
    (GN : FnOk P w K mg base CX0 1 fn fdn ["value"] spName) (kN : PySem.W.keepIn K (.ref fn) = true) (bN : Binds K fdn ["value"] []) (mN : mg "is_name" = some (.ref fn))
    (GA : FnOk P w K mg base CX0 1 fa fda ["items"] (spAsc K)) (kA : PySem.W.keepIn K (.ref fa) = true) (bA : Binds K fda ["items"] []) (mA : mg "is_ascending" = some (.ref fa)) :
    FnOk P w K mg base CX0 2 f fd ["value"] spPlaces := by
  refine F.ok scPlaces (fun vs H Q E h => ?_) (fun cdv A outer s H vs Q E hr h => ?_)
  · obtain ⟨p, xs, rfl, _⟩ := h
    rfl
  obtain ⟨p, xs, rfl, e, ⟨hl, hok, hs, hnd⟩, q⟩ := h
  refine ⟨_, (pss_cons (ps_if (PW.pt (pw_or (pt_not (pt_val (pe_callB call_isi (by rfl) mis boot_isinstance (pa_cons (pv 0) (pa_cons (pe_bltn (v := .ty "tuple") (by rfl) mt (by decide +kernel) rfl) pa_nil))))) (pw_or1 (pt_cmpR op_gt (pe_callB call_len_seq (by rfl) ml PySem.boot_len (pa_cons (pv 0) pa_nil)) (pe_globI rfl mMOST_PLACES) (nomark _))))) (pss_one (ps_ret pe_bl)) pss_nil)
    (pss_one (ps_ret (pe_and (pe_callB (cr_all rfl) (by rfl) mal (by decide +kernel) (pa_cons (pe_lc (own := [("place", 1)]) (g := gName 1) (tt := tYes) (by rfl) scPlaces.nd (pi_tup (pv 0)) (blkOk_by (own := [("place", 1)]) (N := ["value", "place"]) (sc := defScope sPlaces) (by decide +kernel)) (fun _ _ _ _ _ => (pg_name (i := 1) scPlaces.nd rfl (Or.inl rfl))) (fun _ _ _ _ _ => pts_nil) (fun _ _ _ _ _ => (pe_call GN hr rfl mN kN bN .nil pass0 (pa_cons (pv 1) pa_nil)))) pa_nil)) (pe_one (pe_call GA hr rfl mA kA bA .nil pass0 (pa_cons (pv 0) pa_nil))))))), ?_⟩
  refine ⟨_, rfl, _, _, _, _, true, rfl, .ty "tuple", .base (.tup e), kit_ty (by decide +kernel), true, rfl, iteF ?_⟩
  refine ⟨_, rfl, p, _, rfl, .inr (SqT.of e), _, _, rfl, rfl, _, rfl, iteNo (by rw [List.length_map]; omega) ?_⟩
  refine ⟨_, rfl, p, rfl, ⟨_, SqT.of e⟩, fun D nD => ?_⟩
  refine lc_tup (K := K) (a := p) (xs := xs.map V.str) (fun i H' => H' D = some (.lst ((List.replicate i true).map V.bl)) ∧ Same H H') ⟨upd_same, same_up nD⟩ (fun i H' _ h => SqT.of (h.2 _ _ e)) ?_ ?_
  · rintro i v H1 hi ⟨eD, s'⟩
    obtain ⟨x, hx, rfl⟩ : ∃ x, x ∈ xs ∧ v = V.str x := by
      have := List.mem_of_getElem? hi
      obtain ⟨x, h1, h2⟩ := List.mem_map.mp this
      exact ⟨x, h1, h2.symm⟩
    refine ⟨rfl, yes_i ⟨_, rfl, x, rfl, hok x hx, fun H2 s2 => ⟨_, s2 _ _ eD, small1000 ?_, ?_, fun b o z => by rw [upd_ne (ne_of_none z nD)]; exact s2 _ _ (s' b o z)⟩⟩⟩
    · have := (List.getElem?_eq_some_iff.mp hi).1
      rw [List.length_map] at this ⊢
      rw [List.length_replicate]
      omega
    · rw [List.replicate_succ', List.map_append]
      exact upd_same
  · rintro H' ⟨eD, s'⟩
    refine ⟨D, _, rfl, SqL.of eD, ?_⟩
    have : (List.replicate (xs.map V.str).length true).all id = true := by simp
    rw [this]
    refine ⟨true, rfl, iteT ⟨_, rfl, p, _, xs.map PyData.str, rfl, SqT.of (s' _ _ e), dpAll_strs xs, by rw [List.length_map]; omega, ?_, fun H2 s2 => q _ (s'.trans s2)⟩⟩
    exact ascD_strs hs hnd
end
end Oo
namespace Oo
open PySem L2 PyProof.Rows
abbrev sFunction : Stmt := top 21
abbrev sFInit : Stmt := inClass sFunction 0
theorem FunD.ok0 {P : Program} {w : World} {K : PySem.W.Frag} {mg : Str → Option Value} {base : Heap} {x qual : Str} {params : Arguments} {body : List Stmt} {scope : Scope} {dvs : List V} {kws : List (Str × V)} {f : Addr} {fd : FuncData} {N ps : List Str} {k : Nat} {sp : Sp} (F : FunD K x qual params body scope dvs kws f fd) (S : FnScope N ps scope) (len : ∀ vs H Q E, sp vs H Q E → vs.length = ps.length)
    (hbody : ∀ (cdv : Value) (A : Around) (outer : List Env) (s : Shared) (H : Hp) (vs : List V) (Q : VK) (E : XK), Room k (A.deeper (envOfC qual scope s.heap.objs.size f cdv)) → sp vs H Q E →
      ∃ t, PSs (cxOf CX0 P w K mg base N qual scope f cdv A outer s H E).nox body t ∧ t { nx := fun _ H' => Q .non H', rt := Q } (start N vs) H) : FnOk P w K mg base CX0 (k + 1) f fd ps sp :=
  L2.FunD.ok F S len fun cdv A outer s H vs Q E hr h => by
    obtain ⟨t, ht, q⟩ := hbody cdv A outer s H vs Q E hr h
    exact ⟨t, ht.nox, q⟩
/-! ### functions -/
structure TxF (K : PySem.W.Frag) (C : Addr) : Prop where
  cl : Cls K C
  nN : NoAttr K C "name"
  nA : NoAttr K C "arguments"
  nR : NoAttr K C "reads"
  nS : NoAttr K C "stores"
/-- a function as an object -/
def FunAt (C : Addr) (H : Hp) (v : V) (fn : Fn) : Prop := ∃ (p dx : Addr) (fs : List (Str × V)) (vr vs : V), v = .ref p ∧ H p = some (.ins C dx fs) ∧ fs.lookup ("name" : Str) = some (.str fn.name) ∧ fs.lookup ("arguments" : Str) = some (.int fn.ar) ∧ fs.lookup ("reads" : Str) = some vr ∧ fs.lookup ("stores" : Str) = some vs ∧ StrsAt H vr fn.rd ∧ StrsAt H vs fn.st
theorem FunAt.keep {C : Addr} {H H' : Hp} {v : V} {fn : Fn} (h : FunAt C H v fn) (s : Same H H') : FunAt C H' v fn := by
  obtain ⟨p, dx, fs, vr, vs, e, h1, h2, h3, h4, h5, h6, h7⟩ := h
  exact ⟨p, dx, fs, vr, vs, e, s _ _ h1, h2, h3, h4, h5, h6.keep (same_t s), h7.keep (same_t s)⟩
/-- all but what stands at p is as it was -/
def But (p : Addr) (H H' : Hp) : Prop := ∀ b o, b ≠ p → H b = some o → H' b = some o
def spFInit (C : Addr) : Sp := fun vs H Q _ => ∃ (p dx : Addr) (fn : Fn) (vr vs' : V), vs = [.ref p, .str fn.name, .int fn.ar, vr, vs'] ∧ H p = some (.ins C dx []) ∧ StrsAt H vr fn.rd ∧ StrsAt H vs' fn.st ∧ FnW fn ∧
  ∀ H', FunAt C H' (.ref p) fn → But p H H' → Q .non H'
theorem plen2 (f g : Str) (u v : V) : (putF f u (putF g v [])).length ≤ 2 := Nat.le_trans (length_putF _ _ _) (Nat.succ_le_succ (length_putF _ _ _))
theorem plen3 (f g h : Str) (u v x : V) : (putF f u (putF g v (putF h x []))).length ≤ 3 := Nat.le_trans (length_putF _ _ _) (Nat.succ_le_succ (plen2 _ _ _ _))
section
variable {P : Program} {w : World} {K : PySem.W.Frag} {mg : Str → Option Value} {base : Heap} {X : Cx}
theorem scFInit : FnScope ["self", "name", "arguments", "reads", "stores"] ["self", "name", "arguments", "reads", "stores"] (defScope sFInit) := ⟨rfl, rfl, rfl, by decide +kernel, rfl, by decide +kernel, by decide +kernel⟩
theorem ok_finit {C f fn fi fl : Addr} {fd fdn fdi fdl : FuncData} {t1 : Tok} {dvs : List V} {kws : List (Str × V)} (F : FunD K "__init__" "Function.__init__" (defArgs sFInit) (defBody sFInit) (defScope sFInit) dvs kws f fd) (T : TxF K C) (mMOST_ARGUMENTS : mg "MOST_ARGUMENTS" = some (.int 3 t1))
    (GN : FnOk P w K mg base CX0 1 fn fdn ["value"] spName) (kN : PySem.W.keepIn K (.ref fn) = true) (bN : Binds K fdn ["value"] []) (mN : mg "is_name" = some (.ref fn))
    (GI : FnOk P w K mg base CX0 1 fi fdi ["value"] spIsInt) (kI : PySem.W.keepIn K (.ref fi) = true) (bI : Binds K fdi ["value"] []) (mI : mg "is_integer" = some (.ref fi))
    (GL : FnOk P w K mg base CX0 2 fl fdl ["value"] spPlaces) (kL : PySem.W.keepIn K (.ref fl) = true) (bL : Binds K fdl ["value"] []) (mL : mg "are_places" = some (.ref fl)) :
    FnOk P w K mg base CX0 3 f fd ["self", "name", "arguments", "reads", "stores"] (spFInit C) := by
  refine FunD.ok0 F scFInit (fun vs H Q E h => ?_) (fun cdv A outer s H vs Q E hr h => ?_)
  · obtain ⟨p, dx, fn, vr, vs', rfl, _⟩ := h
    rfl
  obtain ⟨p, dx, fn, vr, vs', rfl, ep, hR, hS, ⟨w1, w2, w3, w4, w5⟩, q⟩ := h
  have hr1 : Room 1 _ := hr.mono (by decide)
  refine ⟨_, (pss_cons (ps_if (pt_not (pt_val (pe_call GN hr1 rfl mN kN bN .nil pass0 (pa_cons (pv 1) pa_nil)))) (pss_one ps_never) pss_nil)
    (pss_cons (ps_if (PW.pt (pw_or (pt_not (pt_val (pe_call GI hr1 rfl mI kI bI .nil pass0 (pa_cons (pv 2) pa_nil)))) (pw_or1 (pt_not (pt_chain op_le op_le pe_int (pv 2) (pe_globI rfl mMOST_ARGUMENTS)))))) (pss_one ps_never) pss_nil)
    (pss_cons (ps_if (pt_not (pt_val (pe_call GL hr rfl mL kL bL .nil pass0 (pa_cons (pv 3) pa_nil)))) (pss_one ps_never) pss_nil)
    (pss_cons (ps_if (pt_not (pt_val (pe_call GL hr rfl mL kL bL .nil pass0 (pa_cons (pv 4) pa_nil)))) (pss_one ps_never) pss_nil)
    (pss_cons (ps_fld (pv 0) (pv 1) rfl)
    (pss_cons (ps_fld (pv 0) (pv 2) rfl)
    (pss_cons (ps_fld (pv 0) (pv 3) rfl)
    (pss_one (ps_fld (pv 0) (pv 4) rfl))))))))), ?_⟩
  refine ⟨_, rfl, fn.name, rfl, w1, fun H1 s1 => ⟨true, rfl, iteF ?_⟩⟩
  refine ⟨_, rfl, .inl ⟨fn.ar, rfl, true, rfl, iteF ?_⟩⟩
  refine ⟨_, rfl, _, _, rfl, rfl, _, rfl, iteYes w2 ⟨_, _, rfl, rfl, _, rfl, ?_⟩⟩
  rw [decide_eq_true w3]
  refine iteF ?_
  obtain ⟨r, rfl, er⟩ := hR
  obtain ⟨st, rfl, es⟩ := hS
  refine ⟨_, rfl, r, fn.rd, rfl, s1 _ _ er, w4, fun H2 s2 => ⟨true, rfl, iteF ?_⟩⟩
  have s12 := s1.trans s2
  refine ⟨_, rfl, st, fn.st, rfl, s12 _ _ es, w5, fun H3 s3 => ⟨true, rfl, iteF ?_⟩⟩
  have s13 := s12.trans s3
  refine ⟨_, rfl, _, rfl, p, C, dx, _, rfl, s13 _ _ ep, T.cl, T.nN, by simp, ?_⟩
  refine ⟨_, rfl, _, rfl, p, C, dx, _, rfl, upd_same, T.cl, T.nA, by simp [putF], ?_⟩
  refine ⟨_, rfl, _, rfl, p, C, dx, _, rfl, upd_same, T.cl, T.nR, Nat.lt_of_le_of_lt (plen2 _ _ _ _) (by decide), ?_⟩
  refine ⟨_, rfl, _, rfl, p, C, dx, _, rfl, upd_same, T.cl, T.nS, Nat.lt_of_le_of_lt (plen3 _ _ _ _ _ _) (by decide), ?_⟩
  have nr : r ≠ p := fun z => by rw [z] at er; rw [er] at ep; cases ep
  have ns : st ≠ p := fun z => by rw [z] at es; rw [es] at ep; cases ep
  refine q _ ⟨p, dx, _, _, _, rfl, upd_same, ?_, ?_, ?_, ?_, ⟨r, rfl, ?_⟩, ⟨st, rfl, ?_⟩⟩ ?_
  · rw [lookup_putF, if_neg (by decide +kernel), lookup_putF, if_neg (by decide +kernel), lookup_putF, if_neg (by decide +kernel), lookup_putF, if_pos rfl]
  · rw [lookup_putF, if_neg (by decide +kernel), lookup_putF, if_neg (by decide +kernel), lookup_putF, if_pos rfl]
  · rw [lookup_putF, if_neg (by decide +kernel), lookup_putF, if_pos rfl]
  · rw [lookup_putF, if_pos rfl]
  · rw [upd_ne nr, upd_ne nr, upd_ne nr, upd_ne nr]; exact s13 _ _ er
  · rw [upd_ne ns, upd_ne ns, upd_ne ns, upd_ne ns]; exact s13 _ _ es
  · intro b o nb e
    rw [upd_ne nb, upd_ne nb, upd_ne nb, upd_ne nb]; exact s13 _ _ e
end
end Oo
namespace Oo
open PySem L2 PyProof.Rows
abbrev sSame : Stmt := top 22
abbrev pF : List Str := ["self", "name", "arguments", "reads", "stores"]
abbrev kF2 : List Str := ["reads", "stores"]
/-- a new instance and its dict -/
theorem made_same {H : Hp} {C x dx : Addr} (h1 : H x = none) (h2 : H dx = none) : Same H (upd (upd H dx (.own x)) x (.ins C dx [])) := fun b o z => by
  rw [upd_ne (ne_of_none z h1), upd_ne (ne_of_none z h2)]; exact z
theorem but_same {H H1 H' : Hp} {p : Addr} (s : Same H H1) (hp : H p = none) (b : But p H1 H') : Same H H' := fun c o z => b c o (fun e => by rw [e, hp] at z; cases z) (s _ _ z)
def spSame (C : Addr) : Sp := fun vs H Q _ => ∃ v fn, vs = [v] ∧ FunAt C H v fn ∧ FnW fn ∧ ∀ v' H', FunAt C H' v' fn → Same H H' → Q v' H'
section
variable {P : Program} {w : World} {K : PySem.W.Frag} {mg : Str → Option Value} {base : Heap} {X : Cx}
theorem scSame : FnScope ["function"] ["function"] (defScope sSame) := ⟨rfl, rfl, rfl, by decide +kernel, rfl, by decide +kernel, by decide +kernel⟩
theorem ok_same {C f fI : Addr} {fd fdI : FuncData} (F : Fun K "same_function" "same_function" sSame f fd) (T : TxF K C) (MF : Mk K C fI) (mF : mg "Function" = some (.ref C))
    (GI : FnOk P w K mg base CX0 3 fI fdI pF (spFInit C)) (bI : KBn K fdI pF 3 kF2 (fun us ws => us ++ ws) (fun vs zs => vs ++ zs)) :
    FnOk P w K mg base CX0 5 f fd ["function"] (spSame C) := by
  refine F.ok scSame (fun vs H Q E h => ?_) (fun cdv A outer s H vs Q E hr h => ?_)
  · obtain ⟨v, fn, rfl, _⟩ := h
    rfl
  obtain ⟨v, fn, rfl, hf, hw, q⟩ := h
  refine ⟨_, (pss_one (ps_ret (pe_makeK MF GI hr rfl mF bI pass0 (pa_cons (pe_fld (pv 0) rfl) (pa_cons (pe_fld (pv 0) rfl) pa_nil)) (pk_cons (pe_fld (pv 0) rfl) (pk_cons (pe_fld (pv 0) rfl) pk_nil))))), ?_⟩
  obtain ⟨p, dx, fs, vr, vs, rfl, h1, h2, h3, h4, h5, h6, h7⟩ := hf
  refine ⟨_, rfl, p, C, dx, fs, _, rfl, h1, T.cl, T.nN, h2, _, rfl, p, C, dx, fs, _, rfl, h1, T.cl, T.nA, h3, _, rfl, p, C, dx, fs, _, rfl, h1, T.cl, T.nR, h4, _, rfl, p, C, dx, fs, _, rfl, h1, T.cl, T.nS, h5, rfl, rfl, fun x dx' hx hdx hne => ?_⟩
  have s1 := made_same (C := C) hx hdx
  exact ⟨x, dx', fn, vr, vs, rfl, upd_same, h6.keep (same_t s1), h7.keep (same_t s1), hw, fun H' hF hB => ⟨rfl, q _ _ hF (but_same s1 hx hB)⟩⟩
end
end Oo
namespace Oo
open PySem L2 PyProof.Rows LamX StX ClX
abbrev sBook : Stmt := top 23
abbrev sBInit : Stmt := inClass sBook 1
theorem perm_unmap {α β : Type} (f : α → β) {l l' : List β} (p : l.Perm l') : ∀ m' : List α, l' = m'.map f → ∃ m : List α, m.Perm m' ∧ l = m.map f := by
  induction p with
  | nil => intro m' h; exact ⟨m', List.Perm.refl _, h⟩
  | cons x _ ih =>
    intro m' h
    cases m' with
    | nil => cases h
    | cons y r =>
      rw [List.map_cons] at h
      obtain ⟨h1, h2⟩ := List.cons.inj h
      obtain ⟨m, pm, e⟩ := ih r h2
      exact ⟨y :: m, pm.cons y, by rw [List.map_cons, e, h1]⟩
  | swap x y l =>
    intro m' h
    match m', h with
    | a :: b :: r, h =>
      simp only [List.map_cons] at h
      obtain ⟨h1, h2⟩ := List.cons.inj h
      obtain ⟨h2, h3⟩ := List.cons.inj h2
      exact ⟨b :: a :: r, List.Perm.swap _ _ _, by simp [h1, h2, h3]⟩
  | trans _ _ ih1 ih2 =>
    intro m' h
    obtain ⟨m2, p2, e2⟩ := ih2 m' h
    obtain ⟨m1, p1, e1⟩ := ih1 m2 e2
    exact ⟨m1, p1.trans p2, e1⟩
theorem paired_of_mem {α β : Type} {F : α → β → Prop} : ∀ {cs : List (α × β)}, (∀ c ∈ cs, F c.1 c.2) → Paired F (cs.map (·.1)) (cs.map (·.2))
  | [], _ => .nil
  | c :: r, h => .cons (h c List.mem_cons_self) (paired_of_mem fun d hd => h d (List.mem_cons_of_mem _ hd))
theorem paired_zip_mem {α β : Type} {F : α → β → Prop} : ∀ {xs : List α} {ys : List β}, Paired F xs ys → ∀ c ∈ xs.zip ys, F c.1 c.2
  | _, _, .nil, c, h => by cases h
  | _, _, .cons f t, c, h => by
    rw [List.zip_cons_cons] at h
    rcases List.mem_cons.mp h with e | h
    · rw [e]; exact f
    · exact paired_zip_mem t c h
theorem inV_strs (a : Str) (xs : List Str) : inV (.str a) (xs.map V.str) = decide (a ∈ xs) := by
  induction xs with
  | nil => simp [inV]
  | cons x r ih =>
    unfold inV at ih ⊢
    rw [List.map_cons, List.any_cons, ih]
    by_cases h : x = a
    · subst h; simp [eqV]
    · have : ¬ a = x := fun z => h z.symm
      simp [eqV, h, this]
theorem all_flat_strs (xs : List Str) : (xs.map V.str).all flatV = true := by
  induction xs with
  | nil => rfl
  | cons x r ih => rw [List.map_cons, List.all_cons, ih]; rfl
theorem not_tbl_lst {xs : List V} : ∀ ps, HO.lst xs ≠ .tbl ps := fun ps z => by cases z
theorem not_tbl_tup {xs : List V} : ∀ ps, HO.tup xs ≠ .tbl ps := fun ps z => by cases z
theorem not_tbl_ins {C dx : Addr} {fs : List (Str × V)} : ∀ ps, HO.ins C dx fs ≠ .tbl ps := fun ps z => by cases z
theorem StrsAt.keepN {H H' : Hp} {v : V} {xs : List Str} (x : StrsAt H v xs) (h : ExtN H H') : StrsAt H' v xs := x.keep fun q ys z => h _ _ z not_tbl_tup
theorem FunAt.keepN {C : Addr} {H H' : Hp} {v : V} {fn : Fn} (h : FunAt C H v fn) (s : ExtN H H') : FunAt C H' v fn := by
  obtain ⟨p, dx, fs, vr, vs, e, h1, h2, h3, h4, h5, h6, h7⟩ := h
  exact ⟨p, dx, fs, vr, vs, e, s _ _ h1 not_tbl_ins, h2, h3, h4, h5, h6.keepN s, h7.keepN s⟩
theorem same_extN {H H' : Hp} (s : Same H H') : ExtN H H' := ExtN.of s
theorem kitOne_self {K : PySem.W.Frag} {C : Addr} : PySem.W.kitOne K (.ref C) (.ref C) = some true := by
  unfold PySem.W.kitOne
  rw [if_pos (beq_self_eq_true _)]
theorem paired_mapR {α β γ : Type} {F : α → β → Prop} {G : α → γ → Prop} {f : β → γ} (h : ∀ a b, F a b → G a (f b)) : ∀ {xs : List α} {ys : List β}, Paired F xs ys → Paired G xs (ys.map f)
  | _, _, .nil => .nil
  | _, _, .cons a t => .cons (h _ _ a) (paired_mapR h t)
theorem zip_mapR {α β γ : Type} {f : β → γ} : ∀ (xs : List α) (ys : List β), xs.zip (ys.map f) = (xs.zip ys).map fun c => (c.1, f c.2)
  | [], _ => by simp
  | _ :: _, [] => by simp
  | x :: xs, y :: ys => by simp [zip_mapR xs ys]
theorem zipB_snd {α β : Type} : ∀ {xs : List α} {ys : List β}, xs.length = ys.length → (xs.zip ys).map (·.2) = ys
  | [], [], _ => rfl
  | _ :: r, _ :: t, h => by
    simp only [List.zip_cons_cons, List.map_cons]
    rw [zipB_snd (by simpa using h)]
/-- lists apart, all stays -/
theorem FunAt.keepB {C : Addr} {H H' : Hp} {v : V} {fn : Fn} (h : FunAt C H v fn) (s : ∀ b o, H b = some o → (∀ xs, o ≠ .lst xs) → H' b = some o) : FunAt C H' v fn := by
  obtain ⟨p, dx, fs, vr, vs, e, h1, h2, h3, h4, h5, h6, h7⟩ := h
  exact ⟨p, dx, fs, vr, vs, e, s _ _ h1 (fun xs z => by cases z), h2, h3, h4, h5, h6.keep (fun q ys z => s _ _ z fun xs w => by cases w), h7.keep (fun q ys z => s _ _ z fun xs w => by cases w)⟩
theorem FunAt.but {C CB p dx0 : Addr} {H H' : Hp} {v : V} {fn : Fn} (h : FunAt C H v fn) (hp : H p = some (.ins CB dx0 [])) (b : But p H H') : FunAt C H' v fn := by
  obtain ⟨pf, dx, fs, vr, vs, e, h1, h2, h3, h4, h5, h6, h7⟩ := h
  have kt : ∀ q ys, H q = some (.tup ys) → H' q = some (.tup ys) := fun q ys z => b _ _ (fun w => by rw [w, hp] at z; cases z) z
  refine ⟨pf, dx, fs, vr, vs, e, b _ _ (fun w => ?_) h1, h2, h3, h4, h5, h6.keep kt, h7.keep kt⟩
  rw [w, hp] at h1
  cases h1
  cases h2
theorem tabs_but {T : List (Addr × Str)} {CB p dx0 : Addr} {fs : List (Str × V)} {H H' : Hp} (hp : H p = some (.ins CB dx0 fs)) (b : But p H H') (t : Tabs T H) : Tabs T H' := fun q hq => by
  obtain ⟨ps, h1, h2, h3⟩ := t q hq
  refine ⟨ps, b _ _ (fun w => by rw [w, hp] at h1; cases h1) h1, h2, fun pos cv hc => ?_⟩
  obtain ⟨c, e1, e2⟩ := h3 pos cv hc
  exact ⟨c, e1, b _ _ (fun w => by rw [w, hp] at e2; cases e2) e2⟩
/-- a book as an object -/
def BookAt (CF CB : Addr) (H : Hp) (v : V) (fns : List Fn) : Prop := ∃ (b dx : Addr) (fs : List (Str × V)) (tf : Addr) (rows : List V) (fns' : List Fn), v = .ref b ∧ H b = some (.ins CB dx fs) ∧ fs.lookup ("functions" : Str) = some (.ref tf) ∧ H tf = some (.tup rows) ∧ Paired (FunAt CF H) rows fns' ∧ fns'.Perm fns
theorem BookAt.keepN {CF CB : Addr} {H H' : Hp} {v : V} {fns : List Fn} (h : BookAt CF CB H v fns) (s : ExtN H H') : BookAt CF CB H' v fns := by
  obtain ⟨b, dx, fs, tf, rows, fns', e, h1, h2, h3, h4, h5⟩ := h
  exact ⟨b, dx, fs, tf, rows, fns', e, s _ _ h1 not_tbl_ins, h2, s _ _ h3 not_tbl_tup, L2.Paired.mapP h4 fun a b z => z.keepN s, h5⟩
theorem BookAt.keep {CF CB : Addr} {H H' : Hp} {v : V} {fns : List Fn} (h : BookAt CF CB H v fns) (s : Same H H') : BookAt CF CB H' v fns := h.keepN (same_extN s)
structure TxB (K : PySem.W.Frag) (C : Addr) (mc : Value) : Prop where
  cl : Cls K C
  nF : NoAttr K C "functions"
  rd : CRead K C mc
structure TxI (K : PySem.W.Frag) (C : Addr) : Prop where
  ha : PySem.W.findIn K (.ref C) "__class__" = some (some (.builtin "object.__class__"))
  hn : PySem.W.specialIn K (.builtin "object.__class__") "__get__" = some (some (.builtin "getset_descriptor.__get__"))
  htk : PySem.W.takesIn K (.builtin "object.__class__") = some true
  hm : PySem.W.mroIn K C (.type "object") = some true
/-- a def with its code object -/
structure FunC (K : PySem.W.Frag) (x qual : Str) (st : Stmt) (f c : Addr) : Prop where
  ex : ∃ (oc : Value) (od : Option Addr) (kV doc pm : Value) (an : Option Addr) (ct : Value) (osl : Array (Option Value)),
    K.lookup f = some ⟨oc, od, .func (PySem.W.fnOf x qual (defArgs st) (defBody st) (defScope st) .none kV doc pm an (.ref c) ct), osl⟩ ∧ PySem.W.codeIn K (.ref c) qual = true
def spBInit (T : List (Addr × Str)) (CF CB : Addr) : Sp := fun vs H Q _ => ∃ (p dx t : Addr) (rows : List V) (fns : List Fn), vs = [.ref p, .ref t] ∧ H p = some (.ins CB dx []) ∧ H t = some (.tup rows) ∧ Paired (FunAt CF H) rows fns ∧ (∀ f ∈ fns, FnW f) ∧ (fns.map (·.name)).Nodup ∧ fns.length ≤ 6 ∧ Tabs T H ∧
  ∀ H', BookAt CF CB H' (.ref p) fns → Tabs T H' → (∀ b o, b ≠ p → H b = some o → (∀ ps, o ≠ .tbl ps) → H' b = some o) → Q .non H'
def spStar1 (sp : Sp) : Sp := fun vs H Q E => ∃ ws rest, vs = ws ++ rest ∧ ws.length = 1 ∧ rest.length ≤ sizeLine ∧ ∀ p, H p = Option.none → sp (ws ++ [V.ref p]) (upd H p (.tup rest)) Q E
section
variable {P : Program} {w : World} {K : PySem.W.Frag} {mg : Str → Option Value} {base : Heap} {X : Cx}
theorem scBInit : FnScope ["self", "functions", "seen", "at", "function", "ordered", "one"] ["self", "functions"] (defScope sBInit) := ⟨rfl, rfl, rfl, by decide +kernel, rfl, by decide +kernel, by decide +kernel⟩
theorem ok_binit {T : List (Addr × Str)} {CF CB f fs c PT : Addr} {fdS : FuncData} {mc u6 : Value} (F : FunC K "__init__" "Book.__init__" sBInit f c) (TF' : TxF K CF) (TI : TxI K CF) (TB' : TxB K CB mc) (mF : mg "Function" = some (.ref CF)) (mB : mg "Book" = some (.ref CB))
    (cM : CVal K CB mc "MOST" (.int 6) u6) (men : mg "enumerate" = none) (mis : mg "isinstance" = none) (ml : mg "len" = none) (ms : mg "sorted" = none) (mt : mg "tuple" = none)
    (TB : TabB base mg c PT) (hmT : (PT, ("Book.__init__" : Str) ++ ".<locals>." ++ "<lambda>") ∈ T) (huT : ∀ p ∈ T, p.1 = PT → p.2 = ("Book.__init__" : Str) ++ ".<locals>." ++ "<lambda>")
    (GS : FnOk P w K mg base CX0 5 fs fdS ["function"] (spSame CF)) (kS : PySem.W.keepIn K (.ref fs) = true) (bS : Binds K fdS ["function"] []) (mS : mg "same_function" = some (.ref fs)) :
    FnR P w K mg base CX0 6 f (spStar1 (spBInit T CF CB)) := by
  obtain ⟨oc, od, kV, doc, pm, an, ct, osl, lk, hcd⟩ := F.ex
  refine fn_star (ps := ["self"]) (pv := "functions") lk hcd scBInit cxUp_none (fun us rest hl => bind_star1 (B := fun us => bindArgs (PySem.W.fnOf "__init__" "Book.__init__" (defArgs sBInit) (defBody sBInit) (defScope sBInit) .none kV doc pm an (.ref c) ct) ⟨us, []⟩) (fun a => by rfl) (fun a r rs => by rfl) us rest hl) fun A outer s H vs Q E hr h => ?_
  obtain ⟨p, dx, t, rows, fns, rfl, ep, et, pr, hW, hnd, hl6, hT, q⟩ := h
  suffices ∃ t', PSs (cxOf CX0 P w K mg base ["self", "functions", "seen", "at", "function", "ordered", "one"] "Book.__init__" (defScope sBInit) f (.ref c) A outer s H E).nox (defBody sBInit) t' ∧ t' { nx := fun _ H' => Q .non H', rt := Q } (start ["self", "functions", "seen", "at", "function", "ordered", "one"] [V.ref p, V.ref t]) H by
    obtain ⟨t', ht, q⟩ := this
    exact ⟨t', ht.nox, q⟩
  refine ⟨_, (pss_cons (ps_set (i := 2) scBInit.nd rfl (.inl rfl) (pe_lst pa_nil))
    (pss_cons (ps_for PassesOwn.never rfl (pi_enumT (by rfl) men (pa_cons (pv 1) pa_nil)) (pg_tup rfl (pgs_cons (pg_name (i := 3) scBInit.nd rfl (Or.inl rfl)) (pgs_cons (pg_name (i := 4) scBInit.nd rfl (Or.inl rfl)) pgs_nil))) (pss_cons (ps_if (PW.pt (pw_or (pt_not (pt_val (pe_callB call_isi (by rfl) mis boot_isinstance (pa_cons (pv 4) (pa_cons (pe_globD rfl mF) pa_nil))))) (pw_or1 (pt_cmpR op_in_seq (pe_fld (pv 4) rfl) (pv 2) (by rfl))))) (pss_one ps_never) pss_nil)
    (pss_one (ps_expr (pe_bm PySem.F.plainAttrs_list PySem.F.slot_list_append PySem.F.type_list_append mt_append (pv 2) (pa_cons (pe_fld (pv 4) rfl) pa_nil))))))
    (pss_cons (ps_if (pt_cmpR op_gt (pe_callB call_len_seq (by rfl) ml PySem.boot_len (pa_cons (pv 1) pa_nil)) (pe_cval (pe_globD rfl mB)) (nomark _)) (pss_one ps_never) pss_nil)
    (pss_cons (ps_set (i := 5) scBInit.nd rfl (.inl rfl) (pe_sortedF (by rfl) ms (pa_cons (pv 1) pa_nil) hr TB rfl hmT huT rfl rfl rfl rfl rfl (fun _ _ _ _ _ => rfl) TF'.cl TF'.nN rfl (fun _ => rfl)))
    (pss_one (ps_fld (pv 0) (pe_tupleOf (by rfl) mt (pe_lc (own := [("one", 6)]) (g := gName 6) (tt := tYes) (by rfl) scBInit.nd (pi_list (pv 5)) (blkOk_by (own := [("one", 6)]) (N := ["self", "functions", "seen", "at", "function", "ordered", "one"]) (sc := defScope sBInit) (by decide +kernel)) (fun _ _ _ _ _ => (pg_name (i := 6) scBInit.nd rfl (Or.inl rfl))) (fun _ _ _ _ _ => pts_nil) (fun _ _ _ _ _ => (pe_call GS hr rfl mS kS bS .nil pass0 (pa_cons (pv 6) pa_nil))))) rfl)))))), ?_⟩
  have hrl : rows.length = fns.length := pr.length
  refine ⟨sz (by show 0 ≤ 1000; decide), fun sl nsl => ?_⟩
  have s0 := same_up (o := .lst []) nsl
  refine ⟨_, rfl, t, rows, rfl, SqT.of (s0 _ _ et), ?_⟩
  refine for_it walk_enumU (fun i σ H' => ∃ (x y : Option V), σ = [some (.ref p), some (.ref t), some (.ref sl), x, y, none, none] ∧ H' sl = some (.lst (((fns.take i).map (·.name)).map V.str)) ∧ Same H H')
    ⟨none, none, rfl, upd_same, s0⟩ (fun i σ H' _ ⟨_, _, _, _, z⟩ => SqT.of (z _ _ et)) ?_ ?_
  · rintro i x σ H2 H3 hi ⟨x0, y0, rfl, el, s2⟩ ⟨TT, x', y', rfl, nT, rfl, hx, hy⟩
    have sT := same_up (o := .tup [x', y']) nT
    have s3 := s2.trans sT
    obtain ⟨fn, hfn, hf⟩ := paired_get pr hy
    have hil : i < fns.length := (List.getElem?_eq_some_iff.mp hfn).1
    have efn : fns[i] = fn := (List.getElem?_eq_some_iff.mp hfn).2
    obtain ⟨pf, dxf, fsf, vr, vs, rfl, h1, h2, h3, h4, h5, h6, h7⟩ := hf.keep s3
    have el3 := sT _ _ el
    have nin : ¬ fn.name ∈ (fns.take i).map (·.name) := by
      intro hm
      obtain ⟨g, hg, eg⟩ := List.mem_map.mp hm
      obtain ⟨j, hj, ej⟩ := List.getElem_of_mem hg
      rw [List.length_take] at hj
      rw [List.getElem_take] at ej
      have := (List.nodup_iff_pairwise_ne.mp hnd)
      rw [List.pairwise_iff_getElem] at this
      have h9 := this j i (by rw [List.length_map]; omega) (by rw [List.length_map]; omega) (by omega)
      simp only [List.getElem_map] at h9
      rw [ej, efn] at h9
      exact h9 eg
    refine ⟨TT, _, rfl, SqT.of upd_same, rfl, _, _, rfl, _, _, rfl, rfl, ?_⟩
    refine ⟨_, rfl, _, _, _, _, true, rfl, .own CF, .base (.ins h1 TF'.cl TI.ha TI.hn TI.htk TI.hm), kitOne_self, true, rfl, iteF ?_⟩
    refine ⟨_, rfl, pf, CF, dxf, fsf, _, rfl, h1, TF'.cl, TF'.nN, h2, _, rfl, sl, _, rfl, .inl (SqL.of el3), rfl, all_flat_strs _, _, rfl, ?_⟩
    simp only [Bool.false_eq_true, if_false]
    rw [inV_strs, decide_eq_false nin]
    refine iteF ⟨_, rfl, .inl ⟨rfl, _, SqL.of el3⟩, _, rfl, pf, CF, dxf, fsf, _, rfl, h1, TF'.cl, TF'.nN, h2, sl, _, _, rfl, rfl, el3, small1000 ?_, ?_⟩
    · rw [List.length_map, List.length_map, List.length_take]; omega
    · refine ⟨_, _, rfl, ?_, fun b o z => ?_⟩
      · rw [take_succ_get fns i hil, List.map_append, List.map_append, efn]
        exact upd_same
      · rw [upd_ne (ne_of_none z nsl)]
        exact s3 _ _ z
  · rintro σ H2 ⟨x0, y0, rfl, el, s2⟩
    refine ⟨_, rfl, t, rows, rfl, .inr (SqT.of (s2 _ _ et)), CB, mc, _, u6, rfl, TB'.rd, cM, _, _, rfl, rfl, _, rfl, iteNo (by omega) ?_⟩
    have pr2 := L2.Paired.mapP pr fun a b z => z.keep s2
    refine ⟨_, rfl, Tabs.ext hT s2, t, rows, fns.map (·.name), rfl, SqT.of (s2 _ _ et), ?_, by omega, fun H3 bs ql eN T3 nq perm pw => ?_⟩
    · exact paired_mapR (fun a b ⟨pf, dxf, fsf, vr, vs, e, h1, h2, _⟩ => ⟨pf, dxf, fsf, e, h1, h2⟩) pr2
    have ez : rows.zip (fns.map (·.name)) = (rows.zip fns).map fun c => (c.1, c.2.name) := zip_mapR rows fns
    rw [ez] at perm
    obtain ⟨cs, pcs, ecs⟩ := perm_unmap _ perm _ rfl
    have eb1 : bs.map (·.1) = cs.map (·.1) := by rw [ecs, List.map_map]; rfl
    have hpf : (cs.map (·.2)).Perm fns := by
      have := pcs.map (·.2)
      rwa [zipB_snd hrl] at this
    have e23 : ExtN H H3 := (same_extN s2).trans eN
    have prc : Paired (FunAt CF H3) (cs.map (·.1)) (cs.map (·.2)) := paired_of_mem fun c hc => (paired_zip_mem pr c (pcs.mem_iff.mp hc)).keepN e23
    have hcl : cs.length ≤ 6 := by rw [pcs.length_eq, List.length_zip]; omega
    rw [eb1]
    generalize cs.map (·.1) = rs at prc
    generalize cs.map (·.2) = fns' at prc hpf
    have hrs : rs.length ≤ 6 := by rw [prc.length, hpf.length_eq]; exact hl6
    have sq4 := same_up (o := .lst rs) nq
    refine ⟨_, rfl, ql, rfl, ⟨_, SqL.of upd_same⟩, fun D nD => ?_⟩
    refine lc_list (K := K) (a := ql) (xs := rs) (fun i H' => ∃ acc, H' D = some (.lst acc) ∧ Paired (FunAt CF H') acc (fns'.take i) ∧ H' ql = some (.lst rs) ∧ Same H3 H')
      ⟨[], upd_same, .nil, same_up nD _ _ upd_same, sq4.trans (same_up nD)⟩ (fun i H' _ ⟨_, _, _, z, _⟩ => SqL.of z) ?_ ?_
    · rintro i v H5 hi ⟨acc, eD, pa, eq, s5⟩
      obtain ⟨fn, hfn, hf⟩ := paired_get prc hi
      have hil : i < fns'.length := (List.getElem?_eq_some_iff.mp hfn).1
      have efn : fns'[i] = fn := (List.getElem?_eq_some_iff.mp hfn).2
      have hfm : fn ∈ fns' := List.mem_of_getElem? hfn
      refine ⟨rfl, yes_i ⟨_, rfl, v, fn, rfl, hf.keep s5, hW fn (hpf.mem_iff.mp hfm), fun v' H6 hf6 s6 => ?_⟩⟩
      have hacc : acc.length ≤ 6 := by
        rw [pa.length, List.length_take]
        have := prc.length
        omega
      have hD3 : H3 D = none := sq4.free nD
      have ku : ∀ b o, H6 b = some o → b ≠ D → (upd H6 D (.lst (acc ++ [v']))) b = some o := fun b o z n => by rw [upd_ne n]; exact z
      have eD6 := s6 _ _ eD
      have kf : ∀ u g, FunAt CF H6 u g → FunAt CF (upd H6 D (.lst (acc ++ [v']))) u g := fun u g z => z.keepB (fun b o e n1 => ku b o e fun z => by rw [z, eD6] at e; exact n1 _ (Option.some.inj e).symm)
      refine ⟨acc, eD6, small1000 (by omega), acc ++ [v'], upd_same, ?_, ?_, ?_⟩
      · rw [take_succ_get fns' i hil, efn]
        exact paired_append (L2.Paired.mapP pa fun a b z => kf a b (z.keep s6)) (.cons (kf _ _ hf6) .nil)
      · have : ql ≠ D := ne_of_none (o := .lst rs) upd_same nD
        rw [upd_ne this]; exact s6 _ _ eq
      · intro b o z
        rw [upd_ne (ne_of_none z hD3)]; exact s6 _ _ (s5 _ _ z)
    · rintro H5 ⟨acc, eD, pa, eq, s5⟩
      rw [prc.length, List.take_length] at pa
      refine .inl ⟨D, acc, rfl, SqL.of eD, fun tf ntf => ?_⟩
      have s6 := s5.trans (same_up (o := .tup acc) ntf)
      have ep6 := s6 _ _ (e23 _ _ ep not_tbl_ins)
      refine ⟨_, rfl, p, CB, dx, [], rfl, ep6, TB'.cl, TB'.nF, by simp, ?_⟩
      have hbut : But p (upd H5 tf (.tup acc)) (upd (upd H5 tf (.tup acc)) p (.ins CB dx (putF "functions" (.ref tf) []))) := fun b o n z => by rw [upd_ne n]; exact z
      refine q _ ⟨p, dx, _, tf, acc, fns', rfl, upd_same, ?_, ?_, L2.Paired.mapP pa fun a b z => (z.keep (same_up ntf)).but ep6 hbut, hpf⟩ (tabs_but ep6 hbut (Tabs.ext T3 s6)) ?_
      · rw [lookup_putF, if_pos rfl]
      · exact hbut _ _ (fun z => by rw [z] at ntf; rw [s5 _ _ (e23 _ _ ep not_tbl_ins)] at ntf; cases ntf) upd_same
      · intro b o n z nt
        exact hbut b o n (s6 _ _ (e23 _ _ z nt))
end
end Oo
namespace Oo
open PySem L2 PyProof.Rows LamX StX ClX
abbrev sBNames : Stmt := inClass sBook 2
abbrev sBGet : Stmt := inClass sBook 3
abbrev sBCont : Stmt := inClass sBook 4
def teFName (CF : Addr) : TE := fun σ H Q => ∃ v fn, σ[1]? = some (some v) ∧ FunAt CF H v fn ∧ Q (.str fn.name) H
def spBNames (CF CB : Addr) : Sp := fun vs H Q _ => ∃ v fns, vs = [v] ∧ BookAt CF CB H v fns ∧ fns.length ≤ 6 ∧ ∀ (q : Addr) (ns : List Str) (H' : Hp), H' q = some (.tup (ns.map V.str)) → ns.Perm (fns.map (·.name)) → Same H H' → Q (.ref q) H'
def spBCont (CF CB : Addr) : Sp := fun vs H Q _ => ∃ v x fns, vs = [v, .str x] ∧ BookAt CF CB H v fns ∧ fns.length ≤ 6 ∧ ∀ H', Same H H' → Q (.bl (decide (x ∈ fns.map (·.name)))) H'
def spBGet (CF CB : Addr) : Sp := fun vs H Q _ => ∃ v fn fns, vs = [v, .str fn.name] ∧ BookAt CF CB H v fns ∧ fns.length ≤ 6 ∧ fn ∈ fns ∧ (fns.map (·.name)).Nodup ∧ (∀ f ∈ fns, FnW f) ∧ ∀ v' H', FunAt CF H' v' fn → Same H H' → Q v' H'
theorem nodup_name {fns : List Fn} (h : (fns.map (·.name)).Nodup) {f g : Fn} (hf : f ∈ fns) (hg : g ∈ fns) (e : f.name = g.name) : f = g := by
  induction fns with
  | nil => cases hf
  | cons a r ih =>
    rw [List.map_cons, List.nodup_cons] at h
    rcases List.mem_cons.mp hf with e1 | hf'
    · rcases List.mem_cons.mp hg with e2 | hg'
      · rw [e1, e2]
      · exact absurd (show a.name ∈ r.map (·.name) from List.mem_map.mpr ⟨g, hg', by rw [← e, e1]⟩) h.1
    · rcases List.mem_cons.mp hg with e2 | hg'
      · exact absurd (show a.name ∈ r.map (·.name) from List.mem_map.mpr ⟨f, hf', by rw [e, e2]⟩) h.1
      · exact ih h.2 hf' hg'
section
variable {P : Program} {w : World} {K : PySem.W.Frag} {mg : Str → Option Value} {base : Heap} {X : Cx}
theorem scBNames : FnScope ["self", "function"] ["self"] (defScope sBNames) := ⟨rfl, rfl, rfl, by decide +kernel, rfl, by decide +kernel, by decide +kernel⟩
theorem ok_bnames {CF CB f : Addr} {fd : FuncData} {mc : Value} (F : Fun K "names" "Book.names" sBNames f fd) (TF' : TxF K CF) (TB' : TxB K CB mc) (mt : mg "tuple" = none) : FnOk P w K mg base CX0 1 f fd ["self"] (spBNames CF CB) := by
  refine F.ok scBNames (fun vs H Q E h => ?_) (fun cdv A outer s H vs Q E hr h => ?_)
  · obtain ⟨v, fns, rfl, _⟩ := h
    rfl
  obtain ⟨v, fns, rfl, ⟨b, dx, fs, tf, rows, fns', rfl, h1, h2, h3, h4, h5⟩, hl, q⟩ := h
  refine ⟨_, (pss_one (ps_ret (pe_tupleOf (by rfl) mt (pe_lc (own := [("function", 1)]) (g := gName 1) (tt := tYes) (by rfl) scBNames.nd (pi_tup (pe_fld (pv 0) rfl)) (blkOk_by (own := [("function", 1)]) (N := ["self", "function"]) (sc := defScope sBNames) (by decide +kernel)) (fun _ _ _ _ _ => (pg_name (i := 1) scBNames.nd rfl (Or.inl rfl))) (fun _ _ _ _ _ => pts_nil) (fun _ _ _ _ _ => (pe_as (t' := teFName CF) (pe_fld (pv 1) rfl) ?c1)))))), ?_⟩
  case c1 =>
    rintro σ H Q ⟨v, fn, e1, ⟨pf, dxf, fsf, vr, vs, rfl, g1, g2, _⟩, q⟩
    exact ⟨_, e1, pf, CF, dxf, fsf, _, rfl, g1, TF'.cl, TF'.nN, g2, q⟩
  have hrl : rows.length ≤ 6 := by rw [h4.length, h5.length_eq]; exact hl
  refine ⟨_, rfl, b, CB, dx, fs, _, rfl, h1, TB'.cl, TB'.nF, h2, tf, rfl, ⟨_, SqT.of h3⟩, fun D nD => ?_⟩
  refine lc_tup (K := K) (a := tf) (xs := rows) (fun i H' => H' D = some (.lst (((fns'.take i).map (·.name)).map V.str)) ∧ Same H H') ⟨upd_same, same_up nD⟩ (fun i H' _ h => SqT.of (h.2 _ _ h3)) ?_ ?_
  · rintro i v H1 hi ⟨eD, s'⟩
    obtain ⟨fn, hfn, hf⟩ := paired_get h4 hi
    have hil : i < fns'.length := (List.getElem?_eq_some_iff.mp hfn).1
    have efn : fns'[i] = fn := (List.getElem?_eq_some_iff.mp hfn).2
    refine ⟨rfl, yes_i ⟨v, fn, rfl, hf.keep s', _, eD, small1000 ?_, ?_, fun b o z => by rw [upd_ne (ne_of_none z nD)]; exact s' b o z⟩⟩
    · rw [List.length_map, List.length_map, List.length_take]
      have := h4.length
      omega
    · rw [take_succ_get fns' i hil, List.map_append, List.map_append, efn]
      exact upd_same
  · rintro H' ⟨eD, s'⟩
    rw [h4.length, List.take_length] at eD
    refine .inl ⟨D, _, rfl, SqL.of eD, fun q' nq => ?_⟩
    exact q q' (fns'.map (·.name)) _ upd_same (h5.map _) (s'.trans (same_up nq))
theorem scBCont : FnScope ["self", "x"] ["self", "x"] (defScope sBCont) := ⟨rfl, rfl, rfl, by decide +kernel, rfl, by decide +kernel, by decide +kernel⟩
theorem ok_bcont {CF CB f fn pn : Addr} {fd fdn : FuncData} {mc : Value} (F : Fun K "__contains__" "Book.__contains__" sBCont f fd) (TB' : TxB K CB mc) (PN : PropOf K CB "names" pn fn)
    (GN : FnOk P w K mg base CX0 1 fn fdn ["self"] (spBNames CF CB)) (bN : Binds K fdn ["self"] []) : FnOk P w K mg base CX0 3 f fd ["self", "x"] (spBCont CF CB) := by
  refine F.ok scBCont (fun vs H Q E h => ?_) (fun cdv A outer s H vs Q E hr h => ?_)
  · obtain ⟨v, x, fns, rfl, _⟩ := h
    rfl
  obtain ⟨v, x, fns, rfl, hB, hl, q⟩ := h
  refine ⟨_, (pss_one (ps_ret (pe_cmpR op_in_seq (pv 1) (pe_prop (pv 0) TB'.cl PN GN hr bN .nil pass0 rfl) (by rfl)))), ?_⟩
  obtain ⟨b, dx, fs, tf, rows, fns', rfl, h1, h2, h3, h4, h5⟩ := id hB
  refine ⟨_, rfl, _, rfl, b, dx, fs, rfl, h1, _, fns, rfl, hB, hl, fun q' ns H' e pm s' => ?_⟩
  refine ⟨q', _, rfl, .inr (SqT.of e), rfl, all_flat_strs _, ?_⟩
  simp only [Bool.false_eq_true, if_false]
  rw [inV_strs]
  have : decide (x ∈ ns) = decide (x ∈ fns.map (·.name)) := by
    by_cases hx : x ∈ ns
    · rw [decide_eq_true hx, decide_eq_true (pm.mem_iff.mp hx)]
    · rw [decide_eq_false hx, decide_eq_false fun z => hx (pm.mem_iff.mpr z)]
  rw [this]
  exact q _ s'
theorem scBGet : FnScope ["self", "at", "function"] ["self", "at"] (defScope sBGet) := ⟨rfl, rfl, rfl, by decide +kernel, rfl, by decide +kernel, by decide +kernel⟩
theorem ok_bget {CF CB f fs : Addr} {fd fdS : FuncData} {mc : Value} (F : Fun K "__getitem__" "Book.__getitem__" sBGet f fd) (TF' : TxF K CF) (TB' : TxB K CB mc)
    (GS : FnOk P w K mg base CX0 5 fs fdS ["function"] (spSame CF)) (kS : PySem.W.keepIn K (.ref fs) = true) (bS : Binds K fdS ["function"] []) (mS : mg "same_function" = some (.ref fs)) : FnOk P w K mg base CX0 6 f fd ["self", "at"] (spBGet CF CB) := by
  refine F.ok scBGet (fun vs H Q E h => ?_) (fun cdv A outer s H vs Q E hr h => ?_)
  · obtain ⟨v, fn, fns, rfl, _⟩ := h
    rfl
  obtain ⟨v, fn, fns, rfl, ⟨b, dx, fs', tf, rows, fns', rfl, h1, h2, h3, h4, h5⟩, hl, hm, hnd, hW, q⟩ := h
  refine ⟨_, (pss_cons (ps_for PassesOwn.never rfl (pi_tup (pe_fld (pv 0) rfl)) (pg_name (i := 2) scBGet.nd rfl (Or.inl rfl)) (pss_one (ps_if (pt_cmpR op_eq (pe_fld (pv 2) rfl) (pv 1) (nomark _)) (pss_one (ps_ret (pe_call GS hr rfl mS kS bS .nil pass0 (pa_cons (pv 2) pa_nil)))) pss_nil)))
    (pss_one ps_never)), ?_⟩
  refine ⟨_, rfl, b, CB, dx, fs', _, rfl, h1, TB'.cl, TB'.nF, h2, tf, rfl, ⟨_, SqT.of h3⟩, ?_⟩
  refine for_tup (K := K) (a := tf) (xs := rows) (fun i σ H' => ∃ x, σ = [some (.ref b), some (.str fn.name), x] ∧ H' = H ∧ ∀ g ∈ fns'.take i, g.name ≠ fn.name) ⟨none, rfl, rfl, by simp⟩ (fun i σ H' _ ⟨_, _, e, _⟩ => by rw [e]; exact SqT.of h3) ?_ ?_
  · rintro i v σ H1 hi ⟨x, rfl, rfl, hno⟩
    obtain ⟨g, hg, hf⟩ := paired_get h4 hi
    have hil : i < fns'.length := (List.getElem?_eq_some_iff.mp hg).1
    have eg : fns'[i] = g := (List.getElem?_eq_some_iff.mp hg).2
    have hgm : g ∈ fns := h5.mem_iff.mp (List.mem_of_getElem? hg)
    obtain ⟨pf, dxf, fsf, vr, vs, rfl, g1, g2, _⟩ := id hf
    refine ⟨_, rfl, pf, CF, dxf, fsf, _, rfl, g1, TF'.cl, TF'.nN, g2, _, rfl, rfl, _, rfl, ?_⟩
    rw [dec_str]
    by_cases hn : g.name = fn.name
    · have : g = fn := nodup_name hnd hgm hm hn
      subst this
      refine iteYes rfl ⟨_, rfl, _, g, rfl, hf, hW g hgm, fun v' H' a b => q v' H' a b⟩
    · refine iteNo hn ⟨_, rfl, rfl, fun g' hg' => ?_⟩
      rw [take_succ_get fns' i hil, eg] at hg'
      rcases List.mem_append.mp hg' with h | h
      · exact hno g' h
      · rw [List.mem_singleton.mp h]; exact hn
  · rintro σ H1 ⟨x, rfl, rfl, hno⟩
    rw [h4.length, List.take_length] at hno
    exact hno fn (h5.mem_iff.mpr hm) rfl
end
end Oo
namespace Oo
open PySem L2 PyProof.Rows LamX StX ClX
/-! ### d.get(k, x), d written -/
def tKGet2 (K : PySem.W.Frag) (w : World) (td ty tx : TE) : TE := fun σ H Q => td σ H fun x H1 => ∃ a, x = .ref a ∧ (∃ es n, K.lookup a = some ⟨.type "dict", none, .dict es n, #[]⟩ ∧ PySem.W.KeysLit w.params es.toList) ∧ (a == sysModules) = false ∧
  ty σ H1 fun y H2 => tx σ H2 fun z H3 => ∃ k, y = .str k ∧ ((∃ v, KDct K w a k v ∧ Q v H3) ∨ (KMiss K w a k ∧ Q z H3))
theorem pe_kget2 {X : Cx} {o e f : Expr} {apos cpos : Pos} {td ty tx : TE} (ho : PE X o td) (he : PE X e ty) (hf : PE X f tx) (m : M2 X o "get" apos e f cpos) : PE X (.Call (.Attribute o "get" apos) [e, f] [] cpos) (tKGet2 X.K X.w td ty tx) := by
  refine ⟨fun pins s σ H Q I h => ?_⟩
  refine wpAny_Call_method m.base m.few m.line PySem.F.plainAttrs_dict PySem.F.slot_dict_get PySem.F.type_dict_get (thn (ho.run pins s σ H _ I h) fun u s1 ⟨x, H1, I1, rx, a, ex, ⟨es, n, hl, hk⟩, hd, q1⟩ => ?_)
  subst ex
  obtain rfl : u = Value.ref a := rx
  have hm := PySem.W.mapOf_K (prog := X.prog) (w := X.w) I1.kIn hl hk
  refine ⟨hm.typeIs, fun b q => ?_, ?_⟩
  · cases q
    exact ⟨_, I1.kIn _ _ hl, rfl⟩
  rw [m.trees]
  refine Calls.callWith_builtin rfl (Calls.evalArgs_plain (Calls.spliced_cons (thn (he.run pins s1 σ H1 _ I1 q1) fun iv s2 ⟨y, H2, I2, ry, q2⟩ =>
    Calls.spliced_cons (thn (hf.run pins s2 σ H2 _ I2 q2) fun fv s3 ⟨z, H3, I3, rz, k, ey, q3⟩ => Calls.spliced_nil ?_))))
  subst ey
  obtain ⟨t, rfl⟩ := (show ∃ t, iv = Value.str k t from ry)
  have hm3 := PySem.W.mapOf_K (prog := X.prog) (w := X.w) I3.kIn hl hk
  refine call_meetsIn PySem.F.slot_dict_get hm3.typeIs PySem.F.entry_dict_get (PySem.F.args_dict_get_3 _ _ _) (meets_dict_get_default (strKind X.prog X.w) a (strKind_is X.prog X.w k t) hd fv) ⟨_, hm3, ?_⟩
  rcases q3 with ⟨v, ⟨es', n', u0, hl', hk', e', ru⟩, q⟩ | ⟨⟨es', n', hl', hk', low, e'⟩, q⟩
  · rw [PySem.W.find_K hl e']
    exact ⟨v, H3, I3.tok _, ru, q⟩
  · rw [PySem.W.find_K hl e']
    exact ⟨z, H3, I3.tok _, rz, q⟩
/-! ### forms -/
abbrev sForm : Stmt := top 31
abbrev sChange : Stmt := top 32
abbrev sIsCall : Stmt := top 33
abbrev sOps : Stmt := top 34
def kdLen : Kd → Int
  | .read _ => 2 | .store _ => 3 | .step _ _ _ => 4 | .op _ => 4 | .call _ => 3 | .thn => 3 | .and_ => 3 | .or_ => 3 | .cho => 4
def kdFirst : Kd → Int
  | .read _ => 2 | .store _ => 2 | .step _ _ _ => 4 | .op _ => 2 | _ => 1
/-- the tables of the module -/
structure TxE (K : PySem.W.Frag) (w : World) (dL dF aS : Addr) : Prop where
  len : ∀ k : Kd, KDct K w dL k.word (.int (kdLen k))
  low : (dL == sysModules) = false
  fst : ∀ k : Kd, k.isCall = false → KDct K w dF k.word (.int (kdFirst k))
  sgn : ∀ H, SqT K H aS (signs.map V.str)
structure BkW (fns : List Fn) : Prop where
  l : fns.length ≤ 3
  nd : (fns.map (·.name)).Nodup
  ok : ∀ f ∈ fns, FnW f
theorem KitW.bk {ps : List Str} {fns : List Fn} (h : KitW ps fns) : BkW fns := ⟨h.fl, h.fnd, h.fok⟩
def spChange : Sp := fun vs H Q _ => ∃ b, vs = [.int b] ∧ (b = 1 ∨ b = -1) ∧ ∀ H', Same H H' → Q (.bl true) H'
def spIsCall (CF CB : Addr) : Sp := fun vs H Q _ => ∃ vb f q ws fns, vs = [vb, .str f, .ref q] ∧ BookAt CF CB H vb fns ∧ BkW fns ∧ H q = some (.tup ws) ∧ (∃ fn ∈ fns, fn.name = f ∧ fn.ar = (ws.length : Int)) ∧ ∀ H', Same H H' → Q (.bl true) H'
def spForm (CF CB : Addr) : Sp := fun vs H Q _ => ∃ vb v e ps fns, vs = [vb, v] ∧ BookAt CF CB H vb fns ∧ KitW ps fns ∧ InE H e v ∧ ExW ps fns e ∧ ∀ H', Same H H' → Q (.bl true) H'
section
variable {P : Program} {w : World} {K : PySem.W.Frag} {mg : Str → Option Value} {base : Heap} {X : Cx}
theorem scChange : FnScope ["value"] ["value"] (defScope sChange) := ⟨rfl, rfl, rfl, by decide +kernel, rfl, by decide +kernel, by decide +kernel⟩
theorem ok_change {f fi : Addr} {fd fdi : FuncData} (F : Fun K "is_change" "is_change" sChange f fd)
    (GI : FnOk P w K mg base CX0 1 fi fdi ["value"] spIsInt) (kI : PySem.W.keepIn K (.ref fi) = true) (bI : Binds K fdi ["value"] []) (mI : mg "is_integer" = some (.ref fi)) : FnOk P w K mg base CX0 2 f fd ["value"] spChange := by
  refine F.ok scChange (fun vs H Q E h => ?_) (fun cdv A outer s H vs Q E hr h => ?_)
  · obtain ⟨b, rfl, _⟩ := h
    rfl
  obtain ⟨b, rfl, hb, q⟩ := h
  refine ⟨_, (pss_one (ps_ret (pe_and (pe_call GI hr rfl mI kI bI .nil pass0 (pa_cons (pv 0) pa_nil)) (pe_one (pe_cmpR op_in_seq (pv 0) (pe_tup (pa_cons pe_int (pa_cons (pe_un un_neg pe_int) pa_nil))) (by rfl)))))), ?_⟩
  refine ⟨_, rfl, .inl ⟨b, rfl, true, rfl, iteT ?_⟩⟩
  refine ⟨_, rfl, _, rfl, sz (by show 2 ≤ 1000; decide), fun t nt => ⟨t, _, rfl, .inr (SqT.of upd_same), rfl, rfl, ?_⟩⟩
  simp only [Bool.false_eq_true, if_false]
  have : inV (.int b) [.int 1, .int (-1)] = true := by
    rcases hb with rfl | rfl <;> rfl
  rw [this]
  exact q _ (same_up nt)
theorem scIsCall : FnScope ["book", "name", "arguments"] ["book", "name", "arguments"] (defScope sIsCall) := ⟨rfl, rfl, rfl, by decide +kernel, rfl, by decide +kernel, by decide +kernel⟩
theorem ok_iscall {CF CB f fc fg : Addr} {fd fdc fdg : FuncData} (F : Fun K "is_call" "is_call" sIsCall f fd) (TF' : TxF K CF) (mt : mg "tuple" = none) (mis : mg "isinstance" = none) (ml : mg "len" = none)
    (GC : FnOk P w K mg base CX0 3 fc fdc ["self", "x"] (spBCont CF CB)) (DC : Dun K CB "__contains__" fc) (bC : Binds K fdc ["self", "x"] [])
    (GG : FnOk P w K mg base CX0 6 fg fdg ["self", "at"] (spBGet CF CB)) (DG : Dun K CB "__getitem__" fg) (fnG : PySem.W.fnIn K fg = true) (bG : Binds K fdg ["self", "at"] []) : FnOk P w K mg base CX0 8 f fd ["book", "name", "arguments"] (spIsCall CF CB) := by
  refine F.ok scIsCall (fun vs H Q E h => ?_) (fun cdv A outer s H vs Q E hr h => ?_)
  · obtain ⟨vb, f, q, ws, fns, rfl, _⟩ := h
    rfl
  obtain ⟨vb, f', q', ws, fns, rfl, hB, hW, eq, ⟨fn, hfn, rfl, har⟩, q⟩ := h
  have hr3 : Room 3 _ := hr.mono (by decide)
  refine ⟨_, (pss_one (ps_ret (pe_and (pe_cmpR (op_inO GC hr3 DC bC pass0) (pv 1) (pv 0) (by rfl)) (pe_and (pe_callB call_isi (by rfl) mis boot_isinstance (pa_cons (pv 2) (pa_cons (pe_bltn (v := .ty "tuple") (by rfl) mt (by decide +kernel) rfl) pa_nil))) (pe_one (pe_cmpR op_eq (pe_callB call_len_seq (by rfl) ml PySem.boot_len (pa_cons (pv 2) pa_nil)) (pe_fld (pe_ixO GG hr DG fnG bG pass0 (pv 0) (pv 1)) rfl) (nomark _))))))), ?_⟩
  obtain ⟨b, dx, fs, tf, rows, fns', rfl, h1, h2, h3, h4, h5⟩ := id hB
  have hl6 : fns.length ≤ 6 := Nat.le_trans hW.l (by decide)
  refine ⟨_, rfl, _, rfl, b, dx, fs, rfl, h1, _, fn.name, fns, rfl, hB, hl6, fun H1 s1 => ?_⟩
  rw [decide_eq_true (show fn.name ∈ fns.map (·.name) from List.mem_map.mpr ⟨fn, hfn, rfl⟩)]
  refine ⟨true, rfl, true, rfl, iteT ?_⟩
  refine ⟨_, rfl, _, _, _, _, true, rfl, .ty "tuple", .base (.tup (s1 _ _ eq)), kit_ty (by decide +kernel), true, rfl, iteT ?_⟩
  refine ⟨_, rfl, q', ws, rfl, .inr (SqT.of (s1 _ _ eq)), _, rfl, _, rfl, b, dx, fs, rfl, s1 _ _ h1, _, fn, fns, rfl, hB.keep s1, hl6, hfn, hW.nd, hW.ok, fun v' H2 hf s2 => ?_⟩
  obtain ⟨pf, dxf, fsf, vr, vs, rfl, g1, g2, g3, _⟩ := hf
  refine ⟨pf, CF, dxf, fsf, _, rfl, g1, TF'.cl, TF'.nA, g3, rfl, ?_⟩
  rw [har, decide_eq_true rfl]
  exact q _ (s1.trans s2)
end
end Oo
namespace Oo
open PySem L2 PyProof.Rows LamX StX ClX
def Kd.isRSt : Kd → Bool
  | .read _ => true | .store _ => true | _ => false
theorem word_rst (k : Kd) : inV (.str k.word) [.str "read", .str "store"] = k.isRSt := by
  cases k <;> (simp only [Kd.word, Kd.isRSt]; decide +kernel)
theorem inV_when {w : Str} (h : w = "before" ∨ w = "after") : inV (.str w) [.str "before", .str "after"] = true := by
  rcases h with rfl | rfl <;> decide +kernel
theorem InEs.len {H : Hp} {es : List Ex} {vs : List V} (h : InEs H es vs) : vs.length = es.length := h.length
/-- the tuple of a node, its first item apart -/
theorem NodeAt.full {H : Hp} {p : Addr} {k : Kd} {vs : List V} {ps : List Str} {fns : List Fn} (n : NodeAt H p k vs) (h : KdW ps fns k vs.length) : ∃ tl : List V, H p = some (.tup (.str k.word :: tl)) ∧ ((tl.length + 1 : Nat) : Int) = kdLen k := by
  cases k with
  | call f =>
    obtain ⟨q, h1, _⟩ := n
    exact ⟨_, h1, rfl⟩
  | read x => exact match vs, h, n with | [], _, n => ⟨_, n, rfl⟩
  | store x => exact match vs, h, n with | [_], _, n => ⟨_, n, rfl⟩
  | step x b w => exact match vs, h, n with | [], _, n => ⟨_, n, rfl⟩
  | op s => exact match vs, h, n with | [_, _], _, n => ⟨_, n, rfl⟩
  | thn => exact match vs, h, n with | [_, _], _, n => ⟨_, n, rfl⟩
  | and_ => exact match vs, h, n with | [_, _], _, n => ⟨_, n, rfl⟩
  | or_ => exact match vs, h, n with | [_, _], _, n => ⟨_, n, rfl⟩
  | cho => exact match vs, h, n with | [_, _, _], _, n => ⟨_, n, rfl⟩
section
variable {P : Program} {w : World} {K : PySem.W.Frag} {mg : Str → Option Value} {base : Heap} {X : Cx}
theorem scForm : FnScope ["book", "value"] ["book", "value"] (defScope sForm) := ⟨rfl, rfl, rfl, by decide +kernel, rfl, by decide +kernel, by decide +kernel⟩
theorem ok_form {CF CB f fi fn fh fc dL dF aS : Addr} {fd fdi fdn fdh fdc : FuncData} {t1 : Tok} (F : Fun K "is_form" "is_form" sForm f fd) (TE' : TxE K w dL dF aS) (mt : mg "tuple" = none) (mst : mg "str" = none) (mis : mg "isinstance" = none) (ml : mg "len" = none) (mLARGEST : mg "LARGEST" = some (.int 999999 t1)) (mLENGTHS : mg "LENGTHS" = some (.ref dL)) (mSIGNS : mg "SIGNS" = some (.ref aS))
    (GI : FnOk P w K mg base CX0 1 fi fdi ["value"] spIsInt) (kI : PySem.W.keepIn K (.ref fi) = true) (bI : Binds K fdi ["value"] []) (mI : mg "is_integer" = some (.ref fi))
    (GN : FnOk P w K mg base CX0 1 fn fdn ["value"] spName) (kN : PySem.W.keepIn K (.ref fn) = true) (bN : Binds K fdn ["value"] []) (mN : mg "is_name" = some (.ref fn))
    (GH : FnOk P w K mg base CX0 2 fh fdh ["value"] spChange) (kH : PySem.W.keepIn K (.ref fh) = true) (bH : Binds K fdh ["value"] []) (mH : mg "is_change" = some (.ref fh))
    (GC : FnOk P w K mg base CX0 8 fc fdc ["book", "name", "arguments"] (spIsCall CF CB)) (kC : PySem.W.keepIn K (.ref fc) = true) (bC : Binds K fdc ["book", "name", "arguments"] []) (mC : mg "is_call" = some (.ref fc)) :
    FnOk P w K mg base CX0 9 f fd ["book", "value"] (spForm CF CB) := by
  refine F.ok scForm (fun vs H Q E h => ?_) (fun cdv A outer s H vs Q E hr h => ?_)
  · obtain ⟨vb, v, e, ps, fns, rfl, _⟩ := h
    rfl
  obtain ⟨vb, v, e, ps, fns, rfl, hB, kw, ie, ew, q⟩ := h
  have hr1 : Room 1 _ := hr.mono (by decide)
  have hr2 : Room 2 _ := hr.mono (by decide)
  refine ⟨_, (pss_cons (ps_if (pt_val (pe_call GI hr1 rfl mI kI bI .nil pass0 (pa_cons (pv 1) pa_nil))) (pss_one (ps_ret (pe_chain op_le op_le pe_int (pv 1) (pe_globI rfl mLARGEST)))) pss_nil)
    (pss_cons (ps_if (PW.pt (pw_or (pt_not (pt_val (pe_callB call_isi (by rfl) mis boot_isinstance (pa_cons (pv 1) (pa_cons (pe_bltn (v := .ty "tuple") (by rfl) mt (by decide +kernel) rfl) pa_nil))))) (pw_or (pt_cmpR op_eq (pe_callB call_len_seq (by rfl) ml PySem.boot_len (pa_cons (pv 1) pa_nil)) pe_int (nomark _)) (pw_or1 (pt_not (pt_val (pe_callB call_isi (by rfl) mis boot_isinstance (pa_cons (pe_ix ix_tup (pv 1) pe_int (fun _ _ => rfl)) (pa_cons (pe_bltn (v := .ty "str") (by rfl) mst (by decide +kernel) rfl) pa_nil))))))))) (pss_one (ps_ret pe_bl)) pss_nil)
    (pss_cons (ps_if (pt_cmpR op_ne (pe_kget2 (pe_globD rfl mLENGTHS) (pe_ix ix_tup (pv 1) pe_int (fun _ _ => rfl)) pe_int ⟨rfl, rfl, rfl, rfl⟩) (pe_callB call_len_seq (by rfl) ml PySem.boot_len (pa_cons (pv 1) pa_nil)) (nomark _)) (pss_one (ps_ret pe_bl)) pss_nil)
    (pss_cons (ps_if (pt_cmpR op_in_seq (pe_ix ix_tup (pv 1) pe_int (fun _ _ => rfl)) (pe_tup (pa_cons pe_str (pa_cons pe_str pa_nil))) (by rfl)) (pss_one (ps_ret (pe_call GN hr1 rfl mN kN bN .nil pass0 (pa_cons (pe_ix ix_tup (pv 1) pe_int (fun _ _ => rfl)) pa_nil)))) pss_nil)
    (pss_cons (ps_if (pt_cmpR op_eq (pe_ix ix_tup (pv 1) pe_int (fun _ _ => rfl)) pe_str (nomark _)) (pss_one (ps_ret (pe_and (pe_call GN hr1 rfl mN kN bN .nil pass0 (pa_cons (pe_ix ix_tup (pv 1) pe_int (fun _ _ => rfl)) pa_nil)) (pe_and (pe_call GH hr2 rfl mH kH bH .nil pass0 (pa_cons (pe_ix ix_tup (pv 1) pe_int (fun _ _ => rfl)) pa_nil)) (pe_one (pe_cmpR op_in_seq (pe_ix ix_tup (pv 1) pe_int (fun _ _ => rfl)) (pe_tup (pa_cons pe_str (pa_cons pe_str pa_nil))) (by rfl))))))) pss_nil)
    (pss_cons (ps_if (pt_cmpR op_eq (pe_ix ix_tup (pv 1) pe_int (fun _ _ => rfl)) pe_str (nomark _)) (pss_one (ps_ret (pe_cmpR op_in_seq (pe_ix ix_tup (pv 1) pe_int (fun _ _ => rfl)) (pe_globD rfl mSIGNS) (by rfl)))) pss_nil)
    (pss_cons (ps_if (pt_cmpR op_eq (pe_ix ix_tup (pv 1) pe_int (fun _ _ => rfl)) pe_str (nomark _)) (pss_one (ps_ret (pe_call GC hr rfl mC kC bC .nil pass0 (pa_cons (pv 0) (pa_cons (pe_ix ix_tup (pv 1) pe_int (fun _ _ => rfl)) (pa_cons (pe_ix ix_tup (pv 1) pe_int (fun _ _ => rfl)) pa_nil)))))) pss_nil)
    (pss_one (ps_ret pe_bl))))))))), ?_⟩
  cases e with
  | num n =>
    unfold InE at ie
    subst ie
    unfold ExW at ew
    refine ⟨_, rfl, .inl ⟨n, rfl, true, rfl, iteT ?_⟩⟩
    refine ⟨_, rfl, _, _, rfl, rfl, _, rfl, ?_⟩
    rw [decide_eq_true ew.1]
    refine iteT ⟨_, _, rfl, rfl, ?_⟩
    show Q (V.bl (decide (n ≤ 999999))) H
    rw [decide_eq_true ew.2]
    exact q H (Same.refl H)
  | nd k os =>
    unfold InE at ie
    obtain ⟨p, ws, rfl, ios, na⟩ := ie
    unfold ExW at ew
    have hwl := ios.length
    obtain ⟨tl, ht, hlen⟩ := na.full (by rw [hwl]; exact ew.1)
    refine ⟨_, rfl, .inr ⟨p, _, rfl, ht, false, rfl, iteF ?_⟩⟩
    refine ⟨_, rfl, _, _, _, _, true, rfl, .ty "tuple", .base (.tup ht), kit_ty (by decide +kernel), true, rfl, iteF ?_⟩
    refine ⟨_, rfl, p, _, rfl, .inr (SqT.of ht), rfl, _, rfl, iteNo (fun z => by have := V.int.inj z; rw [List.length_cons] at this; omega) ?_⟩
    refine ⟨_, rfl, p, _, _, _, rfl, rfl, SqT.of ht, at0 _ _, _, _, _, _, true, rfl, .ty "str", .base (.str _), kit_ty (by decide +kernel), true, rfl, iteF ?_⟩
    obtain ⟨es, n', u0, hl', hk', e', ru⟩ := TE'.len k
    refine ⟨dL, rfl, ⟨es, n', hl', hk'⟩, TE'.low, _, rfl, p, _, _, _, rfl, rfl, SqT.of ht, at0 _ _, k.word, rfl, .inl ⟨_, TE'.len k, _, rfl, p, _, rfl, .inr (SqT.of ht), rfl, _, rfl, iteNS ?_ ?_⟩⟩
    · rw [List.length_cons, hlen]
    refine ⟨_, rfl, p, _, _, _, rfl, rfl, SqT.of ht, at0 _ _, sz (by show 2 ≤ 1000; decide), fun t1 n1 => ⟨t1, _, rfl, .inr (SqT.of upd_same), rfl, rfl, _, rfl, ?_⟩⟩
    have s1 := same_up (o := .tup [.str "read", .str "store"]) n1
    simp only [Bool.false_eq_true, if_false]
    rw [word_rst]
    have hkw := ew.1
    rw [← hwl] at hkw
    have ht3 := s1 _ _ ht
    have na3 := na.keep (same_t s1)
    have hB3 := hB.keep s1
    cases k with
    | read x =>
      refine iteT ?_
      match ws, hkw, na3 with
      | [], hkw, na3 => exact ⟨_, rfl, p, _, _, _, rfl, rfl, SqT.of na3, at1 _ _ _, x, rfl, kw.pok x hkw, fun H' s' => q H' (s1.trans s')⟩
    | store x =>
      refine iteT ?_
      match ws, hkw, na3 with
      | [v], hkw, na3 => exact ⟨_, rfl, p, _, _, _, rfl, rfl, SqT.of na3, at1 _ _ _, x, rfl, kw.pok x hkw, fun H' s' => q H' (s1.trans s')⟩
    | step x b wh =>
      refine iteF ?_
      refine ⟨_, rfl, p, _, _, _, rfl, rfl, SqT.of ht3, at0 _ _, rfl, _, rfl, iteYes rfl ?_⟩
      match ws, hkw, na3 with
      | [], hkw, na3 =>
        have na4 : (upd H t1 (.tup [.str "read", .str "store"])) p = some (.tup [.str "step", .str x, .int b, .str wh]) := na3
        refine ⟨_, rfl, p, _, _, _, rfl, rfl, SqT.of na4, at1 _ _ _, x, rfl, kw.pok x hkw.1, fun H2 s2 => ⟨true, rfl, iteT ?_⟩⟩
        refine ⟨_, rfl, p, _, _, _, rfl, rfl, SqT.of (s2 _ _ na4), (rfl : atI [V.str "step", .str x, .int b, .str wh] 2 = some (.int b)), b, rfl, hkw.2.1, fun H3 s3 => ⟨true, rfl, iteT ?_⟩⟩
        refine ⟨_, rfl, p, _, _, _, rfl, rfl, SqT.of (s3 _ _ (s2 _ _ na4)), (rfl : atI [V.str "step", .str x, .int b, .str wh] 3 = some (.str wh)), sz (by show 2 ≤ 1000; decide), fun t2 n2 => ⟨t2, _, rfl, .inr (SqT.of upd_same), rfl, rfl, ?_⟩⟩
        simp only [Bool.false_eq_true, if_false]
        rw [inV_when hkw.2.2]
        exact q _ (((s1.trans s2).trans s3).trans (same_up n2))
    | op sg =>
      refine iteF ?_
      refine ⟨_, rfl, p, _, _, _, rfl, rfl, SqT.of ht3, at0 _ _, rfl, _, rfl, iteNo (by simp only [Kd.word]; decide +kernel) ?_⟩
      refine ⟨_, rfl, p, _, _, _, rfl, rfl, SqT.of ht3, at0 _ _, rfl, _, rfl, iteYes rfl ?_⟩
      match ws, hkw, na3 with
      | [_, _], hkw, na3 =>
        refine ⟨_, rfl, p, _, _, _, rfl, rfl, SqT.of na3, at1 _ _ _, aS, _, rfl, .inr (TE'.sgn _), rfl, all_flat_strs _, ?_⟩
        simp only [Bool.false_eq_true, if_false]
        rw [inV_strs, decide_eq_true (show sg ∈ signs from hkw)]
        exact q _ s1
    | call f =>
      refine iteF ?_
      refine ⟨_, rfl, p, _, _, _, rfl, rfl, SqT.of ht3, at0 _ _, rfl, _, rfl, iteNo (by simp only [Kd.word]; decide +kernel) ?_⟩
      refine ⟨_, rfl, p, _, _, _, rfl, rfl, SqT.of ht3, at0 _ _, rfl, _, rfl, iteNo (by simp only [Kd.word]; decide +kernel) ?_⟩
      refine ⟨_, rfl, p, _, _, _, rfl, rfl, SqT.of ht3, at0 _ _, rfl, _, rfl, iteYes rfl ?_⟩
      obtain ⟨qa, h1, h2⟩ := na3
      refine ⟨_, rfl, _, rfl, p, _, _, _, rfl, rfl, SqT.of h1, at1 _ _ _, _, rfl, p, _, _, _, rfl, rfl, SqT.of h1, (rfl : atI [V.str "call", .str f, .ref qa] 2 = some (.ref qa)), vb, f, qa, ws, fns, rfl, hB3, kw.bk, h2, ?_, fun H' s' => q H' (s1.trans s')⟩
      simp only [KdW] at hkw
      exact hkw
    | thn =>
      refine iteF ?_
      refine ⟨_, rfl, p, _, _, _, rfl, rfl, SqT.of ht3, at0 _ _, rfl, _, rfl, iteNo (by simp only [Kd.word]; decide +kernel) ?_⟩
      refine ⟨_, rfl, p, _, _, _, rfl, rfl, SqT.of ht3, at0 _ _, rfl, _, rfl, iteNo (by simp only [Kd.word]; decide +kernel) ?_⟩
      refine ⟨_, rfl, p, _, _, _, rfl, rfl, SqT.of ht3, at0 _ _, rfl, _, rfl, iteNo (by simp only [Kd.word]; decide +kernel) ?_⟩
      exact q _ s1
    | and_ =>
      refine iteF ?_
      refine ⟨_, rfl, p, _, _, _, rfl, rfl, SqT.of ht3, at0 _ _, rfl, _, rfl, iteNo (by simp only [Kd.word]; decide +kernel) ?_⟩
      refine ⟨_, rfl, p, _, _, _, rfl, rfl, SqT.of ht3, at0 _ _, rfl, _, rfl, iteNo (by simp only [Kd.word]; decide +kernel) ?_⟩
      refine ⟨_, rfl, p, _, _, _, rfl, rfl, SqT.of ht3, at0 _ _, rfl, _, rfl, iteNo (by simp only [Kd.word]; decide +kernel) ?_⟩
      exact q _ s1
    | or_ =>
      refine iteF ?_
      refine ⟨_, rfl, p, _, _, _, rfl, rfl, SqT.of ht3, at0 _ _, rfl, _, rfl, iteNo (by simp only [Kd.word]; decide +kernel) ?_⟩
      refine ⟨_, rfl, p, _, _, _, rfl, rfl, SqT.of ht3, at0 _ _, rfl, _, rfl, iteNo (by simp only [Kd.word]; decide +kernel) ?_⟩
      refine ⟨_, rfl, p, _, _, _, rfl, rfl, SqT.of ht3, at0 _ _, rfl, _, rfl, iteNo (by simp only [Kd.word]; decide +kernel) ?_⟩
      exact q _ s1
    | cho =>
      refine iteF ?_
      refine ⟨_, rfl, p, _, _, _, rfl, rfl, SqT.of ht3, at0 _ _, rfl, _, rfl, iteNo (by simp only [Kd.word]; decide +kernel) ?_⟩
      refine ⟨_, rfl, p, _, _, _, rfl, rfl, SqT.of ht3, at0 _ _, rfl, _, rfl, iteNo (by simp only [Kd.word]; decide +kernel) ?_⟩
      refine ⟨_, rfl, p, _, _, _, rfl, rfl, SqT.of ht3, at0 _ _, rfl, _, rfl, iteNo (by simp only [Kd.word]; decide +kernel) ?_⟩
      exact q _ s1
end
end Oo
namespace Oo
open PySem L2 PyProof.Rows LamX StX ClX
theorem cut_head (a r : List V) : cutV (a ++ r) (some (a.length : Int)) none = r := by
  have h : ¬ ((a.length : Int) < 0) := by omega
  unfold cutV
  simp [HT.sIx, h]
theorem Kd.head_len (k : Kd) (h : k.isCall = false) : kdFirst k = (k.head.length : Int) := by
  cases k <;> first | rfl | cases h
theorem NodeAt.plain {H : Hp} {p : Addr} {k : Kd} {vs : List V} (n : NodeAt H p k vs) (h : k.isCall = false) : H p = some (.tup (k.head ++ vs)) := by
  cases k <;> first | exact n | cases h
theorem Kd.head_cons (k : Kd) : ∃ r, k.head = .str k.word :: r := by
  cases k <;> exact ⟨_, rfl⟩
section
variable {P : Program} {w : World} {K : PySem.W.Frag} {mg : Str → Option Value} {base : Heap} {X : Cx}
theorem scOps : FnScope ["node"] ["node"] (defScope sOps) := ⟨rfl, rfl, rfl, by decide +kernel, rfl, by decide +kernel, by decide +kernel⟩
theorem ok_ops {f fi dL dF aS : Addr} {fd fdi : FuncData} (F : Fun K "operands" "operands" sOps f fd) (TE' : TxE K w dL dF aS) (mFIRST_OPERANDS : mg "FIRST_OPERANDS" = some (.ref dF))
    (GI : FnOk P w K mg base CX0 1 fi fdi ["value"] spIsInt) (kI : PySem.W.keepIn K (.ref fi) = true) (bI : Binds K fdi ["value"] []) (mI : mg "is_integer" = some (.ref fi)) : FnOk P w K mg base CX0 2 f fd ["node"] spOperands := by
  refine F.ok scOps (fun vs H Q E h => ?_) (fun cdv A outer s H vs Q E hr h => ?_)
  · obtain ⟨v, e, rfl, _⟩ := h
    rfl
  obtain ⟨v, e, rfl, ie, hw, q⟩ := h
  refine ⟨_, (pss_cons (ps_if (pt_val (pe_call GI hr rfl mI kI bI .nil pass0 (pa_cons (pv 0) pa_nil))) (pss_one (ps_ret (pe_tup pa_nil))) pss_nil)
    (pss_cons (ps_if (pt_cmpR op_eq (pe_ix ix_tup (pv 0) pe_int (fun _ _ => rfl)) pe_str (nomark _)) (pss_one (ps_ret (pe_ix ix_tup (pv 0) pe_int (fun _ _ => rfl)))) pss_nil)
    (pss_one (ps_ret (pe_slice sl_tup (pv 0) (po_some (pe_ix ix_kdict (pe_globD rfl mFIRST_OPERANDS) (pe_ix ix_tup (pv 0) pe_int (fun _ _ => rfl)) (fun _ _ => rfl))) po_none))))), ?_⟩
  cases e with
  | num n =>
    unfold InE at ie
    subst ie
    refine ⟨_, rfl, .inl ⟨n, rfl, true, rfl, iteT ⟨sz (by decide), fun p hp => ?_⟩⟩⟩
    exact q p [] _ upd_same .nil (same_up hp)
  | nd k os =>
    unfold InE at ie
    obtain ⟨p, ws, rfl, ios, na⟩ := ie
    obtain ⟨tl, ht⟩ := na.tup
    refine ⟨_, rfl, .inr ⟨p, _, rfl, ht, false, rfl, iteF ?_⟩⟩
    refine ⟨_, rfl, p, _, _, _, rfl, rfl, SqT.of ht, at0 _ _, rfl, _, rfl, ?_⟩
    rw [word_call]
    cases hc : k.isCall with
    | true =>
      cases k with
      | call f =>
        obtain ⟨qa, h1, h2⟩ := na
        refine iteT ⟨_, rfl, p, _, _, _, rfl, rfl, SqT.of h1, (rfl : atI [V.str "call", .str f, .ref qa] 2 = some (.ref qa)), ?_⟩
        exact q qa ws _ h2 ios (Same.refl _)
      | _ => cases hc
    | false =>
      have na' := na.plain hc
      obtain ⟨r, hr'⟩ := k.head_cons
      refine iteF ⟨_, rfl, _, rfl, p, _, _, _, rfl, rfl, SqT.of ht, at0 _ _, dF, k.word, _, rfl, rfl, TE'.fst k hc, ?_⟩
      refine ⟨_, rfl, p, _, rfl, SqT.of na', ?_, fun t4 n4 => ?_⟩
      · rintro ⟨z, _⟩
        rw [k.head_len hc] at z
        have := HT.sIx_nat (k.head ++ ws).length 0 k.head.length
        have z' := this.symm.trans z
        rw [List.length_append, hr'] at z'
        simp at z'
      · rw [k.head_len hc, cut_head]
        exact q t4 ws _ upd_same (ios.keep (same_t (same_up n4))) (same_up n4)
end
end Oo
namespace Oo
open PySem L2 PyProof.Rows LamX StX ClX
abbrev sNodesOf : Stmt := top 35
/-! ### all nodes of an expression by a list of those that wait -/
def kids : List Ex → List Nat → Nat → List (List Nat × Ex)
  | [], _, _ => []
  | e :: r, p, j => (p ++ [j], e) :: kids r p (j + 1)
theorem kids_len : ∀ (os : List Ex) (p : List Nat) (j : Nat), (kids os p j).length = os.length
  | [], _, _ => rfl
  | _ :: r, p, j => by rw [kids, List.length_cons, List.length_cons, kids_len r p (j + 1)]
theorem kids_append : ∀ (a b : List Ex) (p : List Nat) (j : Nat), kids (a ++ b) p j = kids a p j ++ kids b p (j + a.length)
  | [], b, p, j => by simp [kids]
  | e :: r, b, p, j => by
    show kids (e :: (r ++ b)) p j = _
    simp only [kids, kids_append r b p (j + 1), List.length_cons, List.cons_append]
    congr 3
    omega
theorem kids_snoc (os : List Ex) (p : List Nat) (i : Nat) (h : i < os.length) : kids (os.take (i + 1)) p 0 = kids (os.take i) p 0 ++ [(p ++ [i], os[i])] := by
  have hl : (os.take i).length = i := by rw [List.length_take]; omega
  rw [take_succ_get os i h, kids_append]
  simp [kids, hl]
theorem kids_pre : ∀ (os : List Ex) (p : List Nat) (j : Nat), (kids os p j).flatMap (fun x => x.2.pre x.1) = Ex.pres os p j
  | [], _, _ => by simp [kids, Ex.pres]
  | e :: r, p, j => by simp [kids, Ex.pres, kids_pre r p (j + 1)]
theorem kids_mem : ∀ (os : List Ex) (p : List Nat) (j : Nat), ∀ x ∈ kids os p j, x.2 ∈ os ∧ x.1.length = p.length + 1
  | [], _, _, x, h => by cases h
  | e :: r, p, j, x, h => by
    rw [kids] at h
    rcases List.mem_cons.mp h with rfl | h
    · exact ⟨List.mem_cons_self, by simp⟩
    · obtain ⟨h1, h2⟩ := kids_mem r p (j + 1) x h
      exact ⟨List.mem_cons_of_mem _ h1, h2⟩
theorem depth_mem : ∀ (os : List Ex) (e : Ex), e ∈ os → e.depth ≤ Ex.depths os
  | x :: r, e, h => by
    rcases List.mem_cons.mp h with h | h
    · rw [h]; simp [Ex.depths]; omega
    · have := depth_mem r e h
      simp only [Ex.depths]
      omega
theorem exWs_mem {ps : List Str} {fns : List Fn} : ∀ (os : List Ex) (e : Ex), ExWs ps fns os → e ∈ os → ExW ps fns e
  | x :: r, e, h, hm => by
    unfold ExWs at h
    rcases List.mem_cons.mp hm with e1 | hm
    · rw [e1]; exact h.1
    · exact exWs_mem r e h.2 hm
def nsum (st : List (List Nat × Ex)) : Nat := (st.map fun x => x.2.nodes).sum
theorem nsum_append (a b : List (List Nat × Ex)) : nsum (a ++ b) = nsum a + nsum b := by simp [nsum]
theorem nsum_kids : ∀ (os : List Ex) (p : List Nat) (j : Nat), nsum (kids os p j) = Ex.nodess os
  | [], _, _ => by simp [kids, nsum, Ex.nodess]
  | e :: r, p, j => by
    have := nsum_kids r p (j + 1)
    simp only [nsum] at this
    simp [kids, nsum, Ex.nodess, this]
theorem nsum_rev (a : List (List Nat × Ex)) : nsum a.reverse = nsum a := by simp [nsum, List.sum_reverse]
theorem nodes_pos (e : Ex) : 1 ≤ e.nodes := by
  have := nodes_ops e
  omega
theorem nsum_len : ∀ (a : List (List Nat × Ex)), a.length ≤ nsum a
  | [] => by simp [nsum]
  | x :: r => by
    have := nsum_len r
    have := nodes_pos x.2
    simp only [nsum, List.map_cons, List.sum_cons, List.length_cons] at *
    omega
theorem paired_snoc_inv {α β : Type} {F : α → β → Prop} : ∀ {ys : List β} {y : β} {xs : List α}, Paired F xs (ys ++ [y]) → ∃ xs' x, xs = xs' ++ [x] ∧ Paired F xs' ys ∧ F x y
  | [], y, _, .cons f .nil => ⟨[], _, rfl, .nil, f⟩
  | z :: ys, y, _, .cons f t => by
    obtain ⟨xs', x, e, p, g⟩ := paired_snoc_inv (ys := ys) t
    exact ⟨_ :: xs', x, by rw [e]; rfl, .cons f p, g⟩
theorem paired_reverse {α β : Type} {F : α → β → Prop} : ∀ {xs : List α} {ys : List β}, Paired F xs ys → Paired F xs.reverse ys.reverse
  | _, _, .nil => .nil
  | _, _, .cons f t => by
    rw [List.reverse_cons, List.reverse_cons]
    exact paired_append (paired_reverse t) (.cons f .nil)
def teBelow : TE := fun σ H Q => ∃ (pa : Addr) (i : Nat) (v : V) (p : List Nat) (e : Ex), σ[4]? = some (some (.ref pa)) ∧ σ[7]? = some (some (.int (i : Int))) ∧ σ[8]? = some (some v) ∧ H pa = some (.tup (pv_ p)) ∧ p.length ≤ 100 ∧ InE H e v ∧ ∀ u H', Same H H' → RowN H' u (p ++ [i], e) → Q u H'
def spNodesOf (CF CB : Addr) : Sp := fun vs H Q _ => ∃ (vb v : V) (e : Ex) (ps : List Str) (fns : List Fn), vs = [vb, v] ∧ BookAt CF CB H vb fns ∧ KitW ps fns ∧ InE H e v ∧ ExW ps fns e ∧ e.depth ≤ 80 ∧ e.nodes ≤ 900 ∧
  ∀ (l : Addr) (rows : List V) (H' : Hp), H l = none → H' l = some (.lst rows) → Paired (RowN H') rows (e.pre []) → Same H H' → Q (.ref l) H'
section
variable {P : Program} {w : World} {K : PySem.W.Frag} {mg : Str → Option Value} {base : Heap} {X : Cx}
theorem scNodesOf : FnScope ["book", "value", "rows", "waiting", "path", "node", "below", "at", "operand"] ["book", "value"] (defScope sNodesOf) := ⟨rfl, rfl, rfl, by decide +kernel, rfl, by decide +kernel, by decide +kernel⟩
theorem ok_nodesof {CF CB f ff fp : Addr} {fd fdf fdp : FuncData} (F : Fun K "nodes_of" "nodes_of" sNodesOf f fd) (men : mg "enumerate" = none) (ml : mg "len" = none)
    (GF : FnOk P w K mg base CX0 9 ff fdf ["book", "value"] (spForm CF CB)) (kF : PySem.W.keepIn K (.ref ff) = true) (bF : Binds K fdf ["book", "value"] []) (mF : mg "is_form" = some (.ref ff))
    (GP : FnOk P w K mg base CX0 2 fp fdp ["node"] spOperands) (kP : PySem.W.keepIn K (.ref fp) = true) (bP : Binds K fdp ["node"] []) (mP : mg "operands" = some (.ref fp)) :
    FnOk P w K mg base CX0 10 f fd ["book", "value"] (spNodesOf CF CB) := by
  refine F.ok scNodesOf (fun vs H Q E h => ?_) (fun cdv A outer s H vs Q E hr h => ?_)
  · obtain ⟨vb, v, e, ps, fns, rfl, _⟩ := h
    rfl
  obtain ⟨vb, v, e, ps, fns, rfl, hB, kw, ie, ew, hd, hn, q⟩ := h
  have hr2 : Room 2 _ := hr.mono (by decide)
  refine ⟨_, (pss_cons (ps_set (i := 2) scNodesOf.nd rfl (.inl rfl) (pe_lst pa_nil))
    (pss_cons (ps_set (i := 3) scNodesOf.nd rfl (.inl rfl) (pe_lst (pa_cons (pe_tup (pa_cons (pe_tup pa_nil) (pa_cons (pv 1) pa_nil))) pa_nil)))
    (pss_cons (ps_while PassesOwn.never (pt_cmpR op_gt (pe_callB call_len_seq (by rfl) ml PySem.boot_len (pa_cons (pv 3) pa_nil)) pe_int (nomark _)) (pss_cons (ps_asg (pe_bm0 PySem.F.plainAttrs_list PySem.F.slot_list_pop PySem.F.type_list_pop mt_pop (pv 3)) (pg_tup rfl (pgs_cons (pg_name (i := 4) scNodesOf.nd rfl (Or.inr rfl)) (pgs_cons (pg_name (i := 5) scNodesOf.nd rfl (Or.inl rfl)) pgs_nil))))
    (pss_cons (ps_if (pt_not (pt_val (pe_call GF hr rfl mF kF bF .nil pass0 (pa_cons (pv 0) (pa_cons (pv 5) pa_nil))))) (pss_one ps_never) pss_nil)
    (pss_cons (ps_expr (pe_bm PySem.F.plainAttrs_list PySem.F.slot_list_append PySem.F.type_list_append mt_append (pv 2) (pa_cons (pe_tup (pa_cons (pv 4) (pa_cons (pv 5) pa_nil))) pa_nil)))
    (pss_cons (ps_setLc (i := 6) (own := [("at", 7), ("operand", 8)]) (g := gTup K 2 (gCons (gName 7) (gCons (gName 8) gNil))) (tt := tYes) (by rfl) scNodesOf.nd rfl rfl (sw_true rfl rfl rfl (by decide +kernel)) (pi_enumT (by rfl) men (pa_cons (pe_call GP hr2 rfl mP kP bP .nil pass0 (pa_cons (pv 5) pa_nil)) pa_nil)) (blkOk_by (own := [("at", 7), ("operand", 8)]) (N := ["book", "value", "rows", "waiting", "path", "node", "below", "at", "operand"]) (sc := defScope sNodesOf) (by decide +kernel)) (fun _ _ _ _ _ => (pg_tup rfl (pgs_cons (pg_name (i := 7) scNodesOf.nd rfl (Or.inl rfl)) (pgs_cons (pg_name (i := 8) scNodesOf.nd rfl (Or.inl rfl)) pgs_nil)))) (fun _ _ _ _ _ => pts_nil) (fun _ _ _ _ _ => (pe_as (t' := teBelow) (pe_tup (pa_cons (pe_tup (pa_star (pv 4) (pa_cons (pv 7) pa_nil))) (pa_cons (pv 8) pa_nil))) ?c1)))
    (pss_one (ps_expr (pe_bm PySem.F.plainAttrs_list PySem.F.slot_list_extend PySem.F.type_list_extend mt_extend (pv 3) (pa_cons (pe_revL (pv 6)) pa_nil)))))))))
    (pss_one (ps_ret (pv 2)))))), ?_⟩
  case c1 =>
    rintro σ H Q ⟨pa, i, v, p, e, e4, e7, e8, epa, hpl, ie, q⟩
    refine ⟨_, e4, pa, _, rfl, .inl (SqT.of epa), _, e7, sz (by simp [pv_]; omega), fun t1 n1 => ⟨_, e8, sz (by show 2 ≤ 1000; decide), fun t2 n2 => ?_⟩⟩
    have s1 := same_up (o := .tup (pv_ p ++ [V.int (i : Int)])) n1
    have s2 := same_up (o := .tup [V.ref t1, v]) n2
    refine q (.ref t2) _ (s1.trans s2) ⟨t2, _, _, rfl, upd_same, ⟨t1, rfl, s2 _ _ ?_⟩, ie.keep (same_t (s1.trans s2))⟩
    rw [upd_same]
    simp [pv_]
  refine ⟨sz (by show 0 ≤ 1000; decide), fun lr nlr => ⟨sz (by show 0 ≤ 1000; decide), fun t0 n0 => ⟨_, rfl, sz (by show 2 ≤ 1000; decide), fun t1 n1 => ⟨sz (by show 1 ≤ 1000; decide), fun lw nlw => ?_⟩⟩⟩⟩
  have sr := same_up (o := .lst []) nlr
  have sv0 := same_up (o := .tup []) n0
  have sv1 := same_up (o := .tup [V.ref t0, v]) n1
  have sw := same_up (o := .lst [V.ref t1]) nlw
  have sA := ((sr.trans sv0).trans sv1).trans sw
  have hlw : H lw = none := ((sr.trans sv0).trans sv1).free nlw
  have nrw : lr ≠ lw := ne_of_none (sv1 _ _ (sv0 _ _ upd_same)) nlw
  refine ⟨fun m σ H' => ∃ (xp xn xb : Option V) (rr ww : List V) (rs st : List (List Nat × Ex)), σ = [some vb, some v, some (.ref lr), some (.ref lw), xp, xn, xb, none, none] ∧ m = nsum st ∧ H' lr = some (.lst rr) ∧ Paired (RowN H') rr rs ∧ H' lw = some (.lst ww) ∧ Paired (RowN H') ww st ∧
    rs ++ (st.reverse.flatMap fun x => x.2.pre x.1) = e.pre [] ∧ (∀ x ∈ st, ExW ps fns x.2 ∧ x.1.length + x.2.depth ≤ 90) ∧ Same H H',
    ⟨_, none, none, none, [], [.ref t1], [], [([], e)], rfl, rfl, sw _ _ (sv1 _ _ (sv0 _ _ upd_same)), .nil, upd_same, ?_, ?_, ?_, sA⟩, ?_⟩
  · exact .cons ⟨t1, _, _, rfl, sw _ _ upd_same, ⟨t0, rfl, sw _ _ (sv1 _ _ upd_same)⟩, ie.keep (same_t sA)⟩ .nil
  · simp
  · intro x hx
    rw [List.mem_singleton.mp hx]
    exact ⟨ew, by simp; omega⟩
  rintro m σ H1 ⟨xp, xn, xb, rr, ww, rs, st, rfl, rfl, er, pr, ew1, pw, hpre, hok, s1⟩
  have hsum : rs.length + nsum st = e.nodes := by
    have := congrArg List.length hpre
    rw [List.length_append, pre_len] at this
    rw [← this]
    congr 1
    rw [List.length_flatMap]
    have h2 : (st.reverse.map fun x => (x.2.pre x.1).length) = st.reverse.map fun x => x.2.nodes := by
      congr 1; funext x; exact pre_len _ _
    rw [h2]
    exact (nsum_rev st).symm
  have hww : ww.length = st.length := pw.length
  have hst := nsum_len st
  refine ⟨_, rfl, lw, _, rfl, .inl (SqL.of ew1), _, _, rfl, rfl, _, rfl, ?_⟩
  rcases List.eq_nil_or_concat st with rfl | ⟨st', x, rfl⟩
  · have : ww = [] := List.eq_nil_of_length_eq_zero hww
    subst this
    refine iteNo (by simp) ?_
    simp only [List.reverse_nil, List.flatMap_nil, List.append_nil] at hpre
    rw [hpre] at pr
    exact ⟨_, rfl, q lr rr H1 nlr er pr s1⟩
  obtain ⟨p, ex⟩ := x
  rw [List.concat_eq_append] at *
  obtain ⟨ww', u, rfl, pw', ru⟩ := paired_snoc_inv pw
  refine iteYes (by rw [List.length_append, List.length_singleton]; omega) ?_
  obtain ⟨hx1, hx2⟩ := hok (p, ex) (List.mem_append_right _ List.mem_cons_self)
  have hsum2 : nsum (st' ++ [(p, ex)]) = nsum st' + ex.nodes := by rw [nsum_append]; simp [nsum]
  have hnx := nodes_ops ex
  refine ⟨fun σ' H' => ∃ m', m' < nsum (st' ++ [(p, ex)]) ∧ ∃ (xp xn xb : Option V) (rr ww : List V) (rs st : List (List Nat × Ex)), σ' = [some vb, some v, some (.ref lr), some (.ref lw), xp, xn, xb, none, none] ∧ m' = nsum st ∧ H' lr = some (.lst rr) ∧ Paired (RowN H') rr rs ∧ H' lw = some (.lst ww) ∧ Paired (RowN H') ww st ∧
    rs ++ (st.reverse.flatMap fun x => x.2.pre x.1) = e.pre [] ∧ (∀ x ∈ st, ExW ps fns x.2 ∧ x.1.length + x.2.depth ≤ 90) ∧ Same H H', fun σ' H' h => h, ?_⟩
  -- pop
  refine ⟨_, rfl, .inl ⟨rfl, _, SqL.of ew1⟩, lw, _, u, rfl, rfl, ew1, by simp, ?_⟩
  rw [List.dropLast_concat]
  have ku2 : ∀ b o, b ≠ lw → H1 b = some o → (upd H1 lw (.lst ww')) b = some o := fun b o n z => by rw [upd_ne n]; exact z
  have kt2 : ∀ b xs, H1 b = some (.tup xs) → (upd H1 lw (.lst ww')) b = some (.tup xs) := fun b xs z => ku2 b _ (fun w => by rw [w, ew1] at z; cases z) z
  have s2 : Same H (upd H1 lw (.lst ww')) := fun b o z => ku2 b o (ne_of_none z hlw) (s1 _ _ z)
  obtain ⟨qu, vp, vx, rfl, equ, hp, ix⟩ := ru.keep kt2
  have er2 := ku2 _ _ nrw er
  obtain ⟨pa, rfl, epa⟩ := id hp
  refine ⟨qu, _, rfl, SqT.of equ, rfl, _, _, rfl, _, _, rfl, rfl, ?_⟩
  refine ⟨_, rfl, _, rfl, vb, vx, ex, ps, fns, rfl, hB.keep s2, kw, ix, hx1, fun H3 s3 => ⟨true, rfl, iteF ?_⟩⟩
  have s23 := s2.trans s3
  have er3 := s3 _ _ er2
  have hrl : rr.length = rs.length := pr.length
  -- append
  refine ⟨_, rfl, .inl ⟨rfl, _, SqL.of er3⟩, _, rfl, _, rfl, sz (by show 2 ≤ 1000; decide), fun tr ntr => ?_⟩
  have s4 := same_up (o := .tup [V.ref pa, vx]) ntr
  refine ⟨lr, rr, _, rfl, rfl, s4 _ _ er3, small1000 (by omega), ?_⟩
  have s34 := s3.trans s4
  have kt5 : ∀ b xs, (upd H3 tr (.tup [V.ref pa, vx])) b = some (.tup xs) → (upd (upd H3 tr (.tup [V.ref pa, vx])) lr (.lst (rr ++ [V.ref tr]))) b = some (.tup xs) := fun b xs z => by
    rw [upd_ne (fun w => by rw [w, s4 _ _ er3] at z; cases z)]; exact z
  have s5 : Same H (upd (upd H3 tr (.tup [V.ref pa, vx])) lr (.lst (rr ++ [V.ref tr]))) := fun b o z => by
    rw [upd_ne (ne_of_none z nlr)]; exact s4 _ _ (s23 _ _ z)
  have elw5 : (upd (upd H3 tr (.tup [V.ref pa, vx])) lr (.lst (rr ++ [V.ref tr]))) lw = some (.lst ww') := by
    rw [upd_ne (Ne.symm nrw)]; exact s34 _ _ upd_same
  have elr5 : (upd (upd H3 tr (.tup [V.ref pa, vx])) lr (.lst (rr ++ [V.ref tr]))) lr = some (.lst (rr ++ [V.ref tr])) := upd_same
  have ku15 : ∀ b xs, H1 b = some (.tup xs) → (upd (upd H3 tr (.tup [V.ref pa, vx])) lr (.lst (rr ++ [V.ref tr]))) b = some (.tup xs) := fun b xs z => kt5 _ _ (s34 _ _ (kt2 _ _ z))
  have ix5 : InE (upd (upd H3 tr (.tup [V.ref pa, vx])) lr (.lst (rr ++ [V.ref tr]))) ex vx := (ix.keep (same_t s34)).keep kt5
  have epa5 := kt5 _ _ (s34 _ _ epa)
  have etr5 := kt5 tr _ upd_same
  have prr : Paired (RowN (upd (upd H3 tr (.tup [V.ref pa, vx])) lr (.lst (rr ++ [V.ref tr])))) (rr ++ [V.ref tr]) (rs ++ [(p, ex)]) :=
    paired_append (L2.Paired.mapP pr fun a b z => z.keep ku15) (.cons ⟨tr, _, _, rfl, etr5, ⟨pa, rfl, epa5⟩, ix5⟩ .nil)
  have pww := L2.Paired.mapP pw' fun a b (z : RowN H1 a b) => z.keep ku15
  generalize (upd (upd H3 tr (.tup [V.ref pa, vx])) lr (.lst (rr ++ [V.ref tr]))) = H5 at kt5 s5 elw5 elr5 ku15 ix5 epa5 etr5 prr pww ⊢
  have sh := ExW.shp _ hx1
  refine ⟨_, rfl, vx, ex, rfl, ix5, sh.rs, fun po ws1 H6 eo io s6 => ⟨po, ws1, rfl, SqT.of eo, fun D nD => ?_⟩⟩
  have hnw : ws1.length = ex.ops.length := io.length
  have sD := same_up (o := .lst []) nD
  have hx3 : p.length + ex.depth ≤ 90 := hx2
  refine lc_it walk_enumU (fun i H' => ∃ acc, H' D = some (.lst acc) ∧ Paired (RowN H') acc (kids (ex.ops.take i) p 0) ∧ H' po = some (.tup ws1) ∧ InEs H' ex.ops ws1 ∧ Same H6 H')
    ⟨[], upd_same, by simp only [List.take_zero, kids]; exact .nil, same_up nD _ _ eo, io.keep (same_t sD), sD⟩ (fun i H' _ ⟨_, _, _, z, _⟩ => SqT.of z) ?_ ?_
  · rintro i x H7 H8 hi ⟨acc, eD, pa7, eo7, io7, s7⟩ ⟨T, x', y', rfl, nT, rfl, hx, hy⟩
    have hx' : x' = .int (i : Int) := (Option.some.inj hx).symm
    subst hx'
    have hio : i < ex.ops.length := by omega
    obtain ⟨v', hv, iv⟩ := io7.get i hio
    have : y' = v' := Option.some.inj (hy.symm.trans hv)
    subst this
    have sT := same_up (o := .tup [V.int (i : Int), y']) nT
    refine ⟨T, _, rfl, SqT.of upd_same, rfl, _, _, rfl, _, _, rfl, rfl, rfl, yes_i ⟨pa, i, y', p, ex.ops[i], rfl, rfl, rfl, sT _ _ (s7 _ _ (s6 _ _ epa5)), by omega, iv.keep (same_t sT), fun u H9 s9 ru => ?_⟩⟩
    have hacc : acc.length ≤ 900 := by
      rw [pa7.length, kids_len, List.length_take]
      have := nodess_ge ex.ops
      omega
    have s79 := sT.trans s9
    have eD9 := s79 _ _ eD
    have kt9 : ∀ b xs, H9 b = some (.tup xs) → (upd H9 D (.lst (acc ++ [u]))) b = some (.tup xs) := fun b xs z => by
      rw [upd_ne (fun w => by rw [w, eD9] at z; cases z)]; exact z
    refine ⟨acc, eD9, small1000 (by omega), acc ++ [u], upd_same, ?_, kt9 _ _ (s79 _ _ eo7), (io7.keep (same_t s79)).keep kt9, fun b o z => ?_⟩
    · rw [kids_snoc _ _ _ hio]
      exact paired_append (L2.Paired.mapP pa7 fun a b z => (z.keep (same_t s79)).keep kt9) (.cons (ru.keep kt9) .nil)
    · rw [upd_ne (ne_of_none z nD)]
      exact s79 _ _ (s7 _ _ z)
  · rintro H7 ⟨acc, eD, pa7, eo7, io7, s7⟩
    rw [hnw, List.take_length] at pa7
    have s67 := s6.trans s7
    have elw7 := s67 _ _ elw5
    have hacc : acc.length = ex.ops.length := by rw [pa7.length, kids_len]
    have hops := nodess_ge ex.ops
    refine ⟨_, rfl, .inl ⟨rfl, _, SqL.of elw7⟩, _, rfl, D, acc, rfl, SqL.of eD, fun r nr => ?_⟩
    have s8 := same_up (o := .lst acc.reverse) nr
    have hwl : ww'.length = st'.length := pw'.length
    have hsl := nsum_len st'
    refine ⟨lw, r, ww', acc.reverse, rfl, rfl, s8 _ _ elw7, upd_same, sz (by rw [List.length_reverse]; omega), ?_⟩
    have s58 := s67.trans s8
    have kt10 : ∀ b xs, H5 b = some (.tup xs) → (upd (upd H7 r (.lst acc.reverse)) lw (.lst (ww' ++ acc.reverse))) b = some (.tup xs) := fun b xs z => by
      rw [upd_ne (fun w => by rw [w, elw5] at z; cases z)]; exact s58 _ _ z
    have kt78 : ∀ b xs, H7 b = some (.tup xs) → (upd (upd H7 r (.lst acc.reverse)) lw (.lst (ww' ++ acc.reverse))) b = some (.tup xs) := fun b xs z => by
      rw [upd_ne (fun w => by rw [w, elw7] at z; cases z)]; exact s8 _ _ z
    refine ⟨nsum (st' ++ (kids ex.ops p 0).reverse), ?_, _, _, _, rr ++ [V.ref tr], ww' ++ acc.reverse, rs ++ [(p, ex)], st' ++ (kids ex.ops p 0).reverse, rfl, rfl, ?_, L2.Paired.mapP prr fun a b z => z.keep kt10, upd_same, ?_, ?_, ?_, ?_⟩
    · rw [hsum2, nsum_append, nsum_rev, nsum_kids]
      omega
    · rw [upd_ne nrw]; exact s58 _ _ elr5
    · exact paired_append (L2.Paired.mapP pww fun a b z => z.keep kt10) (L2.Paired.mapP (paired_reverse pa7) fun a b z => z.keep kt78)
    · rw [← hpre]
      simp only [List.reverse_append, List.reverse_reverse, List.flatMap_append, kids_pre, List.reverse_cons, List.reverse_nil, List.nil_append, List.flatMap_cons, List.flatMap_nil, List.append_nil, List.append_assoc]
      rw [Ex.pre_eq ex p]
      simp
    · intro x hx
      rcases List.mem_append.mp hx with h | h
      · exact hok x (List.mem_append_left _ h)
      · obtain ⟨h1, h2⟩ := kids_mem _ _ _ x (List.mem_reverse.mp h)
        have h3 := exWs_mem _ _ hx1.ops h1
        refine ⟨h3, ?_⟩
        have h4 : x.2.depth + 1 ≤ ex.depth := by
          cases ex with
          | num n => cases h1
          | nd k os =>
            have := depth_mem os x.2 h1
            have e5 : Ex.depth (.nd k os) = 1 + Ex.depths os := by simp [Ex.depth]
            omega
        omega
    · intro b o z
      rw [upd_ne (ne_of_none z hlw)]
      exact s58 _ _ (s5 _ _ z)
end
end Oo
namespace Oo
open PySem L2 PyProof.Rows LamX StX ClX
abbrev sNodeAt : Stmt := top 36
abbrev sIsOpen : Stmt := top 37
abbrev sIsOpenPath : Stmt := top 39
abbrev sArePoints : Stmt := top 40
abbrev sOwn : Stmt := top 41
/-! ### the node at a path -/
def Ex.at_ : Ex → List Nat → Option Ex
  | e, [] => some e
  | e, i :: p => (e.ops[i]?).bind fun x => x.at_ p
theorem at_snoc : ∀ (p : List Nat) (e e' : Ex) (i : Nat), e.at_ p = some e' → e.at_ (p ++ [i]) = e'.ops[i]?
  | [], e, e', i, h => by
    simp only [Ex.at_] at h
    cases h
    show (e.ops[i]?).bind (fun x => x.at_ []) = _
    cases e.ops[i]? <;> rfl
  | j :: p, e, e', i, h => by
    show (e.ops[j]?).bind (fun x => x.at_ (p ++ [i])) = _
    have h' : (e.ops[j]?).bind (fun x => x.at_ p) = some e' := h
    cases hx : e.ops[j]? with
    | none => rw [hx] at h'; cases h'
    | some x =>
      rw [hx] at h'
      exact at_snoc p x e' i h'
mutual
theorem pre_at : ∀ (e : Ex) (p : List Nat), ∀ x ∈ e.pre p, ∃ q, x.1 = p ++ q ∧ e.at_ q = some x.2
  | .num n, p, x, h => by
    simp only [Ex.pre, List.mem_singleton] at h
    rw [h]
    exact ⟨[], by simp, by simp [Ex.at_]⟩
  | .nd k os, p, x, h => by
    simp only [Ex.pre, List.mem_cons] at h
    rcases h with h | h
    · rw [h]
      exact ⟨[], by simp, by simp [Ex.at_]⟩
    · obtain ⟨i, q, e1, e2⟩ := pres_at os p 0 x h
      refine ⟨i :: q, by simpa using e1, ?_⟩
      show ((Ex.nd k os).ops[i]?).bind (fun y => y.at_ q) = some x.2
      simpa [Ex.ops] using e2
theorem pres_at : ∀ (os : List Ex) (p : List Nat) (j : Nat), ∀ x ∈ Ex.pres os p j, ∃ i q, x.1 = p ++ (j + i) :: q ∧ (os[i]?).bind (fun y => y.at_ q) = some x.2
  | [], p, j, x, h => by simp [Ex.pres] at h
  | e :: r, p, j, x, h => by
    simp only [Ex.pres, List.mem_append] at h
    rcases h with h | h
    · obtain ⟨q, e1, e2⟩ := pre_at e (p ++ [j]) x h
      exact ⟨0, q, by rw [e1]; simp, by simpa using e2⟩
    · obtain ⟨i, q, e1, e2⟩ := pres_at r p (j + 1) x h
      refine ⟨i + 1, q, ?_, by simpa using e2⟩
      rw [e1]
      congr 2
      omega
end
theorem at_take {e e' : Ex} {p : List Nat} (h : e.at_ p = some e') : ∀ i, i ≤ p.length → ∃ x, e.at_ (p.take i) = some x := by
  intro i
  induction i with
  | zero => intro _; exact ⟨e, by simp [Ex.at_]⟩
  | succ i ih =>
    intro hi
    obtain ⟨x, hx⟩ := ih (by omega)
    have e1 := take_succ_get p i (by omega)
    rw [e1, at_snoc _ _ _ _ hx]
    -- the rest leads on
    have : ∀ (q r : List Nat) (f : Ex), f.at_ (q ++ r) = some e' → ∃ y, f.at_ q = some y := by
      intro q
      induction q with
      | nil => intro r f _; exact ⟨f, by simp [Ex.at_]⟩
      | cons j q ih2 =>
        intro r f hf
        have hf' : (f.ops[j]?).bind (fun x => x.at_ (q ++ r)) = some e' := hf
        cases hz : f.ops[j]? with
        | none => rw [hz] at hf'; cases hf'
        | some z =>
          rw [hz] at hf'
          obtain ⟨y, hy⟩ := ih2 r z hf'
          refine ⟨y, ?_⟩
          show (f.ops[j]?).bind (fun x => x.at_ q) = some y
          rw [hz]; exact hy
    have h2 : e.at_ (p.take (i + 1) ++ p.drop (i + 1)) = some e' := by rw [List.take_append_drop]; exact h
    obtain ⟨y, hy⟩ := this _ _ e h2
    rw [e1, at_snoc _ _ _ _ hx] at hy
    exact ⟨y, hy⟩
def spNodeAt : Sp := fun vs H Q _ => ∃ (v vp : V) (e e' : Ex) (p : List Nat), vs = [v, vp] ∧ InE H e v ∧ Shp e ∧ PathAt H vp p ∧ p.length ≤ 1000 ∧ e.at_ p = some e' ∧ ∀ v' H', InE H' e' v' → Same H H' → Q v' H'
def spIsOpen : Sp := fun vs H Q _ => ∃ (v : V) (e : Ex), vs = [v] ∧ InE H e v ∧ Q (.bl (isOpenE e)) H
def spIsOpenPath : Sp := fun vs H Q _ => ∃ (v vp : V) (e e' : Ex) (p : List Nat), vs = [v, vp] ∧ InE H e v ∧ Shp e ∧ PathAt H vp p ∧ p.length ≤ 1000 ∧ e.at_ p = some e' ∧ ∀ H', Same H H' → Q (.bl (isOpenE e')) H'
theorem Shp.at_ {e e' : Ex} : ∀ {p : List Nat}, Shp e → e.at_ p = some e' → Shp e' := by
  intro p
  induction p generalizing e with
  | nil => intro s h; simp only [Ex.at_] at h; cases h; exact s
  | cons i p ih =>
    intro s h
    have h' : (e.ops[i]?).bind (fun x => x.at_ p) = some e' := h
    cases hz : e.ops[i]? with
    | none => rw [hz] at h'; cases h'
    | some z =>
      rw [hz] at h'
      obtain ⟨hi, ez⟩ := List.getElem?_eq_some_iff.mp hz
      have := Shps.get s.ops i hi
      rw [ez] at this
      exact ih this h'
section
variable {P : Program} {w : World} {K : PySem.W.Frag} {mg : Str → Option Value} {base : Heap} {X : Cx}
theorem scNodeAt : FnScope ["expression", "path", "node", "at", "below"] ["expression", "path"] (defScope sNodeAt) := ⟨rfl, rfl, rfl, by decide +kernel, rfl, by decide +kernel, by decide +kernel⟩
theorem ok_nodeat {f fi fp : Addr} {fd fdi fdp : FuncData} (F : Fun K "node_at" "node_at" sNodeAt f fd) (mt : mg "tuple" = none) (mis : mg "isinstance" = none) (ml : mg "len" = none)
    (GI : FnOk P w K mg base CX0 1 fi fdi ["value"] spIsInt) (kI : PySem.W.keepIn K (.ref fi) = true) (bI : Binds K fdi ["value"] []) (mI : mg "is_integer" = some (.ref fi))
    (GP : FnOk P w K mg base CX0 2 fp fdp ["node"] spOperands) (kP : PySem.W.keepIn K (.ref fp) = true) (bP : Binds K fdp ["node"] []) (mP : mg "operands" = some (.ref fp)) : FnOk P w K mg base CX0 3 f fd ["expression", "path"] spNodeAt := by
  refine F.ok scNodeAt (fun vs H Q E h => ?_) (fun cdv A outer s H vs Q E hr h => ?_)
  · obtain ⟨v, vp, e, e', p, rfl, _⟩ := h
    rfl
  obtain ⟨v, vp, e, e', p, rfl, ie, sh, ⟨pa, rfl, epa⟩, hpl, hat, q⟩ := h
  have hr1 : Room 1 _ := hr.mono (by decide)
  refine ⟨_, (pss_cons (ps_if (pt_not (pt_val (pe_callB call_isi (by rfl) mis boot_isinstance (pa_cons (pv 1) (pa_cons (pe_bltn (v := .ty "tuple") (by rfl) mt (by decide +kernel) rfl) pa_nil))))) (pss_one (ps_ret pe_non)) pss_nil)
    (pss_cons (ps_set (i := 2) scNodeAt.nd rfl (.inl rfl) (pv 0))
    (pss_cons (ps_for PassesOwn.never rfl (pi_tup (pv 1)) (pg_name (i := 3) scNodeAt.nd rfl (Or.inl rfl)) (pss_cons (ps_set (i := 4) scNodeAt.nd rfl (.inl rfl) (pe_call GP hr rfl mP kP bP .nil pass0 (pa_cons (pv 2) pa_nil)))
    (pss_cons (ps_if (PW.pt (pw_or (pt_not (pt_val (pe_call GI hr1 rfl mI kI bI .nil pass0 (pa_cons (pv 3) pa_nil)))) (pw_or1 (pt_not (pt_chain op_le op_lt pe_int (pv 3) (pe_callB call_len_seq (by rfl) ml PySem.boot_len (pa_cons (pv 4) pa_nil))))))) (pss_one (ps_ret pe_non)) pss_nil)
    (pss_one (ps_set (i := 2) scNodeAt.nd rfl (.inl rfl) (pe_ix ix_tup (pv 4) (pv 3) (fun _ _ => rfl)))))))
    (pss_one (ps_ret (pv 2)))))), ?_⟩
  refine ⟨_, rfl, _, _, _, _, true, rfl, .ty "tuple", .base (.tup epa), kit_ty (by decide +kernel), true, rfl, iteF ?_⟩
  refine ⟨_, rfl, _, rfl, pa, rfl, ⟨_, SqT.of epa⟩, ?_⟩
  refine for_tup (K := K) (a := pa) (xs := pv_ p) (fun i σ H' => ∃ (vn : V) (x y : Option V) (en : Ex), σ = [some v, some (.ref pa), some vn, x, y] ∧ e.at_ (p.take i) = some en ∧ InE H' en vn ∧ Same H H') ⟨v, none, none, e, rfl, by simp [Ex.at_], ie, Same.refl H⟩ (fun i σ H' _ ⟨_, _, _, _, _, _, _, s'⟩ => SqT.of (s' _ _ epa)) ?_ ?_
  · rintro i z σ H1 hi ⟨vn, x, y, en, rfl, han, ien, s1⟩
    have hil : i < p.length := by
      have := (List.getElem?_eq_some_iff.mp hi).1
      simpa [pv_] using this
    have ez : z = .int ((p[i] : Nat) : Int) := by
      have := (List.getElem?_eq_some_iff.mp hi).2
      simp [pv_] at this
      exact this.symm
    subst ez
    have sn := Shp.at_ sh han
    obtain ⟨en', hen'⟩ := at_take hat (i + 1) (by omega)
    have e1 := take_succ_get p i hil
    rw [e1, at_snoc _ _ _ _ han] at hen'
    obtain ⟨hio, eio⟩ := List.getElem?_eq_some_iff.mp hen'
    refine ⟨_, rfl, vn, en, rfl, ien, sn.rs, fun po ws H2 eo io s2 => ?_⟩
    have hws := io.length
    obtain ⟨u, hu, iu⟩ := io.get p[i] hio
    rw [eio] at iu
    refine ⟨_, rfl, .inl ⟨_, rfl, true, rfl, iteF ?_⟩⟩
    refine ⟨_, rfl, _, _, rfl, rfl, _, rfl, iteYes (by omega) ⟨_, rfl, po, _, rfl, .inr (SqT.of eo), _, _, rfl, rfl, _, rfl, ?_⟩⟩
    rw [decide_eq_true (show ((p[i] : Nat) : Int) < (ws.length : Int) by omega)]
    refine iteF ⟨_, rfl, _, rfl, po, ws, _, u, rfl, rfl, SqT.of eo, at_of (j := p[i]) (by omega) hu, ?_⟩
    refine ⟨u, _, _, en', rfl, ?_, iu, s1.trans s2⟩
    rw [e1, at_snoc _ _ _ _ han]
    exact hen'
  · rintro σ H1 ⟨vn, x, y, en, rfl, han, ien, s1⟩
    have hpv : (pv_ p).length = p.length := by simp [pv_]
    rw [hpv, List.take_length, hat] at han
    cases han
    exact ⟨_, rfl, q vn H1 ien s1⟩
theorem scIsOpen : FnScope ["node"] ["node"] (defScope sIsOpen) := ⟨rfl, rfl, rfl, by decide +kernel, rfl, by decide +kernel, by decide +kernel⟩
theorem ok_isopen {f fi : Addr} {fd fdi : FuncData} (F : Fun K "is_open" "is_open" sIsOpen f fd) (ml : mg "len" = none)
    (GI : FnOk P w K mg base CX0 1 fi fdi ["value"] spIsInt) (kI : PySem.W.keepIn K (.ref fi) = true) (bI : Binds K fdi ["value"] []) (mI : mg "is_integer" = some (.ref fi)) : FnOk P w K mg base CX0 2 f fd ["node"] spIsOpen := by
  refine F.ok scIsOpen (fun vs H Q E h => ?_) (fun cdv A outer s H vs Q E hr h => ?_)
  · obtain ⟨v, e, rfl, _⟩ := h
    rfl
  obtain ⟨v, e, rfl, ie, q⟩ := h
  refine ⟨_, (pss_cons (ps_if (pt_val (pe_call GI hr rfl mI kI bI .nil pass0 (pa_cons (pv 0) pa_nil))) (pss_one (ps_ret pe_bl)) pss_nil)
    (pss_one (ps_ret (pe_or (pe_cmpR op_eq (pe_ix ix_tup (pv 0) pe_int (fun _ _ => rfl)) pe_str (nomark _)) (pe_one (pe_and (pe_cmpR op_eq (pe_ix ix_tup (pv 0) pe_int (fun _ _ => rfl)) pe_str (nomark _)) (pe_one (pe_cmpR op_ge (pe_callB call_len_seq (by rfl) ml PySem.boot_len (pa_cons (pe_ix ix_tup (pv 0) pe_int (fun _ _ => rfl)) pa_nil)) pe_int (nomark _))))))))), ?_⟩
  cases e with
  | num n =>
    unfold InE at ie
    subst ie
    exact ⟨_, rfl, .inl ⟨n, rfl, true, rfl, iteT q⟩⟩
  | nd k os =>
    unfold InE at ie
    obtain ⟨p, ws, rfl, ios, na⟩ := ie
    obtain ⟨tl, ht⟩ := na.tup
    refine ⟨_, rfl, .inr ⟨p, _, rfl, ht, false, rfl, iteF ?_⟩⟩
    refine ⟨_, rfl, p, _, _, _, rfl, rfl, SqT.of ht, at0 _ _, rfl, _, rfl, ?_⟩
    rw [word_op]
    cases ho : k.isOp with
    | true =>
      cases k with
      | op s => exact iteT q
      | _ => cases ho
    | false =>
      refine iteF ⟨_, rfl, p, _, _, _, rfl, rfl, SqT.of ht, at0 _ _, rfl, _, rfl, ?_⟩
      rw [word_call]
      cases hc : k.isCall with
      | true =>
        cases k with
        | call f =>
          obtain ⟨qa, h1, h2⟩ := na
          refine iteT ⟨_, rfl, p, _, _, _, rfl, rfl, SqT.of h1, (rfl : atI [V.str "call", .str f, .ref qa] 2 = some (.ref qa)), qa, _, rfl, .inr (SqT.of h2), _, _, rfl, rfl, ?_⟩
          have : decide ((2 : Int) ≤ (ws.length : Int)) = isOpenE (.nd (.call f) os) := by
            rw [ios.length]
            show _ = decide (1 < os.length)
            by_cases z : 1 < os.length
            · rw [decide_eq_true z, decide_eq_true (by omega)]
            · rw [decide_eq_false z, decide_eq_false (by omega)]
          show Q (V.bl (decide ((2 : Int) ≤ (ws.length : Int)))) H
          rw [this]
          exact q
        | _ => cases hc
      | false =>
        refine iteF ?_
        have : isOpenE (.nd k os) = false := by
          cases k with
          | op s => cases ho
          | call f => cases hc
          | _ => rfl
        rw [this] at q
        exact q
theorem scIsOpenPath : FnScope ["expression", "value", "node"] ["expression", "value"] (defScope sIsOpenPath) := ⟨rfl, rfl, rfl, by decide +kernel, rfl, by decide +kernel, by decide +kernel⟩
theorem ok_isopenpath {f fn fo : Addr} {fd fdn fdo : FuncData} (F : Fun K "is_open_path" "is_open_path" sIsOpenPath f fd)
    (GN : FnOk P w K mg base CX0 3 fn fdn ["expression", "path"] spNodeAt) (kN : PySem.W.keepIn K (.ref fn) = true) (bN : Binds K fdn ["expression", "path"] []) (mN : mg "node_at" = some (.ref fn))
    (GO : FnOk P w K mg base CX0 2 fo fdo ["node"] spIsOpen) (kO : PySem.W.keepIn K (.ref fo) = true) (bO : Binds K fdo ["node"] []) (mO : mg "is_open" = some (.ref fo)) : FnOk P w K mg base CX0 4 f fd ["expression", "value"] spIsOpenPath := by
  refine F.ok scIsOpenPath (fun vs H Q E h => ?_) (fun cdv A outer s H vs Q E hr h => ?_)
  · obtain ⟨v, vp, e, e', p, rfl, _⟩ := h
    rfl
  obtain ⟨v, vp, e, e', p, rfl, ie, sh, hp, hpl, hat, q⟩ := h
  have hr2 : Room 2 _ := hr.mono (by decide)
  refine ⟨_, (pss_cons (ps_set (i := 2) scIsOpenPath.nd rfl (.inl rfl) (pe_call GN hr rfl mN kN bN .nil pass0 (pa_cons (pv 0) (pa_cons (pv 1) pa_nil))))
    (pss_one (ps_ret (pe_and (pe_cmpR op_notN (pv 2) pe_non (nomark _)) (pe_one (pe_call GO hr2 rfl mO kO bO .nil pass0 (pa_cons (pv 2) pa_nil))))))), ?_⟩
  refine ⟨_, rfl, _, rfl, v, vp, e, e', p, rfl, ie, sh, hp, hpl, hat, fun v' H1 ie' s1 => ?_⟩
  have hne : v' ≠ .non := by
    cases e' with
    | num n => unfold InE at ie'; rw [ie']; exact fun z => by cases z
    | nd k os =>
      unfold InE at ie'
      obtain ⟨p, ws, rfl, _⟩ := ie'
      exact fun z => by cases z
  refine ⟨_, rfl, rfl, true, ?_, iteT ⟨_, rfl, v', e', rfl, ie', q H1 s1⟩⟩
  rw [decide_eq_false hne]
  rfl
end
end Oo
namespace Oo
open PySem L2 PyProof.Rows LamX StX ClX
/-! ### points; own steps -/
theorem ascD_paths {ps : List (List Nat)} (h : ps.Pairwise pathLt) : AscD (ps.map dP) := by
  intro i hi
  rw [List.length_map] at hi
  simp only [List.getElem_map]
  refine ⟨?_, fun z => (by cases z), by rw [depth_path]; decide, ?_⟩
  · show PySem.W.alike (.tuple (dI _)) (.tuple (dI _)) = true
    simp only [PySem.W.alike]
    exact alike_ints _ _
  · rw [List.pairwise_iff_getElem] at h
    exact h i (i + 1) (by omega) hi (by omega)
theorem opens_at {e : Ex} {p : List Nat} (h : p ∈ e.opens []) : ∃ e', e.at_ p = some e' ∧ isOpenE e' = true ∧ (p, e') ∈ e.pre [] := by
  unfold Ex.opens at h
  obtain ⟨x, hx, rfl⟩ := List.mem_map.mp h
  obtain ⟨h1, h2⟩ := List.mem_filter.mp hx
  obtain ⟨q, e1, e2⟩ := pre_at e [] x h1
  rw [List.nil_append] at e1
  exact ⟨x.2, by rw [e1]; exact e2, h2, h1⟩
mutual
theorem pre_short : ∀ (e : Ex) (p : List Nat), ∀ x ∈ e.pre p, x.1.length + 1 ≤ p.length + e.depth
  | .num n, p, x, h => by
    simp only [Ex.pre, List.mem_singleton] at h
    rw [h]; simp [Ex.depth]
  | .nd k os, p, x, h => by
    simp only [Ex.pre, List.mem_cons] at h
    rcases h with h | h
    · rw [h]; simp [Ex.depth]
    · have := pres_short os p 0 x h
      simp only [Ex.depth]
      omega
theorem pres_short : ∀ (os : List Ex) (p : List Nat) (j : Nat), ∀ x ∈ Ex.pres os p j, x.1.length + 1 ≤ p.length + 1 + Ex.depths os
  | [], p, j, x, h => by simp [Ex.pres] at h
  | e :: r, p, j, x, h => by
    simp only [Ex.pres, List.mem_append] at h
    rcases h with h | h
    · have := pre_short e (p ++ [j]) x h
      rw [List.length_append, List.length_singleton] at this
      simp only [Ex.depths]
      omega
    · have := pres_short r p (j + 1) x h
      simp only [Ex.depths]
      omega
end
/-- the tables of own steps -/
structure TxO (K : PySem.W.Frag) (w : World) (dO : Addr) : Prop where
  low : (dO == sysModules) = false
  yes : ∀ k : Kd, k.steps ≠ 0 → ∃ (a : Addr) (ws : List V), KDct K w dO k.word (.ref a) ∧ (∀ H, SqT K H a ws) ∧ ws.length = k.steps
  no : ∀ k : Kd, k.steps = 0 → KMiss K w dO k.word
def Ex.own : Ex → Nat
  | .num _ => 0
  | .nd k _ => k.steps
theorem seqT_ty {K : PySem.W.Frag} {H : Hp} {a : Addr} {xs : List V} (h : SqT K H a xs) : TyX K H (.ref a) (.type "tuple") := by
  rcases h with (h | ⟨o, h⟩) | ⟨o, its, n, h, c, _⟩
  · exact .base (.tup h)
  · exact .fTuple h
  · exact .kTuple h c
def spArePoints (K : PySem.W.Frag) : Sp := fun vs H Q _ => ∃ (v : V) (e : Ex) (t : Addr) (rows : List V) (ps : List (List Nat)), vs = [v, .ref t] ∧ InE H e v ∧ Shp e ∧ e.depth ≤ 80 ∧ SqT K H t rows ∧ Paired (PathAt H) rows ps ∧ ps.length ≤ 900 ∧ (∀ p ∈ ps, p ∈ e.opens []) ∧ ps.Pairwise pathLt ∧ ∀ H', Same H H' → Q (.bl true) H'
def spOwn (K : PySem.W.Frag) : Sp := fun vs H Q _ => ∃ (v : V) (e : Ex), vs = [v] ∧ InE H e v ∧ ∀ (q : Addr) (ws : List V) (H' : Hp), SqT K H' q ws → ws.length = e.own → Same H H' → Q (.ref q) H'
section
variable {P : Program} {w : World} {K : PySem.W.Frag} {mg : Str → Option Value} {base : Heap} {X : Cx}
theorem scArePoints : FnScope ["expression", "value", "path"] ["expression", "value"] (defScope sArePoints) := ⟨rfl, rfl, rfl, by decide +kernel, rfl, by decide +kernel, by decide +kernel⟩
theorem ok_arepoints {f fp fa : Addr} {fd fdp fda : FuncData} (F : Fun K "are_points" "are_points" sArePoints f fd) (mal : mg "all" = none) (mt : mg "tuple" = none) (mis : mg "isinstance" = none)
    (GP : FnOk P w K mg base CX0 4 fp fdp ["expression", "value"] spIsOpenPath) (kP : PySem.W.keepIn K (.ref fp) = true) (bP : Binds K fdp ["expression", "value"] []) (mP : mg "is_open_path" = some (.ref fp))
    (GA : FnOk P w K mg base CX0 1 fa fda ["items"] (spAsc K)) (kA : PySem.W.keepIn K (.ref fa) = true) (bA : Binds K fda ["items"] []) (mA : mg "is_ascending" = some (.ref fa)) : FnOk P w K mg base CX0 5 f fd ["expression", "value"] (spArePoints K) := by
  refine F.ok scArePoints (fun vs H Q E h => ?_) (fun cdv A outer s H vs Q E hr h => ?_)
  · obtain ⟨v, e, t, rows, ps, rfl, _⟩ := h
    rfl
  obtain ⟨v, e, t, rows, ps, rfl, ie, sh, hdp, et, pr, hl, hop, asc, q⟩ := h
  have hr1 : Room 1 _ := hr.mono (by decide)
  refine ⟨_, (pss_cons (ps_if (pt_not (pt_val (pe_callB call_isi (by rfl) mis boot_isinstance (pa_cons (pv 1) (pa_cons (pe_bltn (v := .ty "tuple") (by rfl) mt (by decide +kernel) rfl) pa_nil))))) (pss_one (ps_ret pe_bl)) pss_nil)
    (pss_one (ps_ret (pe_and (pe_callB (cr_all rfl) (by rfl) mal (by decide +kernel) (pa_cons (pe_lc (own := [("path", 2)]) (g := gName 2) (tt := tYes) (by rfl) scArePoints.nd (pi_tup (pv 1)) (blkOk_by (own := [("path", 2)]) (N := ["expression", "value", "path"]) (sc := defScope sArePoints) (by decide +kernel)) (fun _ _ _ _ _ => (pg_name (i := 2) scArePoints.nd rfl (Or.inl rfl))) (fun _ _ _ _ _ => pts_nil) (fun _ _ _ _ _ => (pe_call GP hr rfl mP kP bP .nil pass0 (pa_cons (pv 0) (pa_cons (pv 2) pa_nil))))) pa_nil)) (pe_one (pe_call GA hr1 rfl mA kA bA .nil pass0 (pa_cons (pv 1) pa_nil))))))), ?_⟩
  refine ⟨_, rfl, _, _, _, _, true, rfl, .ty "tuple", seqT_ty et, kit_ty (by decide +kernel), true, rfl, iteF ?_⟩
  refine ⟨_, rfl, t, rfl, ⟨_, et⟩, fun D nD => ?_⟩
  have hrl := pr.length
  refine lc_tup (K := K) (a := t) (xs := rows) (fun i H' => H' D = some (.lst ((List.replicate i true).map V.bl)) ∧ Same H H') ⟨upd_same, same_up nD⟩ (fun i H' _ h => same_seqT h.2 et) ?_ ?_
  · rintro i vp H1 hi ⟨eD, s'⟩
    obtain ⟨p, hp, hpp⟩ := paired_get pr hi
    have hpm := List.mem_of_getElem? hp
    obtain ⟨e', h1, h2, h3⟩ := opens_at (hop p hpm)
    have hsh := pre_short e [] _ h3
    have hsh' : p.length + 1 ≤ e.depth := by simpa using hsh
    have hil := (List.getElem?_eq_some_iff.mp hi).1
    refine ⟨rfl, yes_i ⟨_, rfl, _, rfl, v, vp, e, e', p, rfl, ie.keep (same_t s'), sh, hpp.keep (same_t s'), by omega, h1, fun H2 s2 => ?_⟩⟩
    rw [h2]
    refine ⟨_, s2 _ _ eD, small1000 (by rw [List.length_map, List.length_replicate]; omega), ?_, fun b o z => by rw [upd_ne (ne_of_none z nD)]; exact s2 _ _ (s' b o z)⟩
    rw [List.replicate_succ', List.map_append]
    exact upd_same
  · rintro H' ⟨eD, s'⟩
    refine ⟨D, _, rfl, SqL.of eD, ?_⟩
    have : (List.replicate rows.length true).all id = true := by simp
    rw [this]
    exact ⟨true, rfl, iteT ⟨_, rfl, t, rows, ps.map dP, rfl, same_seqT s' et, dpAll_paths (L2.Paired.mapP pr fun a b z => z.keep (same_t s')), by omega, ascD_paths asc, fun H2 s2 => q _ (s'.trans s2)⟩⟩
theorem scOwn : FnScope ["node"] ["node"] (defScope sOwn) := ⟨rfl, rfl, rfl, by decide +kernel, rfl, by decide +kernel, by decide +kernel⟩
theorem ok_own {f fi dO : Addr} {fd fdi : FuncData} (F : Fun K "own_steps" "own_steps" sOwn f fd) (TO : TxO K w dO) (mOWN_STEPS : mg "OWN_STEPS" = some (.ref dO))
    (GI : FnOk P w K mg base CX0 1 fi fdi ["value"] spIsInt) (kI : PySem.W.keepIn K (.ref fi) = true) (bI : Binds K fdi ["value"] []) (mI : mg "is_integer" = some (.ref fi)) : FnOk P w K mg base CX0 2 f fd ["node"] (spOwn K) := by
  refine F.ok scOwn (fun vs H Q E h => ?_) (fun cdv A outer s H vs Q E hr h => ?_)
  · obtain ⟨v, e, rfl, _⟩ := h
    rfl
  obtain ⟨v, e, rfl, ie, q⟩ := h
  refine ⟨_, (pss_cons (ps_if (pt_val (pe_call GI hr rfl mI kI bI .nil pass0 (pa_cons (pv 0) pa_nil))) (pss_one (ps_ret (pe_tup pa_nil))) pss_nil)
    (pss_one (ps_ret (pe_kget2 (pe_globD rfl mOWN_STEPS) (pe_ix ix_tup (pv 0) pe_int (fun _ _ => rfl)) (pe_tup pa_nil) ⟨rfl, rfl, rfl, rfl⟩)))), ?_⟩
  cases e with
  | num n =>
    unfold InE at ie
    subst ie
    exact ⟨_, rfl, .inl ⟨n, rfl, true, rfl, iteT ⟨sz (by decide), fun p hp => q p [] _ (SqT.of upd_same) rfl (same_up hp)⟩⟩⟩
  | nd k os =>
    unfold InE at ie
    obtain ⟨p, ws, rfl, ios, na⟩ := ie
    obtain ⟨tl, ht⟩ := na.tup
    refine ⟨_, rfl, .inr ⟨p, _, rfl, ht, false, rfl, iteF ?_⟩⟩
    by_cases hk : k.steps = 0
    · have km := TO.no k hk
      obtain ⟨es, n', hl', hk', low, hm⟩ := id km
      refine ⟨dO, rfl, ⟨es, n', hl', hk'⟩, TO.low, _, rfl, p, _, _, _, rfl, rfl, SqT.of ht, at0 _ _, sz (by decide), fun t nt => ⟨k.word, rfl, .inr ⟨km, ?_⟩⟩⟩
      exact q t [] _ (SqT.of upd_same) (by simp [Ex.own, hk]) (same_up nt)
    · obtain ⟨a, ws', kd, hs, hl⟩ := TO.yes k hk
      obtain ⟨es, n', u0, hl', hk', e', ru⟩ := id kd
      refine ⟨dO, rfl, ⟨es, n', hl', hk'⟩, TO.low, _, rfl, p, _, _, _, rfl, rfl, SqT.of ht, at0 _ _, sz (by decide), fun t nt => ⟨k.word, rfl, .inl ⟨_, kd, ?_⟩⟩⟩
      exact q a ws' _ (hs _) hl (same_up nt)
end
end Oo
namespace Oo
open PySem L2 PyProof.Rows LamX StX ClX
abbrev sTextOf : Stmt := top 42
abbrev sStepText : Stmt := top 43
abbrev sOpText : Stmt := top 44
abbrev sCallText : Stmt := top 45
theorem lle : Str.empty.length = 0 := rfl
theorem ll16 : (" && " : Str).length = 4 := rfl
theorem ll17 : (" || " : Str).length = 4 := rfl
theorem ee : ("" : Str) = Str.empty := rfl
theorem semi1 : ("; " : Str) = ";" ++ " " := by decide +kernel
theorem comma1 : (", " : Str) = "," ++ " " := by decide +kernel
theorem and1 : (" && " : Str) = " &&" ++ " " := by decide +kernel
theorem or1 : (" || " : Str) = " ||" ++ " " := by decide +kernel
def spStepText : Sp := fun vs H Q _ => ∃ x b wh m, vs = [.str x, .int b, .str wh] ∧ x.length ≤ 100 ∧ (b = 1 ∨ b = -1) ∧ (wh = "before" ∨ wh = "after") ∧ Q (.str (kdText (.step x b wh) m [])) H
def spOpText : Sp := fun vs H Q _ => ∃ (sg : Str) (lb : Addr) (t u : Str) (m : Bool), vs = [.str sg, .ref lb, .bl m] ∧ H lb = some (.lst [.str t, .str u]) ∧ sg.length ≤ 10 ∧ t.length + u.length ≤ 30000 ∧ Q (.str (kdText (.op sg) m [t, u])) H
def spCallText : Sp := fun vs H Q _ => ∃ (f : Str) (lb : Addr) (ts : List Str) (m : Bool), vs = [.str f, .ref lb, .bl m] ∧ H lb = some (.lst (ts.map V.str)) ∧ f.length ≤ 10 ∧ tlen ts ≤ 30000 ∧ ts.length ≤ 10 ∧ Q (.str (kdText (.call f) m ts)) H
section
variable {P : Program} {w : World} {K : PySem.W.Frag} {mg : Str → Option Value} {base : Heap} {X : Cx}
theorem scStepText : FnScope ["place", "by", "when", "sign"] ["place", "by", "when"] (defScope sStepText) := ⟨rfl, rfl, rfl, by decide +kernel, rfl, by decide +kernel, by decide +kernel⟩
theorem ok_steptext {f : Addr} {fd : FuncData} (F : Fun K "step_text" "step_text" sStepText f fd) : FnOk P w K mg base CX0 1 f fd ["place", "by", "when"] spStepText := by
  refine F.ok scStepText (fun vs H Q E h => ?_) (fun cdv A outer s H vs Q E hr h => ?_)
  · obtain ⟨x, b, wh, m, rfl, _⟩ := h
    rfl
  obtain ⟨x, b, wh, m, rfl, hl, hb, hw, q⟩ := h
  refine ⟨_, (pss_cons (ps_set (i := 3) scStepText.nd rfl (.inl rfl) (pe_ifExp (pt_cmpR op_eq (pv 1) pe_int (nomark _)) pe_str pe_str))
    (pss_one (ps_ret (pe_ifExp (pt_cmpR op_eq (pv 2) pe_str (nomark _)) (pe_joined (.cons (pe_fmt (pv 3)) (.cons (pe_fmt (pv 0)) PJ.nil))) (pe_joined (.cons (pe_fmt (pv 0)) (.cons (pe_fmt (pv 3)) PJ.nil))))))), ?_⟩
  have nn : ¬ (("after" : Str) = "before") := by decide +kernel
  refine ⟨_, rfl, rfl, _, rfl, ?_⟩
  rcases hb with rfl | rfl
  · refine iteYes rfl ⟨_, rfl, rfl, _, rfl, ?_⟩
    rcases hw with rfl | rfl
    · refine iteYes rfl ⟨_, rfl, .inl ⟨_, rfl, by ((refine sz2 ?_; (try simp only [Str.length_append, lle, ll1, ll2, ll3, ll4, ll5, ll6, ll7, ll8, ll9, ll10, ll11, ll12, ll13, ll14, ll15, ll16, ll17, sepS] at *); omega)), _, rfl, by ((refine sz2 ?_; (try simp only [Str.length_append, lle, ll1, ll2, ll3, ll4, ll5, ll6, ll7, ll8, ll9, ll10, ll11, ll12, ll13, ll14, ll15, ll16, ll17, sepS] at *); omega)), _, rfl, .inl ⟨_, rfl, by ((refine sz2 ?_; (try simp only [Str.length_append, lle, ll1, ll2, ll3, ll4, ll5, ll6, ll7, ll8, ll9, ll10, ll11, ll12, ll13, ll14, ll15, ll16, ll17, sepS] at *); omega)), _, rfl, by ((refine sz2 ?_; (try simp only [Str.length_append, lle, ll1, ll2, ll3, ll4, ll5, ll6, ll7, ll8, ll9, ll10, ll11, ll12, ll13, ll14, ll15, ll16, ll17, sepS] at *); omega)), ?_⟩⟩⟩
      simp only [kdText, if_pos] at q
      rw [Str.empty_append]
      exact q
    · refine iteNo (fun z => nn (V.str.inj z)) ⟨_, rfl, .inl ⟨_, rfl, by ((refine sz2 ?_; (try simp only [Str.length_append, lle, ll1, ll2, ll3, ll4, ll5, ll6, ll7, ll8, ll9, ll10, ll11, ll12, ll13, ll14, ll15, ll16, ll17, sepS] at *); omega)), _, rfl, by ((refine sz2 ?_; (try simp only [Str.length_append, lle, ll1, ll2, ll3, ll4, ll5, ll6, ll7, ll8, ll9, ll10, ll11, ll12, ll13, ll14, ll15, ll16, ll17, sepS] at *); omega)), _, rfl, .inl ⟨_, rfl, by ((refine sz2 ?_; (try simp only [Str.length_append, lle, ll1, ll2, ll3, ll4, ll5, ll6, ll7, ll8, ll9, ll10, ll11, ll12, ll13, ll14, ll15, ll16, ll17, sepS] at *); omega)), _, rfl, by ((refine sz2 ?_; (try simp only [Str.length_append, lle, ll1, ll2, ll3, ll4, ll5, ll6, ll7, ll8, ll9, ll10, ll11, ll12, ll13, ll14, ll15, ll16, ll17, sepS] at *); omega)), ?_⟩⟩⟩
      simp only [kdText, if_neg nn] at q
      rw [Str.empty_append]
      exact q
  · refine iteNo (by decide +kernel) ⟨_, rfl, rfl, _, rfl, ?_⟩
    rcases hw with rfl | rfl
    · refine iteYes rfl ⟨_, rfl, .inl ⟨_, rfl, by ((refine sz2 ?_; (try simp only [Str.length_append, lle, ll1, ll2, ll3, ll4, ll5, ll6, ll7, ll8, ll9, ll10, ll11, ll12, ll13, ll14, ll15, ll16, ll17, sepS] at *); omega)), _, rfl, by ((refine sz2 ?_; (try simp only [Str.length_append, lle, ll1, ll2, ll3, ll4, ll5, ll6, ll7, ll8, ll9, ll10, ll11, ll12, ll13, ll14, ll15, ll16, ll17, sepS] at *); omega)), _, rfl, .inl ⟨_, rfl, by ((refine sz2 ?_; (try simp only [Str.length_append, lle, ll1, ll2, ll3, ll4, ll5, ll6, ll7, ll8, ll9, ll10, ll11, ll12, ll13, ll14, ll15, ll16, ll17, sepS] at *); omega)), _, rfl, by ((refine sz2 ?_; (try simp only [Str.length_append, lle, ll1, ll2, ll3, ll4, ll5, ll6, ll7, ll8, ll9, ll10, ll11, ll12, ll13, ll14, ll15, ll16, ll17, sepS] at *); omega)), ?_⟩⟩⟩
      simp only [kdText, if_pos] at q
      rw [Str.empty_append]
      exact q
    · refine iteNo (fun z => nn (V.str.inj z)) ⟨_, rfl, .inl ⟨_, rfl, by ((refine sz2 ?_; (try simp only [Str.length_append, lle, ll1, ll2, ll3, ll4, ll5, ll6, ll7, ll8, ll9, ll10, ll11, ll12, ll13, ll14, ll15, ll16, ll17, sepS] at *); omega)), _, rfl, by ((refine sz2 ?_; (try simp only [Str.length_append, lle, ll1, ll2, ll3, ll4, ll5, ll6, ll7, ll8, ll9, ll10, ll11, ll12, ll13, ll14, ll15, ll16, ll17, sepS] at *); omega)), _, rfl, .inl ⟨_, rfl, by ((refine sz2 ?_; (try simp only [Str.length_append, lle, ll1, ll2, ll3, ll4, ll5, ll6, ll7, ll8, ll9, ll10, ll11, ll12, ll13, ll14, ll15, ll16, ll17, sepS] at *); omega)), _, rfl, by ((refine sz2 ?_; (try simp only [Str.length_append, lle, ll1, ll2, ll3, ll4, ll5, ll6, ll7, ll8, ll9, ll10, ll11, ll12, ll13, ll14, ll15, ll16, ll17, sepS] at *); omega)), ?_⟩⟩⟩
      simp only [kdText, if_neg nn] at q
      rw [Str.empty_append]
      exact q
theorem scOpText : FnScope ["sign", "below", "is_point"] ["sign", "below", "is_point"] (defScope sOpText) := ⟨rfl, rfl, rfl, by decide +kernel, rfl, by decide +kernel, by decide +kernel⟩
theorem ok_optext {f : Addr} {fd : FuncData} (F : Fun K "op_text" "op_text" sOpText f fd) : FnOk P w K mg base CX0 1 f fd ["sign", "below", "is_point"] spOpText := by
  refine F.ok scOpText (fun vs H Q E h => ?_) (fun cdv A outer s H vs Q E hr h => ?_)
  · obtain ⟨sg, lb, t, u, m, rfl, _⟩ := h
    rfl
  obtain ⟨sg, lb, t, u, m, rfl, el, hsl, htu, q⟩ := h
  refine ⟨_, (pss_cons (ps_if (pt_val (pv 2)) (pss_one (ps_ret (pe_joined (.cons pe_str (.cons (pe_fmt (pe_ix ix_list (pv 1) pe_int (fun _ _ => rfl))) (.cons pe_str (.cons (pe_fmt (pv 0)) (.cons pe_str (.cons (pe_fmt (pe_ix ix_list (pv 1) pe_int (fun _ _ => rfl))) (.cons pe_str PJ.nil)))))))))) pss_nil)
    (pss_one (ps_ret (pe_joined (.cons pe_str (.cons (pe_fmt (pe_ix ix_list (pv 1) pe_int (fun _ _ => rfl))) (.cons pe_str (.cons (pe_fmt (pv 0)) (.cons pe_str (.cons (pe_fmt (pe_ix ix_list (pv 1) pe_int (fun _ _ => rfl))) (.cons pe_str PJ.nil))))))))))), ?_⟩
  refine ⟨_, rfl, m, rfl, ?_⟩
  have h0 : atI [V.str t, V.str u] 0 = some (.str t) := rfl
  have h1 : atI [V.str t, V.str u] 1 = some (.str u) := rfl
  cases m with
  | true =>
    refine iteT ⟨_, rfl, by ((refine sz2 ?_; (try simp only [Str.length_append, lle, ll1, ll2, ll3, ll4, ll5, ll6, ll7, ll8, ll9, ll10, ll11, ll12, ll13, ll14, ll15, ll16, ll17, sepS] at *); omega)), _, rfl, lb, _, _, _, rfl, rfl, SqL.of el, h0, .inl ⟨_, rfl, by ((refine sz2 ?_; (try simp only [Str.length_append, lle, ll1, ll2, ll3, ll4, ll5, ll6, ll7, ll8, ll9, ll10, ll11, ll12, ll13, ll14, ll15, ll16, ll17, sepS] at *); omega)), _, rfl, by ((refine sz2 ?_; (try simp only [Str.length_append, lle, ll1, ll2, ll3, ll4, ll5, ll6, ll7, ll8, ll9, ll10, ll11, ll12, ll13, ll14, ll15, ll16, ll17, sepS] at *); omega)), _, rfl, by ((refine sz2 ?_; (try simp only [Str.length_append, lle, ll1, ll2, ll3, ll4, ll5, ll6, ll7, ll8, ll9, ll10, ll11, ll12, ll13, ll14, ll15, ll16, ll17, sepS] at *); omega)), _, rfl, .inl ⟨_, rfl, by ((refine sz2 ?_; (try simp only [Str.length_append, lle, ll1, ll2, ll3, ll4, ll5, ll6, ll7, ll8, ll9, ll10, ll11, ll12, ll13, ll14, ll15, ll16, ll17, sepS] at *); omega)), _, rfl, by ((refine sz2 ?_; (try simp only [Str.length_append, lle, ll1, ll2, ll3, ll4, ll5, ll6, ll7, ll8, ll9, ll10, ll11, ll12, ll13, ll14, ll15, ll16, ll17, sepS] at *); omega)), _, rfl, by ((refine sz2 ?_; (try simp only [Str.length_append, lle, ll1, ll2, ll3, ll4, ll5, ll6, ll7, ll8, ll9, ll10, ll11, ll12, ll13, ll14, ll15, ll16, ll17, sepS] at *); omega)),
      _, rfl, lb, _, _, _, rfl, rfl, SqL.of el, h1, .inl ⟨_, rfl, by ((refine sz2 ?_; (try simp only [Str.length_append, lle, ll1, ll2, ll3, ll4, ll5, ll6, ll7, ll8, ll9, ll10, ll11, ll12, ll13, ll14, ll15, ll16, ll17, sepS] at *); omega)), _, rfl, by ((refine sz2 ?_; (try simp only [Str.length_append, lle, ll1, ll2, ll3, ll4, ll5, ll6, ll7, ll8, ll9, ll10, ll11, ll12, ll13, ll14, ll15, ll16, ll17, sepS] at *); omega)), _, rfl, by ((refine sz2 ?_; (try simp only [Str.length_append, lle, ll1, ll2, ll3, ll4, ll5, ll6, ll7, ll8, ll9, ll10, ll11, ll12, ll13, ll14, ll15, ll16, ll17, sepS] at *); omega)), ?_⟩⟩⟩⟩
    have e : (Str.empty ++ "(" ++ t ++ " " ++ sg ++ "; " ++ u ++ ")" : Str) = kdText (.op sg) true [t, u] := by
      simp only [kdText, mkS, semi1, Str.empty_append, Str.append_assoc]
    rw [← e] at q
    exact q
  | false =>
    refine iteF ⟨_, rfl, by ((refine sz2 ?_; (try simp only [Str.length_append, lle, ll1, ll2, ll3, ll4, ll5, ll6, ll7, ll8, ll9, ll10, ll11, ll12, ll13, ll14, ll15, ll16, ll17, sepS] at *); omega)), _, rfl, lb, _, _, _, rfl, rfl, SqL.of el, h0, .inl ⟨_, rfl, by ((refine sz2 ?_; (try simp only [Str.length_append, lle, ll1, ll2, ll3, ll4, ll5, ll6, ll7, ll8, ll9, ll10, ll11, ll12, ll13, ll14, ll15, ll16, ll17, sepS] at *); omega)), _, rfl, by ((refine sz2 ?_; (try simp only [Str.length_append, lle, ll1, ll2, ll3, ll4, ll5, ll6, ll7, ll8, ll9, ll10, ll11, ll12, ll13, ll14, ll15, ll16, ll17, sepS] at *); omega)), _, rfl, by ((refine sz2 ?_; (try simp only [Str.length_append, lle, ll1, ll2, ll3, ll4, ll5, ll6, ll7, ll8, ll9, ll10, ll11, ll12, ll13, ll14, ll15, ll16, ll17, sepS] at *); omega)), _, rfl, .inl ⟨_, rfl, by ((refine sz2 ?_; (try simp only [Str.length_append, lle, ll1, ll2, ll3, ll4, ll5, ll6, ll7, ll8, ll9, ll10, ll11, ll12, ll13, ll14, ll15, ll16, ll17, sepS] at *); omega)), _, rfl, by ((refine sz2 ?_; (try simp only [Str.length_append, lle, ll1, ll2, ll3, ll4, ll5, ll6, ll7, ll8, ll9, ll10, ll11, ll12, ll13, ll14, ll15, ll16, ll17, sepS] at *); omega)), _, rfl, by ((refine sz2 ?_; (try simp only [Str.length_append, lle, ll1, ll2, ll3, ll4, ll5, ll6, ll7, ll8, ll9, ll10, ll11, ll12, ll13, ll14, ll15, ll16, ll17, sepS] at *); omega)),
      _, rfl, lb, _, _, _, rfl, rfl, SqL.of el, h1, .inl ⟨_, rfl, by ((refine sz2 ?_; (try simp only [Str.length_append, lle, ll1, ll2, ll3, ll4, ll5, ll6, ll7, ll8, ll9, ll10, ll11, ll12, ll13, ll14, ll15, ll16, ll17, sepS] at *); omega)), _, rfl, by ((refine sz2 ?_; (try simp only [Str.length_append, lle, ll1, ll2, ll3, ll4, ll5, ll6, ll7, ll8, ll9, ll10, ll11, ll12, ll13, ll14, ll15, ll16, ll17, sepS] at *); omega)), _, rfl, by ((refine sz2 ?_; (try simp only [Str.length_append, lle, ll1, ll2, ll3, ll4, ll5, ll6, ll7, ll8, ll9, ll10, ll11, ll12, ll13, ll14, ll15, ll16, ll17, sepS] at *); omega)), ?_⟩⟩⟩⟩
    have e : (Str.empty ++ "(" ++ t ++ " " ++ sg ++ " " ++ u ++ ")" : Str) = kdText (.op sg) false [t, u] := by
      simp only [kdText, mkS, ee, Str.empty_append, Str.append_assoc]
    rw [← e] at q
    exact q
theorem scCallText : FnScope ["name", "below", "is_point", "inside"] ["name", "below", "is_point"] (defScope sCallText) := ⟨rfl, rfl, rfl, by decide +kernel, rfl, by decide +kernel, by decide +kernel⟩
theorem ok_calltext {f : Addr} {fd : FuncData} (F : Fun K "call_text" "call_text" sCallText f fd) : FnOk P w K mg base CX0 1 f fd ["name", "below", "is_point"] spCallText := by
  refine F.ok scCallText (fun vs H Q E h => ?_) (fun cdv A outer s H vs Q E hr h => ?_)
  · obtain ⟨f, lb, ts, m, rfl, _⟩ := h
    rfl
  obtain ⟨f', lb, ts, m, rfl, el, hfl, htl, htn, q⟩ := h
  refine ⟨_, (pss_cons (ps_set (i := 3) scCallText.nd rfl (.inl rfl) (pe_ifExp (pt_val (pv 2)) (pe_join pe_str (pv 1)) (pe_join pe_str (pv 1))))
    (pss_one (ps_ret (pe_joined (.cons (pe_fmt (pv 0)) (.cons pe_str (.cons (pe_fmt (pv 3)) (.cons pe_str PJ.nil)))))))), ?_⟩
  have hj : ∀ m, (Txt.join (sepS m) ts).length ≤ 40000 := fun m => Nat.le_trans (join_len m ts) (by omega)
  have hj' : (ts.map (·.length)).sum + ts.length * 2 ≤ 16777216 := by unfold tlen at htl; omega
  have e : ∀ m, (Str.empty ++ f' ++ "(" ++ Txt.join (sepS m) ts ++ ")" : Str) = kdText (.call f') m ts := fun m => by
    simp only [kdText, Str.empty_append, Str.append_assoc]
  refine ⟨_, rfl, m, rfl, ?_⟩
  cases m with
  | true =>
    have hj2 := hj true
    refine iteT ⟨⟨_, rfl⟩, _, rfl, _, lb, ts, rfl, rfl, .inl (SqL.of el), hj', _, rfl, .inl ⟨_, rfl, by ((refine sz2 ?_; (try simp only [Str.length_append, lle, ll1, ll2, ll3, ll4, ll5, ll6, ll7, ll8, ll9, ll10, ll11, ll12, ll13, ll14, ll15, ll16, ll17, sepS] at *); omega)), _, rfl, by ((refine sz2 ?_; (try simp only [Str.length_append, lle, ll1, ll2, ll3, ll4, ll5, ll6, ll7, ll8, ll9, ll10, ll11, ll12, ll13, ll14, ll15, ll16, ll17, sepS] at *); omega)), _, rfl, by ((refine sz2 ?_; (try simp only [Str.length_append, lle, ll1, ll2, ll3, ll4, ll5, ll6, ll7, ll8, ll9, ll10, ll11, ll12, ll13, ll14, ll15, ll16, ll17, sepS] at *); omega)), _, rfl, .inl ⟨_, rfl, ?_, _, rfl, ?_, _, rfl, ?_, ?_⟩⟩⟩
    · exact sz2 (Nat.le_trans hj2 (by decide))
    · refine sz2 ?_; rw [Str.length_append, Str.length_append, Str.length_append, lle, ll1]; have : (Txt.join "; " ts).length ≤ 40000 := hj2; omega
    · refine sz2 ?_; rw [Str.length_append, Str.length_append, Str.length_append, Str.length_append, lle, ll1, ll2]; have : (Txt.join "; " ts).length ≤ 40000 := hj2; omega
    · rw [← e] at q; exact q
  | false =>
    have hj2 := hj false
    refine iteF ⟨⟨_, rfl⟩, _, rfl, _, lb, ts, rfl, rfl, .inl (SqL.of el), hj', _, rfl, .inl ⟨_, rfl, by ((refine sz2 ?_; (try simp only [Str.length_append, lle, ll1, ll2, ll3, ll4, ll5, ll6, ll7, ll8, ll9, ll10, ll11, ll12, ll13, ll14, ll15, ll16, ll17, sepS] at *); omega)), _, rfl, by ((refine sz2 ?_; (try simp only [Str.length_append, lle, ll1, ll2, ll3, ll4, ll5, ll6, ll7, ll8, ll9, ll10, ll11, ll12, ll13, ll14, ll15, ll16, ll17, sepS] at *); omega)), _, rfl, by ((refine sz2 ?_; (try simp only [Str.length_append, lle, ll1, ll2, ll3, ll4, ll5, ll6, ll7, ll8, ll9, ll10, ll11, ll12, ll13, ll14, ll15, ll16, ll17, sepS] at *); omega)), _, rfl, .inl ⟨_, rfl, ?_, _, rfl, ?_, _, rfl, ?_, ?_⟩⟩⟩
    · exact sz2 (Nat.le_trans hj2 (by decide))
    · refine sz2 ?_; rw [Str.length_append, Str.length_append, Str.length_append, lle, ll1]; have : (Txt.join ", " ts).length ≤ 40000 := hj2; omega
    · refine sz2 ?_; rw [Str.length_append, Str.length_append, Str.length_append, Str.length_append, lle, ll1, ll2]; have : (Txt.join ", " ts).length ≤ 40000 := hj2; omega
    · rw [← e] at q; exact q
end
end Oo
/-! is_integer and copied, for any data -/
namespace Oo
open PySem L2 PyProof.Rows
abbrev sCopied : Stmt := top 4
def tyD : PyData → String
  | .none => "NoneType"
  | .bool _ => "bool"
  | .int _ => "int"
  | .str _ => "str"
  | .list _ => "list"
  | .tuple _ => "tuple"
  | .dict _ => "dict"
theorem dp_ty {K : PySem.W.Frag} {H : Hp} {v : V} {d : PyData} (h : Dp K H v d) : TyX K H v (.type (tyD d)) := by
  cases h with
  | non => exact .base .non
  | bl b => exact .base (.bl b)
  | int i => exact .base (.int i)
  | str x => exact .base (.str x)
  | lst h _ =>
    rcases h with (h | ⟨o, h⟩) | ⟨o, its, n, hk, hc, _⟩
    · exact .base (.lst h)
    · exact .base (.frz h)
    · exact .kList hk hc
  | tup h _ =>
    rcases h with (h | ⟨o, h⟩) | ⟨o, its, n, hk, hc, _⟩
    · exact .base (.tup h)
    · exact .fTuple h
    · exact .kTuple hk hc
def isI : PyData → Bool
  | .int _ => true
  | _ => false
def isL : PyData → Bool
  | .list _ => true
  | _ => false
def isT : PyData → Bool
  | .tuple _ => true
  | _ => false
theorem kit_L {K : PySem.W.Frag} (d : PyData) : PySem.W.kitOne K (.type (tyD d)) (.type "list") = some (isL d) := by
  cases d <;> (simp only [tyD, isL]; exact kit_ty (by decide +kernel))
theorem kit_T {K : PySem.W.Frag} (d : PyData) : PySem.W.kitOne K (.type (tyD d)) (.type "tuple") = some (isT d) := by
  cases d <;> (simp only [tyD, isT]; exact kit_ty (by decide +kernel))
def isIB : PyData → Bool
  | .int _ => true
  | .bool _ => true
  | _ => false
def isB : PyData → Bool
  | .bool _ => true
  | _ => false
theorem kit_I {K : PySem.W.Frag} (d : PyData) : PySem.W.kitOne K (.type (tyD d)) (.type "int") = some (isIB d) := by
  cases d <;> (simp only [tyD, isIB]; exact kit_ty (by decide +kernel))
theorem kit_B {K : PySem.W.Frag} (d : PyData) : PySem.W.kitOne K (.type (tyD d)) (.type "bool") = some (isB d) := by
  cases d <;> (simp only [tyD, isB]; exact kit_ty (by decide +kernel))
def spIsD (K : PySem.W.Frag) : Sp := fun vs H Q _ => ∃ (v : V) (d : PyData), vs = [v] ∧ Dp K H v d ∧ Q (.bl (isI d)) H
mutual
def Thin : PyData → Prop
  | .list ds => ds.length ≤ 1000 ∧ ThinAll ds
  | .tuple ds => ds.length ≤ 1000 ∧ ThinAll ds
  | _ => True
def ThinAll : List PyData → Prop
  | [] => True
  | d :: r => Thin d ∧ ThinAll r
end
theorem thin_at : ∀ {ds : List PyData}, ThinAll ds → ∀ (i : Nat) (h : i < ds.length), Thin ds[i]
  | _ :: _, h, 0, _ => by
    unfold ThinAll at h
    exact h.1
  | _ :: r, h, i + 1, hi => by
    unfold ThinAll at h
    exact thin_at h.2 i (by simpa using hi)
theorem deep_at : ∀ {ds : List PyData} (i : Nat) (h : i < ds.length), (ds[i]).depth ≤ PyData.depthAll ds
  | d :: r, 0, _ => by
    simp only [PyData.depthAll]
    exact Nat.le_max_left _ _
  | d :: r, i + 1, h => by
    have := deep_at (ds := r) i (by simpa using h)
    simp only [PyData.depthAll, List.getElem_cons_succ]
    exact Nat.le_trans this (Nat.le_max_right _ _)
/-- what stands in H' alone -/
def newer (H H' : Hp) : Hp := fun b => if (H b).isNone = true then H' b else none
theorem newer_iff {H H' : Hp} {b : Addr} {o : HO} : newer H H' b = some o ↔ H b = none ∧ H' b = some o := by
  unfold newer
  cases e : H b with
  | none => simp
  | some x => simp
theorem newer_mono {H1 H2 G1 G2 : Hp} (h : ∀ b, H1 b = none → H2 b = none) (g : ∀ b o, H1 b = none → G1 b = some o → G2 b = some o) : Same (newer H1 G1) (newer H2 G2) := fun b o z => by
  obtain ⟨z1, z2⟩ := newer_iff.mp z
  exact newer_iff.mpr ⟨h b z1, g b o z1 z2⟩
theorem newer_sub {H G : Hp} : Same (newer H G) G := fun b o z => (newer_iff.mp z).2
def spCopied (K : PySem.W.Frag) (N : Nat) : Sp := fun vs H Q _ => ∃ (v : V) (d : PyData), vs = [v] ∧ Dp K H v d ∧ d.depth < N ∧ Thin d ∧ ∀ v' H', Dp K (newer H H') v' d → Same H H' → Q v' H'
theorem dpAll_snoc {K : PySem.W.Frag} {H : Hp} : ∀ {vs : List V} {ds : List PyData} {v : V} {d : PyData}, DpAll K H vs ds → Dp K H v d → DpAll K H (vs ++ [v]) (ds ++ [d])
  | _, _, _, _, .nil, h => .cons h .nil
  | _, _, _, _, .cons a t, h => .cons a (dpAll_snoc t h)
theorem put_free {H H' : Hp} {D : Addr} {o : HO} (s : Same H H') (h : H D = none) : Same H (upd H' D o) := fun b u z => by
  rw [upd_ne (ne_of_none z h)]
  exact s b u z
theorem free_upd {H : Hp} {D b : Addr} {o : HO} (h : upd H D o b = none) : H b = none := by
  by_cases e : b = D
  · subst e
    rw [upd_same] at h
    cases h
  · rw [upd_ne e] at h
    exact h
theorem grown {K : PySem.W.Frag} {H H' H2 : Hp} {D : Addr} {ys : List V} {ds : List PyData} {i : Nat} {v : V} (hi : i < ds.length) (hds : DpAll K (newer (upd H D (.lst [])) H') ys (ds.take i)) (hv : Dp K (newer H' H2) v ds[i]) (sm : Same H H') (eD : H' D = some (.lst ys)) (sm2 : Same H' H2) (hD : H D = none) :
    DpAll K (newer (upd H D (.lst [])) (upd H2 D (.lst (ys ++ [v])))) (ys ++ [v]) (ds.take (i + 1)) := by
  rw [take_succ_get ds i hi]
  have ne : ∀ b, upd H D (.lst []) b = none → b ≠ D := fun b hb e => by
    subst e
    rw [upd_same] at hb
    cases hb
  have out : ∀ b, H' b = none → upd H D (.lst []) b = none := fun b hb => by
    have : b ≠ D := fun e => by
      rw [e, eD] at hb
      cases hb
    rw [upd_ne this]
    exact sm.free hb
  refine dpAll_snoc (dpAll_ext (newer_mono (fun _ z => z) fun b o hb z => ?_) hds) (dp_ext (newer_mono out fun b o hb z => ?_) hv)
  · rw [upd_ne (ne b hb)]
    exact sm2 b o z
  · rw [upd_ne (ne b (out b hb))]
    exact z
section
variable {P : Program} {w : World} {K : PySem.W.Frag} {mg : Str → Option Value} {base : Heap} {X : Cx}
theorem ok_isD {f : Addr} {fd : FuncData} (F : Fun K "is_integer" "is_integer" sIsInt f fd) (mi : mg "int" = none) (mb : mg "bool" = none) (mis : mg "isinstance" = none) : FnOk P w K mg base CX0 1 f fd ["value"] (spIsD K) := by
  refine F.ok scIsInt (fun vs H Q E h => ?_) (fun cdv A outer s H vs Q E hr h => ?_)
  · obtain ⟨v, d, rfl, _⟩ := h
    rfl
  refine ⟨_, (pss_one (ps_ret (pe_and (pe_callB call_isi (by rfl) mis boot_isinstance (pa_cons (pv 0) (pa_cons (pe_bltn (v := .ty "int") (by rfl) mi (by decide +kernel) rfl) pa_nil))) (pe_one (pe_not (pe_callB call_isi (by rfl) mis boot_isinstance (pa_cons (pv 0) (pa_cons (pe_bltn (v := .ty "bool") (by rfl) mb (by decide +kernel) rfl) pa_nil)))))))), ?_⟩
  obtain ⟨v, d, rfl, hd, q⟩ := h
  refine ⟨_, rfl, _, _, _, _, isIB d, rfl, .ty "int", dp_ty hd, kit_I d, _, rfl, ?_⟩
  cases e : isIB d with
  | false =>
    refine iteF ?_
    have : isI d = false := by
      cases d <;> first | rfl | cases e
    rw [this] at q
    exact q
  | true =>
    refine iteT ⟨_, rfl, _, _, _, _, isB d, rfl, .ty "bool", dp_ty hd, kit_B d, _, rfl, ?_⟩
    have : isI d = !isB d := by
      cases d <;> first | rfl | cases e
    rw [this] at q
    exact q
theorem scCopied : FnScope ["value", "item"] ["value"] (defScope sCopied) := ⟨rfl, rfl, rfl, by decide +kernel, rfl, by decide +kernel, by decide +kernel⟩
theorem ok_copied {N L : Nat} {f fn : Addr} {fd fdn : FuncData} (F : Fun K "copied" "copied" sCopied f fd) (mli : mg "list" = none) (mt : mg "tuple" = none) (mis : mg "isinstance" = none)
    (GN : FnOk P w K mg base CX0 L fn fdn ["value"] (spCopied K N)) (kN : PySem.W.keepIn K (.ref fn) = true) (bN : Binds K fdn ["value"] []) (mN : mg "copied" = some (.ref fn)) :
    FnOk P w K mg base CX0 (L + 1) f fd ["value"] (spCopied K (N + 1)) := by
  refine F.ok scCopied (fun vs H Q E h => ?_) (fun cdv A outer s H vs Q E hr h => ?_)
  · obtain ⟨v, d, rfl, _⟩ := h
    rfl
  obtain ⟨v, d, rfl, hd, dep, thin, q⟩ := h
  refine ⟨_, (pss_cons (ps_if (pt_val (pe_callB call_isi (by rfl) mis boot_isinstance (pa_cons (pv 0) (pa_cons (pe_bltn (v := .ty "list") (by rfl) mli (by decide +kernel) rfl) pa_nil)))) (pss_one (ps_ret (pe_lc (own := [("item", 1)]) (g := gName 1) (tt := tYes) (by rfl) scCopied.nd (pi_list (pv 0)) (blkOk_by (own := [("item", 1)]) (N := ["value", "item"]) (sc := defScope sCopied) (by decide +kernel)) (fun _ _ _ _ _ => (pg_name (i := 1) scCopied.nd rfl (Or.inl rfl))) (fun _ _ _ _ _ => pts_nil) (fun _ _ _ _ _ => (pe_call GN hr rfl mN kN bN .nil pass0 (pa_cons (pv 1) pa_nil)))))) pss_nil)
    (pss_cons (ps_if (pt_val (pe_callB call_isi (by rfl) mis boot_isinstance (pa_cons (pv 0) (pa_cons (pe_bltn (v := .ty "tuple") (by rfl) mt (by decide +kernel) rfl) pa_nil)))) (pss_one (ps_ret (pe_tupleOf (by rfl) mt (pe_lc (own := [("item", 1)]) (g := gName 1) (tt := tYes) (by rfl) scCopied.nd (pi_tup (pv 0)) (blkOk_by (own := [("item", 1)]) (N := ["value", "item"]) (sc := defScope sCopied) (by decide +kernel)) (fun _ _ _ _ _ => (pg_name (i := 1) scCopied.nd rfl (Or.inl rfl))) (fun _ _ _ _ _ => pts_nil) (fun _ _ _ _ _ => (pe_call GN hr rfl mN kN bN .nil pass0 (pa_cons (pv 1) pa_nil))))))) pss_nil)
    (pss_one (ps_ret (pv 0))))), ?_⟩
  refine ⟨_, rfl, _, _, _, _, isL d, rfl, .ty "list", dp_ty hd, kit_L d, _, rfl, ?_⟩
  cases hd with
  | @lst a xs ds hs ha =>
    have lens := dpAll_len ha
    unfold Thin at thin
    have depA : PyData.depthAll ds < N := by
      simp only [PyData.depth] at dep
      omega
    refine iteT ⟨_, rfl, a, rfl, ⟨_, hs⟩, fun D hD => ?_⟩
    refine lc_list (K := K) (a := a) (xs := xs) (fun i H' => ∃ ys : List V, ys.length = i ∧ H' D = some (.lst ys) ∧ DpAll K (newer (upd H D (.lst [])) H') ys (ds.take i) ∧ Same H H') ⟨[], rfl, upd_same, by rw [List.take_zero]; exact .nil, same_up hD⟩ (fun i H' _ ⟨_, _, _, _, z⟩ => z.seq hs) ?_ ?_
    · rintro i y H' hi ⟨ys, hl, eD, hds, sm⟩
      obtain ⟨hi1, hi2⟩ := List.getElem?_eq_some_iff.mp hi
      have hi3 : i < ds.length := by omega
      have hy : Dp K H' y ds[i] := dp_ext sm (hi2 ▸ dpAll_at ha i hi1 hi3)
      refine ⟨rfl, _, rfl, y, ds[i], rfl, hy, Nat.lt_of_le_of_lt (deep_at i hi3) depA, thin_at thin.2 i hi3, fun v' H2 hv sm2 => ⟨_, sm2 _ _ eD, small1000 (by omega), ys ++ [v'], ?_, upd_same, ?_, put_free (sm.trans sm2) hD⟩⟩
      · rw [List.length_append, hl]
        rfl
      · exact grown hi3 hds hv sm eD sm2 hD
    · rintro H' ⟨ys, hl, eD, hds, sm⟩
      rw [lens, List.take_length] at hds
      exact q _ _ (.lst (SqL.of (newer_iff.mpr ⟨hD, eD⟩)) (dpAll_ext (newer_mono (fun b hb => free_upd hb) fun _ _ _ z => z) hds)) sm
  | @tup a xs ds hs ha =>
    have lens := dpAll_len ha
    unfold Thin at thin
    have depA : PyData.depthAll ds < N := by
      simp only [PyData.depth] at dep
      omega
    refine iteF ⟨_, rfl, _, _, _, _, true, rfl, .ty "tuple", dp_ty (.tup hs ha), kit_T (.tuple ds), _, rfl, iteT ⟨_, rfl, a, rfl, ⟨_, hs⟩, fun D hD => ?_⟩⟩
    refine lc_tup (K := K) (a := a) (xs := xs) (fun i H' => ∃ ys : List V, ys.length = i ∧ H' D = some (.lst ys) ∧ DpAll K (newer (upd H D (.lst [])) H') ys (ds.take i) ∧ Same H H') ⟨[], rfl, upd_same, by rw [List.take_zero]; exact .nil, same_up hD⟩ (fun i H' _ ⟨_, _, _, _, z⟩ => same_seqT z hs) ?_ ?_
    · rintro i y H' hi ⟨ys, hl, eD, hds, sm⟩
      obtain ⟨hi1, hi2⟩ := List.getElem?_eq_some_iff.mp hi
      have hi3 : i < ds.length := by omega
      have hy : Dp K H' y ds[i] := dp_ext sm (hi2 ▸ dpAll_at ha i hi1 hi3)
      refine ⟨rfl, _, rfl, y, ds[i], rfl, hy, Nat.lt_of_le_of_lt (deep_at i hi3) depA, thin_at thin.2 i hi3, fun v' H2 hv sm2 => ⟨_, sm2 _ _ eD, small1000 (by omega), ys ++ [v'], ?_, upd_same, ?_, put_free (sm.trans sm2) hD⟩⟩
      · rw [List.length_append, hl]
        rfl
      · exact grown hi3 hds hv sm eD sm2 hD
    · rintro H' ⟨ys, hl, eD, hds, sm⟩
      rw [lens, List.take_length] at hds
      refine .inl ⟨D, ys, rfl, SqL.of eD, fun p hp => ?_⟩
      refine q _ _ (.tup (SqT.of (newer_iff.mpr ⟨sm.free hp, upd_same⟩)) (dpAll_ext (newer_mono (fun b hb => free_upd hb) fun b o _ z => (same_up hp) b o z) hds)) (sm.trans (same_up hp))
  | non => exact iteF ⟨_, rfl, _, _, _, _, false, rfl, .ty "tuple", dp_ty .non, kit_T .none, _, rfl, iteF ⟨_, rfl, q _ _ .non (Same.refl _)⟩⟩
  | bl b => exact iteF ⟨_, rfl, _, _, _, _, false, rfl, .ty "tuple", dp_ty (.bl b), kit_T (.bool b), _, rfl, iteF ⟨_, rfl, q _ _ (.bl b) (Same.refl _)⟩⟩
  | int i => exact iteF ⟨_, rfl, _, _, _, _, false, rfl, .ty "tuple", dp_ty (.int i), kit_T (.int i), _, rfl, iteF ⟨_, rfl, q _ _ (.int i) (Same.refl _)⟩⟩
  | str x => exact iteF ⟨_, rfl, _, _, _, _, false, rfl, .ty "tuple", dp_ty (.str x), kit_T (.str x), _, rfl, iteF ⟨_, rfl, q _ _ (.str x) (Same.refl _)⟩⟩
end
end Oo
/-! errors with one field: super().__init__(f'..{x!r}'); self.x = copied(x) -/
namespace Oo
open PySem PySem.Spec L2 PyProof.Rows
/-- a method whose scope has __class__ from the class around it: the cell at cc, the code at cda -/
structure FunS (K : PySem.W.Frag) (x qual : Str) (st : Stmt) (f : Addr) (fd : FuncData) (cda cc : Addr) : Prop where
  ex : ∃ (oc : Value) (od : Option Addr) (dV kV doc pm : Value) (an : Option Addr) (ct : Value) (osl : Array (Option Value)),
    fd = PySem.W.ksFn x qual (defArgs st) (defBody st) (defScope st) dV kV doc pm an (.ref cda) ct cc ∧ K.lookup f = some ⟨oc, od, .func fd, osl⟩ ∧ PySem.W.codeIn K (.ref cda) qual = true
/-- the data that an error takes -/
structure Errs (d : PyData) (N : Nat) : Prop where
  shw : d.showable = true
  nod : d.hasDict = false
  dep : d.depth < N
  sixty : N ≤ 60
  thin : Thin d
  len : d.shown.length ≤ 100000
def spErr (K : PySem.W.Frag) (C : Addr) (g : Str) (N : Nat) : Sp := fun vs H Q _ => ∃ (a : Addr) (y : V) (d : PyData), vs = [.ref a, y] ∧ H a = some (exo a C none) ∧ Dp K H y d ∧ Errs d N ∧
  ∀ y' m H1, Same H H1 → Dp K (newer H H1) y' d → H1 m = none → m ≠ a → Q .non (upd (upd H1 m (exd m [(g, y')])) a (exo a C (some m)))
theorem err_many {K : PySem.W.Frag} {C : Addr} {g p q : Str} {N : Nat} : ∀ vs H Q E, spErr K C g N vs H Q E → vs.length = [p, q].length := fun vs H Q E h => by
  obtain ⟨a, y, d, rfl, _⟩ := h
  rfl
section
variable {P : Program} {w : World} {K : PySem.W.Frag} {mg : Str → Option Value} {base : Heap}
end
end Oo
/-! what the head tells of an own exception: its class, its __init__ with the cell of __class__ -/
namespace Oh
open PySem PySem.Spec PyProof.Rows L2 He
/-- a def's parts without its cells -/
def fnC (K : PySem.W.Frag) (a : Addr) : He5.FnW := match K.lookup a with
  | some ⟨_, _, .func fd, _⟩ => some (fd.name, fd.qualname, fd.params, fd.body, fd.scope, fd.globals, [], fd.builtins)
  | _ => none
def cellB (K : PySem.W.Frag) (c C : Addr) : Bool := match K.lookup c with
  | some ⟨_, _, .cell (some v), _⟩ => decide (v = .ref C)
  | _ => false
def fileB (K : PySem.W.Frag) (cd : Addr) (file : Str) : Bool := match K.lookup cd with
  | some ⟨_, _, .fields vs, _⟩ => (match (vs[2]? : Option Value) with
    | some (Value.str z _) => file == z
    | _ => false)
  | _ => false
/-- the cell, the code, the first parameter of the method m of the class x -/
def cloB (x m q me file : Str) : PySem.W.Frag → Bool := fun K => match K.lookup (ma K (ga K x) m) with
  | some ⟨_, _, .func fd, _⟩ => (match fd.closure, fd.code, fd.params.posonlyargs ++ fd.params.args with
    | [(y, c)], .ref cd, ar :: _ => decide (fd.defaults = Value.none) && (decide (y = "__class__") && (decide (ar.arg = me) && (PySem.W.codeIn K (.ref cd) q && (cellB K c (ga K x) && fileB K cd file))))
    | _, _, _ => false)
  | _ => false
def excB (B nw ini : String) (up : List Value) (x g : Str) : PySem.W.Frag → Bool := fun K =>
  PySem.W.excInitIn K (ga K x) up nw && (PySem.W.excOver K (ga K x) up && ((PySem.W.clsIn K (ga K x)).any (fun c => c.hasDict) && (eqO (PySem.W.findIn K (.ref (ga K x)) "__setattr__") (some (some (.builtin "object.__setattr__"))) &&
  (decide (PySem.W.subIn K (.ref (ga K x)) (.type "BaseException") = some true) && (decide (PySem.W.subIn K (.ref (ga K x)) (.type B) = some true) && (decide (PySem.W.typeIn K (.ref (ga K x)) = some (.type "type")) && (PySem.W.keepIn K (.ref (ga K x)) &&
  (eqO (PySem.W.ks_superIn K (ga K x) (ga K x) "__init__") (some (some (.builtin ini))) && (decide (PySem.W.mroIn K (ga K x) (.ref (ga K x)) = some true) &&
  (eqO (PySem.W.takerIn K (ga K x) g) (some none) && (eqO (PySem.W.findIn K (.ref (ga K x)) "__init__") (some (some (.ref (ma K (ga K x) "__init__")))) && decide (PySem.W.typeIn K (.ref (ma K (ga K x) "__init__")) = some (.type "function")))))))))))))
/-- caught: its class, its field -/
def xcB (x : Str) : PySem.W.Frag → Bool := fun K =>
  decide (PySem.W.exmOne K (.ref (ga K x)) (.ref (ga K x)) = some true) && (eqO (PySem.W.findIn K (.ref (ga K x)) "__getattribute__") (some (some (.builtin "BaseException.__getattribute__"))) && (eqO (PySem.W.findIn K (.ref (ga K x)) "__getattr__") (some none) &&
  (decide (PySem.W.subIn K (.ref (ga K x)) (.type "BaseException") = some true) && (PySem.W.hasDictIn K (ga K x) && (eqO (PySem.W.findIn K (.ref (ga K x)) "__class__") (some (some (.builtin "object.__class__"))) &&
  (eqO (PySem.W.specialIn K (.builtin "object.__class__") "__get__") (some (some (.builtin "getset_descriptor.__get__"))) && (decide (PySem.W.takesIn K (.builtin "object.__class__") = some true) && decide (PySem.W.mroIn K (ga K x) (.type "object") = some true))))))))
def statB : PySem.W.Frag → Bool := fun K => eqO (PySem.W.nsIn K cStatics "thirdparty.any") (some none)
def kitB (x : Str) (T : String) (b : Bool) : PySem.W.Frag → Bool := fun K => decide (PySem.W.kitOne K (.ref (ga K x)) (.type T) = some b)
end Oh
namespace Oo
open PySem PySem.Spec PyProof.Rows L2
section
variable {P : Program} {K : PySem.W.Frag} {mg : Str → Option Value}
/-- what is told of an own exception -/
structure OwnX (K : PySem.W.Frag) (B nw ini : String) (up : List Value) (C f : Addr) (g : Str) : Prop where
  T : ExB K B nw ini up C
  free : PySem.W.takerIn K C g = some none
  iN : PySem.W.findIn K (.ref C) "__init__" = some (some (.ref f))
  tN : PySem.W.typeIn K (.ref f) = some (.type "function")
theorem own_of {B nw ini : String} {up : List Value} {x g : Str} (h : Oh.excB B nw ini up x g K = true) : OwnX K B nw ini up (He.ga K x) (He.ma K (He.ga K x) "__init__") g := by
  obtain ⟨h1, h⟩ := He.ba h
  obtain ⟨h2, h⟩ := He.ba h
  obtain ⟨h3, h⟩ := He.ba h
  obtain ⟨h4, h⟩ := He.ba h
  obtain ⟨h5, h⟩ := He.ba h
  obtain ⟨h6, h⟩ := He.ba h
  obtain ⟨h7, h⟩ := He.ba h
  obtain ⟨h8, h⟩ := He.ba h
  obtain ⟨h9, h⟩ := He.ba h
  obtain ⟨ha, h⟩ := He.ba h
  obtain ⟨hb, h⟩ := He.ba h
  obtain ⟨hc, hd⟩ := He.ba h
  exact ⟨⟨h1, h2, h3, He.eqO_ok h4, of_decide_eq_true h5, of_decide_eq_true h6, of_decide_eq_true h7, h8, He.eqO_ok h9, of_decide_eq_true ha⟩, He.eqO_ok hb, He.eqO_ok hc, of_decide_eq_true hd⟩
structure CatX (K : PySem.W.Frag) (C : Addr) : Prop where
  ex : PySem.W.exmOne K (.ref C) (.ref C) = some true
  xc : ExcC K C
  xf : XfC K C
theorem cat_of {x : Str} (h : Oh.xcB x K = true) : CatX K (He.ga K x) := by
  obtain ⟨h1, h⟩ := He.ba h
  obtain ⟨h2, h⟩ := He.ba h
  obtain ⟨h3, h⟩ := He.ba h
  obtain ⟨h4, h⟩ := He.ba h
  obtain ⟨h5, h⟩ := He.ba h
  obtain ⟨h6, h⟩ := He.ba h
  obtain ⟨h7, h⟩ := He.ba h
  obtain ⟨h8, h9⟩ := He.ba h
  exact ⟨of_decide_eq_true h1, ⟨He.eqO_ok h2, He.eqO_ok h3, of_decide_eq_true h4, h5, He.eqO_ok h6, He.eqO_ok h7, of_decide_eq_true h8, of_decide_eq_true h9⟩, ⟨He.eqO_ok h2, He.eqO_ok h3, of_decide_eq_true h4, h5⟩⟩
/-- .. whose defaults are none -/
def FunN (x qual : Str) (st : Stmt) (fd : FuncData) (cda cc : Addr) : Prop := ∃ (kV doc pm : Value) (an : Option Addr) (ct : Value), fd = PySem.W.ksFn x qual (defArgs st) (defBody st) (defScope st) .none kV doc pm an (.ref cda) ct cc
/-- the __init__ of an own exception, and what super() asks there -/
theorem sup_of {x m q me : Str} {st : Stmt} (e : Oh.fnC K (He.ma K (He.ga K x) m) = some (m, q, defArgs st, .stmts (defBody st), defScope st, mainGlobals, [], builtinsNs)) (h : Oh.cloB x m q me P.main.file K = true) (st0 : Oh.statB K = true)
    (noSup : mg "super" = none) (top : (P.main.scope.names.lookup ("super" : Str)).isSome = false) :
    ∃ fd cda cc, FunS K m q st (He.ma K (He.ga K x) m) fd cda cc ∧ FunN m q st fd cda cc ∧ SupF P K mg (He.ga K x) (He.ma K (He.ga K x) m) cda cc fd me := by
  unfold Oh.fnC at e
  unfold Oh.cloB at h
  cases z : K.lookup (He.ma K (He.ga K x) m) with
  | none =>
    rw [z] at e
    cases e
  | some o =>
    obtain ⟨oc, od, dt, osl⟩ := o
    rw [z] at e h
    cases dt with
    | func fd =>
      obtain ⟨n1, n2, n3, n4, n5, n6, n7, n8, n9, n10, n11, n12, n13, n14, n15⟩ := fd
      have e2 : (some (n1, n2, n3, n4, n5, n6, [], n15) : He5.FnW) = some (m, q, defArgs st, .stmts (defBody st), defScope st, mainGlobals, [], builtinsNs) := e
      simp only [Option.some.injEq, Prod.mk.injEq] at e2
      obtain ⟨a1, a2, a3, a4, a5, a6, _, a8⟩ := e2
      subst a1 a2 a3 a4 a5 a6 a8
      dsimp only at h
      cases n7 with
      | nil => cases h
      | cons p r =>
        obtain ⟨y, c⟩ := p
        cases r with
        | cons _ _ => cases h
        | nil =>
          cases n13 with
          | ref cd =>
            cases hp : (defArgs st).posonlyargs ++ (defArgs st).args with
            | nil =>
              rw [hp] at h
              cases h
            | cons ar more =>
              rw [hp] at h
              obtain ⟨b0, h⟩ := He.ba h
              obtain ⟨b1, h⟩ := He.ba h
              obtain ⟨b2, h⟩ := He.ba h
              obtain ⟨b3, h⟩ := He.ba h
              obtain ⟨b4, b5⟩ := He.ba h
              have y1 := of_decide_eq_true b1
              have y2 := of_decide_eq_true b2
              have y0 : n8 = Value.none := of_decide_eq_true b0
              subst y0 y1 y2
              refine ⟨_, cd, c, ⟨oc, od, _, n9, n10, n11, n12, n14, osl, rfl, z, b3⟩, ⟨n9, n10, n11, n12, n14, rfl⟩, ⟨⟨oc, od, osl, z⟩, ⟨ar, ?_, rfl⟩, ?_, ?_, noSup, top, He.eqO_ok st0⟩⟩
              · show ((defArgs st).posonlyargs ++ (defArgs st).args).head? = some ar
                rw [hp]
                rfl
              · unfold Oh.fileB at b5
                split at b5
                · rename_i q1 q2 vs q3 lc
                  split at b5
                  · rename_i zf tf hz
                    exact ⟨q1, q2, vs, q3, zf, tf, lc, hz, b5⟩
                  · cases b5
                · cases b5
              · unfold Oh.cellB at b4
                split at b4
                · rename_i q1 q2 v q3 lc
                  rw [of_decide_eq_true b4] at lc
                  exact ⟨q1, q2, q3, lc⟩
                · cases b4
          | _ => cases h
    | _ => cases e
theorem FunN.binds {x qual : Str} {st : Stmt} {cda cc : Addr} {fd : FuncData} {ps : List Str} (F : FunN x qual st fd cda cc)
    (h : ∀ (kV doc pm : Value) (an : Option Addr) (ct : Value) (us : List Value), us.length = ps.length → bindArgs (PySem.W.ksFn x qual (defArgs st) (defBody st) (defScope st) .none kV doc pm an (.ref cda) ct cc) ⟨us, []⟩ = pure (ps.zip us)) : Binds K fd ps [] := by
  obtain ⟨kV, doc, pm, an, ct, rfl⟩ := F
  exact .all (h kV doc pm an ct)
end
end Oo
/-! the head: what stands behind the top, read by one hook -/
namespace Oh
open PySem PySem.Spec PyProof.Rows L2 He
abbrev Fct : Type := PySem.W.Frag → Bool
abbrev AlO : Type := (List He5.FnW × List (Option (List (Option (Str × Int))))) × Bool
def rf (g : Addr → Option Obj) (as : List Addr) : List Addr := as.flatMap fun a => match g a with
  | some o => refsD o
  | none => []
def clsNs (g : Addr → Option Obj) (as : List Addr) : List Addr := as.filterMap fun a => match g a with
  | some ⟨_, _, .cls cd, _⟩ => some cd.ns
  | _ => none
def fnsOf (g : Addr → Option Obj) (as : List Addr) : List Addr := as.filter fun a => match g a with
  | some ⟨_, _, .func _, _⟩ => true
  | _ => false
def dicsOf (g : Addr → Option Obj) (as : List Addr) : List Addr := as.filter fun a => match g a with
  | some ⟨_, _, .dict _ _, _⟩ => true
  | _ => false
/-- what the end looks at: the module's names, what they name, methods, their code objects -/
def as4 (g : Addr → Option Obj) (l1 l2 l3 l4 : List Addr) : List Addr := mainGlobals :: cStatics :: (l1 ++ (l2 ++ (l3 ++ (l4 ++ rf g (fnsOf g l4 ++ dicsOf g l4)))))
def as3 (g : Addr → Option Obj) (l1 l2 l3 : List Addr) : List Addr := as4 g l1 l2 l3 (rf g l3)
def as1 (g : Addr → Option Obj) (l1 : List Addr) : List Addr := as3 g l1 (rf g l1) (rf g (clsNs g l1))
def asF (g : Addr → Option Obj) : List Addr := as1 g (rf g [mainGlobals])
def obsO (fn fe : List He5.DefA) (ts : List Tab) (tf : List Defn) (fc : List Fct) (g : Addr → Option Obj) : AlO :=
  ((fn.map (fun d => He5.fnA (frT g (asF g)) (d.at_ (frT g (asF g)))) ++ fe.map (fun d => fnC (frT g (asF g)) (d.at_ (frT g (asF g)))), ts.map fun t => dicW (frT g (asF g)) (t.1 (frT g (asF g)))),
    (fn.all fun d => d.ok (frT g (asF g))) && ((fc.all fun f => f (frT g (asF g))) && tabsB g tf (frT g (asF g))))
def valO (fn fe : List He5.DefA) (ts : List Tab) (w : World) : AlO := ((fn.map He5.DefA.val ++ fe.map He5.DefA.val, ts.map fun t => some (keysIn w.params t.2)), true)
structure SaysO (fn fe : List He5.DefA) (ts : List Tab) (tf : List Defn) (fc : List Fct) (w : World) (h : Heap) (K : PySem.W.Frag) : Prop where
  d : fn.map (fun d => He5.fnA K (d.at_ K)) = fn.map He5.DefA.val
  e : fe.map (fun d => fnC K (d.at_ K)) = fe.map He5.DefA.val
  t : ts.map (fun t => dicW K (t.1 K)) = ts.map fun t => some (keysIn w.params t.2)
  ok : (fn.all fun d => d.ok K) = true
  f : (fc.all fun f => f K) = true
  hd : ∀ p ∈ tf, PySem.W.codeHdIn K (cT K p).1 (cT K p).2 = true
  out : ∀ p ∈ tf, K.lookup (cT K p).2 = none
  empty : ∀ p ∈ tf, h.get? (cT K p).2 = some { cls := .none, data := .fields #[] }
theorem saysO_of {fn fe : List He5.DefA} {ts : List Tab} {tf : List Defn} {fc : List Fct} {w : World} {h : Heap} (e : obsO fn fe ts tf fc h.get? = valO fn fe ts w) : SaysO fn fe ts tf fc w h (frT h.get? (asF h.get?)) := by
  have e0 : fn.map (fun d => He5.fnA (frT h.get? (asF h.get?)) (d.at_ (frT h.get? (asF h.get?)))) ++ fe.map (fun d => fnC (frT h.get? (asF h.get?)) (d.at_ (frT h.get? (asF h.get?)))) = fn.map He5.DefA.val ++ fe.map He5.DefA.val := congrArg (fun z : AlO => z.1.1) e
  obtain ⟨e1, e1'⟩ := List.append_inj e0 (by rw [List.length_map, List.length_map])
  have e2 : ts.map (fun t => dicW (frT h.get? (asF h.get?)) (t.1 (frT h.get? (asF h.get?)))) = ts.map fun t => some (keysIn w.params t.2) := congrArg (fun z : AlO => z.1.2) e
  have e3 : ((fn.all fun d => d.ok (frT h.get? (asF h.get?))) && ((fc.all fun f => f (frT h.get? (asF h.get?))) && tabsB h.get? tf (frT h.get? (asF h.get?)))) = true := congrArg (fun z : AlO => z.2) e
  obtain ⟨h1, e4⟩ := ba e3
  obtain ⟨h2, h3⟩ := ba e4
  have key : ∀ p ∈ tf, PySem.W.codeHdIn (frT h.get? (asF h.get?)) (cT (frT h.get? (asF h.get?)) p).1 (cT (frT h.get? (asF h.get?)) p).2 = true ∧ ∃ o, h.get? (cT (frT h.get? (asF h.get?)) p).2 = some o ∧ emptyTab o = true := fun p hp => by
    obtain ⟨k1, k2⟩ := ba (List.all_eq_true.mp h3 p hp)
    refine ⟨k1, ?_⟩
    cases q : h.get? (cT (frT h.get? (asF h.get?)) p).2 with
    | none =>
      rw [q] at k2
      cases k2
    | some o =>
      rw [q] at k2
      exact ⟨o, rfl, k2⟩
  exact ⟨e1, e1', e2, h1, h2, fun p hp => (key p hp).1, fun p hp => by
    obtain ⟨_, o, q, z⟩ := key p hp
    exact frT_none q z, fun p hp => by
    obtain ⟨_, o, q, z⟩ := key p hp
    rw [q, emptyTab_eq z]⟩
def hookO (fn fe : List He5.DefA) (ts : List Tab) (tf : List Defn) (fc : List Fct) : PySem.W.Hook where
  α := AlO
  obs := fun s => obsO fn fe ts tf fc s.heap.get?
  val := fun w => valO fn fe ts w
  says := fun w h => ∃ K : PySem.W.Frag, K.In h ∧ SaysO fn fe ts tf fc w h K
  of := fun _ _ e => ⟨_, frT_in, saysO_of e⟩
  keeps := fun _ _ _ ⟨K, hK, c⟩ k => ⟨K, PySem.W.Frag.In.keeps hK k, ⟨c.d, c.e, c.t, c.ok, c.f, c.hd, c.out, fun p hp => k _ _ (c.empty p hp)⟩⟩
theorem obsO_eq {fn fe : List He5.DefA} {ts : List Tab} {tf : List Defn} {fc : List Fct} {g : Addr → Option Obj} {s : Shared} (h : ∀ a, g a = s.heap.get? a) : obsO fn fe ts tf fc g = (hookO fn fe ts tf fc).obs s := by
  have e : g = s.heap.get? := funext h
  rw [e] <;> rfl
section
variable {fn fe : List He5.DefA} {ts : List Tab} {tf : List Defn} {fc : List Fct} {w : World} {h : Heap} {K : PySem.W.Frag}
theorem SaysO.fact (c : SaysO fn fe ts tf fc w h K) (i : Nat) {f : Fct} (e : fc[i]? = some f) : f K = true := List.all_eq_true.mp c.f f (List.mem_of_getElem? e)
theorem SaysO.def_ (c : SaysO fn fe ts tf fc w h K) (i : Nat) {d : He5.DefA} (e : fn[i]? = some d) : ∃ fd, FunD K d.name d.qual d.params d.body d.scope (d.dvs K) (d.kws K) (d.at_ K) fd := by
  have e2 : (fn.map fun d => He5.fnA K (d.at_ K))[i]? = (fn.map He5.DefA.val)[i]? := by rw [c.d]
  rw [List.getElem?_map, List.getElem?_map, e] at e2
  exact He5.DefA.funD (Option.some.inj e2) (List.all_eq_true.mp c.ok d (List.mem_of_getElem? e))
theorem SaysO.exc (c : SaysO fn fe ts tf fc w h K) (i : Nat) {d : He5.DefA} (e : fe[i]? = some d) : fnC K (d.at_ K) = d.val := by
  have e2 : (fe.map fun d => fnC K (d.at_ K))[i]? = (fe.map He5.DefA.val)[i]? := by rw [c.e]
  rw [List.getElem?_map, List.getElem?_map, e] at e2
  exact Option.some.inj e2
theorem SaysO.tab (c : SaysO fn fe ts tf fc w h K) (i : Nat) {t : Tab} (e : ts[i]? = some t) : ∃ es n, KDict K w (t.1 K) es n := by
  have e2 : (ts.map fun t => dicW K (t.1 K))[i]? = (ts.map fun t => some (keysIn w.params t.2))[i]? := by rw [c.t]
  rw [List.getElem?_map, List.getElem?_map, e] at e2
  exact dicW_ok (Option.some.inj e2)
end
/-! ### what is looked at -/
/-- a value of a written dict -/
def vAt (K : PySem.W.Frag) (d : Addr) (x : Str) : Addr := match PySem.W.nsIn K d x with
  | some (some (.ref a)) => a
  | _ => 0
def dValB (d x : Str) (v : PySem.W.Frag → V) : Fct := fun K => match PySem.W.nsIn K (ga K d) x with
  | some (some u) => relB (v K) u
  | _ => false
def dMissB (d x : Str) : Fct := fun K => eqO (PySem.W.nsIn K (ga K d) x) (some none)
def tupAB (a : PySem.W.Frag → Addr) (vs : List V) : Fct := fun K => match K.lookup (a K) with
  | some ⟨.type c, _, .seq its _, _⟩ => decide (c = "tuple") && (decide (its.size ≤ sizeLine) && relAll vs its.toList)
  | _ => false
def readB (C : Str) : Fct := fun K => PySem.W.readsIn K (ga K C) (.type "type") && eqO (PySem.W.specialIn K (.ref (ga K C)) "__getattribute__") (some (some (.builtin "type.__getattribute__")))
def conCB (C f : Str) (v : V) : Fct := fun K => match PySem.W.findCls K (.ref (ga K C)) (.type "type") f with
  | some (.val u) => relB v u
  | _ => false
def isiB (C : Str) : Fct := fun K => eqO (PySem.W.findIn K (.ref (ga K C)) "__class__") (some (some (.builtin "object.__class__"))) && (eqO (PySem.W.specialIn K (.builtin "object.__class__") "__get__") (some (some (.builtin "getset_descriptor.__get__"))) &&
  (decide (PySem.W.takesIn K (.builtin "object.__class__") = some true) && decide (PySem.W.mroIn K (ga K C) (.type "object") = some true)))
def getterOf (K : PySem.W.Frag) (C m : Str) : Addr := match PySem.W.recIn K (ma K (ga K C) m) "property" with
  | some (.ref g :: _) => g
  | _ => 0
def propB (C m : Str) : Fct := fun K => eqO (PySem.W.findIn K (.ref (ga K C)) m) (some (some (.ref (ma K (ga K C) m)))) && (eqO (PySem.W.specialIn K (.ref (ma K (ga K C) m)) "__get__") (some (some (.builtin "property.__get__"))) &&
  (decide (PySem.W.takesIn K (.ref (ma K (ga K C) m)) = some true) && (match PySem.W.recIn K (ma K (ga K C) m) "property" with
    | some (.ref _ :: _) => true
    | _ => false)))
def fnInB (C m : Str) : Fct := fun K => PySem.W.fnIn K (ma K (ga K C) m)
/-- the default of a task's points -/
def ptAt (K : PySem.W.Frag) : Addr := match K.lookup (ma K (ga K "Task") "__init__") with
  | some ⟨_, _, .func fd, _⟩ => (match fd.kwdefaults with
    | .ref D => vAt K D "points"
    | _ => 0)
  | _ => 0
def faF (f : Fa) : Fct := fun K => f.ok K
def fc0 : List Fct := [Oh.faF (.glo "Function"), Oh.faF (.glo "Book"), Oh.faF (.glo "Task"), Oh.faF (.glo "Span"), Oh.faF (.glo "Layout"), Oh.faF (.glo "SIGNS"), Oh.faF (.glo "LENGTHS"), Oh.faF (.glo "FIRST_OPERANDS"), Oh.faF (.glo "OWN_STEPS"), Oh.faF (.glo "GUARDS"), Oh.faF (.glo "is_integer"), Oh.faF (.glo "is_ascending"), Oh.faF (.glo "is_name"), Oh.faF (.glo "are_places"), Oh.faF (.glo "same_function"), Oh.faF (.glo "is_form"), Oh.faF (.glo "is_change"), Oh.faF (.glo "is_call"), Oh.faF (.glo "operands"), Oh.faF (.glo "nodes_of"), Oh.faF (.glo "node_at"), Oh.faF (.glo "is_open"), Oh.faF (.glo "is_guard"), Oh.faF (.glo "is_open_path"), Oh.faF (.glo "are_points"), Oh.faF (.glo "own_steps"), Oh.faF (.glo "span_of"), Oh.faF (.glo "is_in_order"), Oh.faF (.glo "spans_within"), Oh.faF (.glo "step_of"), Oh.faF (.glo "below_ahead"), Oh.faF (.glo "joined"), Oh.faF (.glo "relations"), Oh.faF (.glo "unasked_within"), Oh.faF (.glo "is_asked_of"), Oh.faF (.glo "copied"), Oh.faF (.glo "_law_bag"), Oh.faF (.glo "_law_take"), Oh.faF (.glo "_law_of"), Oh.faF (.glo "_law_some"), Oh.faF (.glo "_law_kit"), Oh.faF (.glo "_law_book"), Oh.faF (.glo "_law_leaf"), Oh.faF (.glo "_law_guard"), Oh.faF (.glo "_law_expr"), Oh.faF (.glo "_law_root"), Oh.faF (.glo "_law_operands"), Oh.faF (.glo "_law_nodes"), Oh.faF (.glo "_law_open"), Oh.faF (.glo "_law_points"), Oh.faF (.glo "_law_asked"), Oh.faF (.glo "_law_values"), Oh.faF (.glo "law"), Oh.faF (.glo "NoNode")]
def fc1 : List Fct := [Oh.faF (.free "tuple"), Oh.faF (.free "sorted"), Oh.faF (.free "len"), Oh.faF (.free "isinstance"), Oh.faF (.free "int"), Oh.faF (.free "bool"), Oh.faF (.free "all"), Oh.faF (.free "range"), Oh.faF (.free "max"), Oh.faF (.free "min"), Oh.faF (.free "enumerate"), Oh.faF (.free "str"), Oh.faF (.free "abs"), Oh.faF (.free "sum"), Oh.faF (.free "list"), Oh.faF (.free "repr"), Oh.faF (.free "super"), Oh.faF (.free "LookupError"), Oh.faF (.free "IndexError"), Oh.faF (.free "KeyError")]
def fc2 : List Fct := [Oh.faF (.int "MOST_LETTERS" 8), Oh.faF (.int "MOST_PLACES" 4), Oh.faF (.int "MOST_ARGUMENTS" 3), Oh.faF (.int "LARGEST" 999999), Oh.faF (.str "LETTERS" "abcdefghijklmnopqrstuvwxyz")]
def fc3 : List Fct := [Oh.faF (.cls "Function"), Oh.faF (.cls "Book"), Oh.faF (.cls "Task"), Oh.faF (.cls "Span"), Oh.faF (.cls "Layout"), Oh.faF (.mkr "Function"), Oh.faF (.mkr "Book"), Oh.faF (.mkr "Task"), Oh.faF (.mkr "Span"), Oh.faF (.mkr "Layout")]
def fc4 : List Fct := [Oh.faF (.noat "NoNode" "path"), Oh.faF (.noat "Function" "name"), Oh.faF (.noat "Function" "arguments"), Oh.faF (.noat "Function" "reads"), Oh.faF (.noat "Function" "stores"), Oh.faF (.noat "Book" "functions"), Oh.faF (.noat "Task" "book"), Oh.faF (.noat "Task" "expression"), Oh.faF (.noat "Task" "points"), Oh.faF (.noat "Task" "rows"), Oh.faF (.noat "Task" "layout"), Oh.faF (.noat "Task" "__bool__"), Oh.faF (.noat "Span" "path"), Oh.faF (.noat "Span" "form"), Oh.faF (.noat "Span" "below"), Oh.faF (.noat "Span" "is_fixed"), Oh.faF (.noat "Span" "size"), Oh.faF (.noat "Span" "own"), Oh.faF (.noat "Span" "inside"), Oh.faF (.noat "Span" "is_idle"), Oh.faF (.noat "Layout" "root"), Oh.faF (.noat "Layout" "spans"), Oh.faF (.noat "Layout" "owners"), Oh.faF (.noat "Layout" "steps"), Oh.faF (.noat "Layout" "befores"), Oh.faF (.noat "Layout" "besides"), Oh.faF (.noat "Layout" "guard"), Oh.faF (.noat "Layout" "stored"), Oh.faF (.noat "Layout" "unasked")]
def fc5 : List Fct := [Oh.faF (.meth "Book" "__contains__"), Oh.faF (.meth "Book" "__getitem__"), Oh.faF (.meth "Task" "__len__"), Oh.faF (.meth "Task" "open_nodes"), Oh.faF (.meth "Task" "nodes"), Oh.faF (.meth "Task" "node")]
def fc6 : List Fct := [Oh.readB "Book", Oh.readB "Task", Oh.conCB "Book" "MOST" (.int 6), Oh.conCB "Task" "MOST_NODES" (.int 200), Oh.conCB "Task" "MOST_DEPTH" (.int 30), Oh.isiB "Function", Oh.propB "Book" "names", Oh.fnInB "Book" "__getitem__", Oh.tupAB (fun K => He.ga K "SIGNS") [.str "+", .str "-", .str "*", .str "<"], Oh.tupAB (fun K => He.ga K "GUARDS") [.str "and", .str "or", .str "choose"], Oh.tupAB (fun K => Oh.vAt K (He.ga K "OWN_STEPS") "read") [.str "read"], Oh.tupAB (fun K => Oh.vAt K (He.ga K "OWN_STEPS") "store") [.str "store"], Oh.tupAB (fun K => Oh.vAt K (He.ga K "OWN_STEPS") "step") [.str "read", .str "store"], Oh.tupAB (fun K => Oh.vAt K (He.ga K "OWN_STEPS") "call") [.str "call"], Oh.tupAB (Oh.ptAt) []]
def fc7 : List Fct := [Oh.dValB "LENGTHS" "read" fun _ => .int 2, Oh.dValB "LENGTHS" "store" fun _ => .int 3, Oh.dValB "LENGTHS" "step" fun _ => .int 4, Oh.dValB "LENGTHS" "op" fun _ => .int 4, Oh.dValB "LENGTHS" "call" fun _ => .int 3, Oh.dValB "LENGTHS" "then" fun _ => .int 3, Oh.dValB "LENGTHS" "and" fun _ => .int 3, Oh.dValB "LENGTHS" "or" fun _ => .int 3, Oh.dValB "LENGTHS" "choose" fun _ => .int 4, Oh.dValB "FIRST_OPERANDS" "read" fun _ => .int 2, Oh.dValB "FIRST_OPERANDS" "store" fun _ => .int 2, Oh.dValB "FIRST_OPERANDS" "step" fun _ => .int 4, Oh.dValB "FIRST_OPERANDS" "op" fun _ => .int 2, Oh.dValB "FIRST_OPERANDS" "then" fun _ => .int 1, Oh.dValB "FIRST_OPERANDS" "and" fun _ => .int 1, Oh.dValB "FIRST_OPERANDS" "or" fun _ => .int 1, Oh.dValB "FIRST_OPERANDS" "choose" fun _ => .int 1]
def fc8 : List Fct := [Oh.dValB "OWN_STEPS" "read" fun K => .ref (Oh.vAt K (He.ga K "OWN_STEPS") "read"), Oh.dValB "OWN_STEPS" "store" fun K => .ref (Oh.vAt K (He.ga K "OWN_STEPS") "store"), Oh.dValB "OWN_STEPS" "step" fun K => .ref (Oh.vAt K (He.ga K "OWN_STEPS") "step"), Oh.dValB "OWN_STEPS" "call" fun K => .ref (Oh.vAt K (He.ga K "OWN_STEPS") "call"), Oh.dMissB "OWN_STEPS" "op", Oh.dMissB "OWN_STEPS" "then", Oh.dMissB "OWN_STEPS" "and", Oh.dMissB "OWN_STEPS" "or", Oh.dMissB "OWN_STEPS" "choose"]
def fc9 : List Fct := [Oh.excB "LookupError" "LookupError.__new__" "LookupError.__init__" Oo.upLE "NoNode" "path", Oh.xcB "NoNode", Oh.cloB "NoNode" "__init__" "NoNode.__init__" "self" (PySem.W.OpenLaw.row PySem.Challenge.rw_ordersopen_k04_nodes_and_paths).prog.main.file]
def fc10 : List Fct := [Oh.statB]
def fc11 : List Fct := [Oh.kitB "NoNode" "LookupError" true]
def fc12 : List Fct := [Oh.kitB "NoNode" "KeyError" false]
def fc13 : List Fct := [Oh.kitB "NoNode" "IndexError" false]
def fc : List Fct := fc0 ++ (fc1 ++ (fc2 ++ (fc3 ++ (fc4 ++ (fc5 ++ (fc6 ++ (fc7 ++ (fc8 ++ (fc9 ++ (fc10 ++ (fc11 ++ (fc12 ++ (fc13)))))))))))))
def lens : List (Str × Int) := [("read", 2), ("store", 3), ("step", 4), ("op", 4), ("call", 3), ("then", 3), ("and", 3), ("or", 3), ("choose", 4)]
def firsts : List (Str × Int) := [("read", 2), ("store", 2), ("step", 4), ("op", 2), ("then", 1), ("and", 1), ("or", 1), ("choose", 1)]
def owns : List Str := ["read", "store", "step", "call"]
def ts : List Tab := [(fun K => ga K "LENGTHS", lens.map (·.1)), (fun K => ga K "FIRST_OPERANDS", firsts.map (·.1)), (fun K => ga K "OWN_STEPS", owns)]
def tf : List Defn := [("Book", some "__init__")]
def dG (x : Str) (i : Nat) : He5.DefA := ⟨fun K => ga K x, x, x, defArgs (Oo.top i), defBody (Oo.top i), defScope (Oo.top i), [], []⟩
def dM (C m q : Str) (st : Stmt) (dfl : List Dv) : He5.DefA := ⟨fun K => ma K (ga K C) m, m, q, defArgs st, defBody st, defScope st, dfl, []⟩
def fn0 : List He5.DefA := [Oh.dG "is_integer" 2, Oh.dG "is_ascending" 3, Oh.dG "is_name" 19, Oh.dG "are_places" 20, Oh.dG "same_function" 22, Oh.dG "is_form" 31, Oh.dG "is_change" 32, Oh.dG "is_call" 33, Oh.dG "operands" 34, Oh.dG "nodes_of" 35, Oh.dG "node_at" 36, Oh.dG "is_open" 37]
def fn1 : List He5.DefA := [Oh.dG "is_guard" 38, Oh.dG "is_open_path" 39, Oh.dG "are_points" 40, Oh.dG "own_steps" 41, Oh.dG "span_of" 48, Oh.dG "is_in_order" 49, Oh.dG "spans_within" 50, Oh.dG "step_of" 51, Oh.dG "below_ahead" 52, Oh.dG "joined" 53, Oh.dG "relations" 54, Oh.dG "unasked_within" 55]
def fn2 : List He5.DefA := [Oh.dG "is_asked_of" 56, Oh.dG "copied" 4, Oh.dG "_law_bag" 61, Oh.dG "_law_take" 62, Oh.dG "_law_of" 63, Oh.dG "_law_some" 64, Oh.dG "_law_kit" 65, Oh.dG "_law_book" 66, Oh.dG "_law_leaf" 67, Oh.dG "_law_guard" 68, Oh.dG "_law_expr" 69, Oh.dG "_law_root" 70]
def fn3 : List He5.DefA := [Oh.dG "_law_operands" 71, Oh.dG "_law_nodes" 72, Oh.dG "_law_open" 73, Oh.dG "_law_points" 74, Oh.dG "_law_asked" 75, Oh.dG "_law_values" 76, Oh.dG "law" 77, Oh.dM "Function" "__init__" "Function.__init__" (inClass (Oo.top 21) 0) [.int 0], Oh.dM "Book" "__init__" "Book.__init__" (inClass (Oo.top 23) 1) [], Oh.dM "Book" "__getitem__" "Book.__getitem__" (inClass (Oo.top 23) 3) [], Oh.dM "Book" "__contains__" "Book.__contains__" (inClass (Oo.top 23) 4) [], ⟨fun K => He.ma K (He.ga K "Task") "__init__", "__init__", "Task.__init__", defArgs (inClass (Oo.top 59) 2), defBody (inClass (Oo.top 59) 2), defScope (inClass (Oo.top 59) 2), [], [("points", .adr Oh.ptAt)]⟩]
def fn4 : List He5.DefA := [Oh.dM "Task" "open_nodes" "Task.open_nodes" (inClass (Oo.top 59) 5) [], Oh.dM "Span" "__init__" "Span.__init__" (inClass (Oo.top 47) 0) [], Oh.dM "Layout" "__init__" "Layout.__init__" (inClass (Oo.top 57) 0) [], Oh.dM "Task" "nodes" "Task.nodes" (inClass (Oo.top 59) 3) [], Oh.dM "Task" "node" "Task.node" (inClass (Oo.top 59) 4) [], ⟨fun K => Oh.getterOf K "Book" "names", "names", "Book.names", defArgs (inClass (Oo.top 23) 2), defBody (inClass (Oo.top 23) 2), defScope (inClass (Oo.top 23) 2), [], []⟩]
def fn : List He5.DefA := fn0 ++ (fn1 ++ (fn2 ++ (fn3 ++ (fn4))))
def fe : List He5.DefA := [Oh.dM "NoNode" "__init__" "NoNode.__init__" (inClass (Oo.top 12) 0) []]
abbrev R : PySem.W.OpenRow := PySem.W.OpenLaw.row PySem.Challenge.rw_ordersopen_k04_nodes_and_paths
abbrev hk : PySem.W.Hook := hookO fn fe ts tf fc
def ob (s : PySem.W.SharedT) : AlO := obsO fn fe ts tf fc (HandSHeadRun.getT s)
theorem ob_eq (s : PySem.W.SharedT) : ob s = hk.obs s.abs := obsO_eq (HandSHeadRun.getT_eq s)
def names0 : List Str := ["_wall", "is_integer", "is_ascending", "copied", "NoName", "BadFunction", "NoExpression", "BadBook", "NoPoints", "NoFunction", "NoNode", "TooMany", "LETTERS", "MOST_LETTERS", "MOST_ARGUMENTS", "MOST_PLACES", "is_name", "are_places", "Function", "same_function", "Book", "LARGEST", "SIGNS", "LENGTHS", "FIRST_OPERANDS", "OWN_STEPS", "GUARDS", "is_form", "is_change", "is_call"]
def names1 : List Str := ["operands", "nodes_of", "node_at", "is_open", "is_guard", "is_open_path", "are_points", "own_steps", "text_of", "step_text", "op_text", "call_text", "Span", "span_of", "is_in_order", "spans_within", "step_of", "below_ahead", "joined", "relations", "unasked_within", "is_asked_of", "Layout", "Task", "_law_bag", "_law_take", "_law_of", "_law_some", "_law_kit", "_law_book"]
def names2 : List Str := ["_law_leaf", "_law_guard", "_law_expr", "_law_root", "_law_operands", "_law_nodes", "_law_open", "_law_points", "_law_asked", "_law_values"]
def names : List Str := names0 ++ (names1 ++ (names2))
theorem run_f (w : World) : HandSHeadRun.RunEq R (PySem.W.view R.prog [77]) hk ob 9000 names (w.withFollow "special-get-raises" false) := by
  intro os
  kernel_rfl
theorem run_t (w : World) : HandSHeadRun.RunEq R (PySem.W.view R.prog [77]) hk ob 9000 names (w.withFollow "special-get-raises" true) := by
  intro os
  kernel_rfl
theorem run (w : World) : HandSHeadRun.RunEq R (PySem.W.view R.prog [77]) hk ob 9000 names w := PySem.W.byRow2 "special-get-raises" (P := fun w => HandSHeadRun.RunEq R (PySem.W.view R.prog [77]) hk ob 9000 names w) run_f run_t w
end Oh
namespace Oo
open PySem L2 PyProof.Rows
/-! texts as codes -/
def lc_ (x : Str) : List Nat := x.cps.toList
theorem lc_app (a b : Str) : lc_ (a ++ b) = lc_ a ++ lc_ b := by
  show (a.cps ++ b.cps).toList = _
  rw [Array.toList_append]
  rfl
theorem lc_inj {a b : Str} (h : lc_ a = lc_ b) : a = b := by
  cases a with
  | mk x =>
    cases b with
    | mk y =>
      have : x = y := Array.toList_inj.mp h
      rw [this]
def dg (n : Nat) : List Nat := lc_ (Str.ofString (toString (n : Int)))
theorem dg_eq (n : Nat) : dg n = (Nat.toDigits 10 n).map Char.toNat := by
  unfold dg
  rw [Str.ofString_eq_toList]
  show ((Nat.repr n).toList.map Char.toNat).toArray.toList = _
  rw [List.toList_toArray]
  congr 1
  simp [Nat.repr]
theorem dg_inj {n m : Nat} (h : dg n = dg m) : n = m := by
  rw [dg_eq, dg_eq] at h
  have hj : ∀ (a b : List Char), a.map Char.toNat = b.map Char.toNat → a = b := fun a b h => (List.map_inj_right (fun x y z => by
    exact Char.ext (UInt32.toNat_inj.mp z))).mp h
  have h2 := hj _ _ h
  refine Nat.repr_injective ?_
  unfold Nat.repr
  rw [h2]
def isDg (c : Nat) : Bool := decide (48 ≤ c) && decide (c ≤ 57)
def isLt (c : Nat) : Bool := decide (97 ≤ c) && decide (c ≤ 122)
theorem dg_all (n : Nat) : ∀ c ∈ dg n, isDg c = true := by
  intro c hc
  rw [dg_eq] at hc
  obtain ⟨d, hd, rfl⟩ := List.mem_map.mp hc
  have := Nat.isDigit_of_mem_toDigits (by decide) (by decide) hd
  unfold Char.isDigit at this
  simp only [Bool.and_eq_true, decide_eq_true_eq] at this
  obtain ⟨h1, h2⟩ := this
  have h1' : 48 ≤ d.toNat := h1
  have h2' : d.toNat ≤ 57 := h2
  unfold isDg
  simp [h1', h2']
theorem dg_ne (n : Nat) : dg n ≠ [] := by
  rw [dg_eq]
  intro h
  have := List.map_eq_nil_iff.mp h
  exact Nat.toDigits_ne_nil this
def jn : List (List Nat) → List Nat
  | [] => []
  | [c] => c
  | c :: d :: r => c ++ 44 :: 32 :: jn (d :: r)
theorem span_eq {p : Nat → Bool} : ∀ {a a' r r' : List Nat}, (∀ c ∈ a, p c = true) → (∀ c ∈ a', p c = true) → (∀ c l, r = c :: l → p c = false) → (∀ c l, r' = c :: l → p c = false) → a ++ r = a' ++ r' → a = a' ∧ r = r'
  | [], [], r, r', _, _, _, _, h => ⟨rfl, h⟩
  | [], c :: l, r, r', _, h2, h3, _, h => by
    have e1 := h3 c _ h
    rw [h2 c List.mem_cons_self] at e1
    cases e1
  | c :: l, [], r, r', h1, _, _, h4, h => by
    have e1 := h4 c _ h.symm
    rw [h1 c List.mem_cons_self] at e1
    cases e1
  | c :: l, c' :: l', r, r', h1, h2, h3, h4, h => by
    have h' : c :: (l ++ r) = c' :: (l' ++ r') := h
    injection h' with e1 e2
    obtain ⟨e3, e4⟩ := span_eq (fun x hx => h1 x (List.mem_cons_of_mem _ hx)) (fun x hx => h2 x (List.mem_cons_of_mem _ hx)) h3 h4 e2
    exact ⟨by rw [e1, e3], e4⟩
end Oo
/-! a law's own def where no repr is under way: its promise, its rule, its end -/
namespace Oo
open PySem PySem.Spec PyProof.Rows L2 LamX
structure FnG (P : Program) (w : World) (K : PySem.W.Frag) (mg : Str → Option Value) (base : Heap) (k : Nat) (f : Addr) (fd : FuncData) (ps : List Str) (sp : Sp) : Prop where
  many : ∀ vs H Q E, sp vs H Q E → vs.length = ps.length
  go : ∀ (A : Around) (outer : List Env) (s : Shared) (H : Hp) (args : Args) (us : List Value) (vs : List V) (Q : VK) (E : XK), A.guards = some [] → Room k A → Env0 P w K mg base A outer s H → BindsTo s fd args (ps.zip us) → Vals vs us → sp vs H Q E →
    codeAny (model P w) A (.call (.ref f) args) (CR CX0 outer P w H s Q E) s
section
variable {P : Program} {w : World} {K : PySem.W.Frag} {mg : Str → Option Value} {base : Heap}
theorem ok_quiet {x qual : Str} {st : Stmt} {f : Addr} {fd : FuncData} {N ps : List Str} {k : Nat} {sp : Sp} (F : Fun K x qual st f fd) (S : FnScope N ps (defScope st)) (hm : ∀ vs H Q E, sp vs H Q E → vs.length = ps.length)
    (body : ∀ (cdv : Value) (A : Around) (outer : List Env) (s : Shared) (H : Hp) (vs : List V) (Q : VK) (E : XK), A.guards = some [] → Room k (A.deeper (envOfC qual (defScope st) s.heap.objs.size f cdv)) → sp vs H Q E →
      ∃ t, PSs (cxOf CX0 P w K mg base N qual (defScope st) f cdv A outer s H E).nox (defBody st) t ∧ t { nx := fun _ H' => Q .non H', rt := Q } (start N vs) H) : FnG P w K mg base (k + 1) f fd ps sp := by
  obtain ⟨oc, od, kV, doc, pm, an, cdv, ct, osl, rfl, lk, hcd⟩ := F.ex
  refine ⟨hm, fun A outer s H args us vs Q E quiet room start0 bnd rels promise => ?_⟩
  have grow := fun b o e => (start0.bs b o e).1
  have inS : K.In s.heap := start0.mod.kin.keeps grow
  refine codeAny_call_function room.depth (inS _ _ lk) rfl S.co S.gen rfl (PySem.W.codeRec_of inS hcd) (bnd _ _ _ _ ?_)
  refine wpAny_newFunctionEnv_cells S.kind (fun p hp => ?_) fun env he s1 came => ?_
  · obtain ⟨n, v⟩ := p
    exact (S.par n (List.of_mem_zip hp).1).imp id fun z => ⟨z, PySem.W.cellsFrom_some _ _ _ (.inl z)⟩
  subst he
  refine ⟨(start0.mod.nolimit.keeps grow).keeps came.toInCall.keep, codeAny_func ?_⟩
  obtain ⟨t, ht, hq⟩ := body cdv A outer s H vs Q E quiet (room.deeper _) promise
  refine wpAny_mono (ht.nox.run [] s1 (start N vs) H _ (inv_start S room.hd start0 (hm _ _ _ _ promise) rels came) hq) (fun fl s' end_ => ?_) fun _ _ z => z
  match fl, end_ with
  | .ret u, ⟨v, _, H', J, rv, q⟩ => exact ⟨v, H', J.os, J.bare, J.base, J.hok, rv, q⟩
  | .next, ⟨_, H', J, q⟩ => exact ⟨V.non, H', J.os, J.bare, J.base, J.hok, rfl, q⟩
  | .brk, ⟨_, _, _, q⟩ => exact q.elim
  | .cont, ⟨_, _, _, q⟩ => exact q.elim
end
/-! ### the end -/
/-- the abstract heap at the law's call: the script, where the written part doesn't tell of it, and the empty tables -/
def H0 (K : PySem.W.Frag) (a : Addr) (o : Obj) (xs : List V) (ts : List Addr) : Hp := fun b => if K.lookup a = none ∧ b = a then some (.frz o (.lst xs)) else if b ∈ ts then some (.tbl #[]) else none
section
variable {K : PySem.W.Frag} {a b : Addr} {o : Obj} {xs : List V} {ts : List Addr}
theorem H0_cases {u : HO} (h : H0 K a o xs ts b = some u) : (K.lookup a = none ∧ b = a ∧ u = .frz o (.lst xs)) ∨ (b ∈ ts ∧ u = .tbl #[]) := by
  unfold H0 at h
  split at h
  · rename_i c
    exact .inl ⟨c.1, c.2, (Option.some.inj h).symm⟩
  · split at h
    · rename_i c
      exact .inr ⟨c, (Option.some.inj h).symm⟩
    · cases h
theorem H0_tab (hb : b ∈ ts) (ha : a ∉ ts) : H0 K a o xs ts b = some (.tbl #[]) := by
  unfold H0
  rw [if_neg (fun z => ha (by rw [← z.2]; exact hb)), if_pos hb]
end
theorem lawG {P : Program} {w : World} {K : PySem.W.Frag} {mg mb : Str → Option Value} {k : Nat} {fa a : Addr} {cs : List (Addr × Addr)} {fd : FuncData} {x : Str} {sp : Sp} {s₁ : Shared} {vs : List Value} {ns : List Int}
    (inK : K.In s₁.heap) (gl : s₁.heap.Ns mainGlobals mg) (bl : s₁.heap.Ns builtinsNs mb) (bb : ∀ x : Str, x ≠ "__name__" → mb x = bootBuiltins x) (lim : s₁.heap.NoLimit) (gens : s₁.gens = #[])
    (emp : ∀ p ∈ cs, s₁.heap.get? p.2 = some { cls := .none, data := .fields #[] }) (outK : ∀ p ∈ cs, K.lookup p.2 = none) (C : ∀ p ∈ cs, PySem.W.CodeHd s₁.heap p.1 p.2)
    (bmain : ∃ (bm : Addr) (ob : Obj), mg "__builtins__" = some (.ref bm) ∧ bm ≠ builtinsNs ∧ s₁.heap.get? bm = some ob ∧ ob.cls = .type "module" ∧ ob.dict = some builtinsNs ∧ ob.data = .plain)
    (scr : s₁.heap.get? a = some { cls := .type "list", data := .seq vs.toArray }) (nums : IntsAre vs ns) (few : ns.length ≤ sizeLine) (room : Room k callerA)
    (F : ∀ base : Heap, K.In base → base.Ns mainGlobals mg → (∀ p ∈ cs, TabB base mg p.1 p.2) → FnG P w K mg base k fa fd [x] sp) (bnd : ∀ (s : Shared) (u : Value), BindsTo s fd ⟨[u], []⟩ [(x, u)])
    (want : ∀ H : Hp, (∀ p ∈ cs, H p.2 = some (.tbl #[])) → SqL K H a (ns.map V.int) → sp [.ref a] H (fun v _ => v = .bl true) fun _ _ _ => False) :
    codeAny (model P w) callerA (.call (.ref fa) ⟨[.ref a], []⟩) (fun r s' => r = .ok (.ret (.bool true)) ∧ OldK s₁.heap s'.heap ∧ s'.os = s₁.os ∧ AllBare s'.gens) s₁ := by
  let ts : List Addr := cs.map (·.2)
  let so : Obj := { cls := .type "list", data := .seq vs.toArray }
  let H : Hp := H0 K a so (ns.map V.int) ts
  have tabAt : ∀ c ∈ ts, s₁.heap.get? c = some { cls := .none, data := .fields #[] } := fun c hc => by
    obtain ⟨p, hp, rfl⟩ := List.mem_map.mp hc
    exact emp p hp
  have aOut : a ∉ ts := fun z => by
    have h1 := tabAt a z
    rw [scr] at h1
    have h2 := congrArg Obj.data (Option.some.inj h1)
    cases h2
  have tabH : ∀ p ∈ cs, H p.2 = some (.tbl #[]) := fun p hp => H0_tab (List.mem_map.mpr ⟨p, hp, rfl⟩) aOut
  have seqH : SqL K H a (ns.map V.int) := by
    cases q : K.lookup a with
    | none => exact .inl (.inr ⟨so, if_pos ⟨q, rfl⟩⟩)
    | some o =>
      have h1 := inK a o q
      rw [scr] at h1
      cases h1
      exact .inr ⟨_, vs.toArray, _, q, rfl, rfl, rfl, by rw [List.size_toArray, nums.length]; exact few, by simpa using vals_ints nums⟩
  have okH : HOk P w H s₁.heap := fun b u z => by
    rcases H0_cases z with ⟨_, rfl, rfl⟩ | ⟨hb, rfl⟩
    · exact ⟨scr, by rw [List.length_map]; exact few, vs, _, vals_ints nums, scr⟩
    · exact tabAt b hb
  -- what neither is a list nor an empty table isn't tracked
  have free : ∀ {b : Addr} {o : Obj}, s₁.heap.get? b = some o → (∀ v n, o.data ≠ .seq v n) → o.data ≠ .fields #[] → H b = none := fun {b o} e n1 n2 => by
    cases q : H b with
    | none => rfl
    | some u =>
      rcases H0_cases q with ⟨_, rfl, _⟩ | ⟨hb, _⟩
      · rw [scr] at e
        cases e
        exact (n1 _ _ rfl).elim
      · rw [tabAt b hb] at e
        cases e
        exact (n2 rfl).elim
  have freeD : ∀ {b : Addr} {o : Obj} {es : Array DictEntry} {ep : Nat}, s₁.heap.get? b = some o → o.data = .dict es ep → H b = none := fun e d => free e (fun v n z => by rw [d] at z; cases z) fun z => by rw [d] at z; cases z
  have nsB : ∀ {b : Addr} {m : Str → Option Value}, s₁.heap.Ns b m → (hidT s₁.heap H).Ns b m := fun ⟨o, es, ep, e, d, r⟩ => ⟨o, es, ep, hidT_get e (freeD e d), d, r⟩
  have inB : K.In (hidT s₁.heap H) := fun b o e => hidT_get (inK b o e) (by
    cases q : H b with
    | none => rfl
    | some u =>
      rcases H0_cases q with ⟨no, rfl, _⟩ | ⟨hb, _⟩
      · rw [no] at e
        cases e
      · obtain ⟨p, hp, rfl⟩ := List.mem_map.mp hb
        rw [outK p hp] at e
        cases e)
  have modB : L2.Mod K mg (hidT s₁.heap H) := ⟨inB, nsB gl, ⟨mb, nsB bl, bb⟩, by
    obtain ⟨mc, h1, h2⟩ := lim
    exact ⟨mc, nsB h1, h2⟩⟩
  have tabB : ∀ p ∈ cs, TabB (hidT s₁.heap H) mg p.1 p.2 := fun p hp => by
    have here := emp p hp
    refine ⟨?_, ?_, fun z => ?_⟩
    · obtain ⟨o, us, file, tf, flags, tg, inF, text, tt, e1, r1, r2, r3, rest⟩ := C p hp
      refine ⟨o, us, file, tf, flags, tg, inF, text, tt, hidT_get e1 (free e1 (fun v n z => ?_) fun z => ?_), r1, r2, r3, rest⟩
      · rw [r2] at z
        cases z
      · rw [r2] at z
        cases z
        simp at r3
    · obtain ⟨bm, ob, b1, b2, b3, b4, b5, b6⟩ := bmain
      refine ⟨bm, ob, b1, b2, fun q => ?_, fun q => ?_, hidT_get b3 (free b3 (fun v n z => ?_) fun z => ?_), b4, b5, b6⟩
      · obtain ⟨o, es, ep, e, hd, _⟩ := gl
        rw [← q, b3] at e
        cases e
        rw [b6] at hd
        cases hd
      · rw [q, here] at b3
        cases b3
        cases b6
      · rw [b6] at z
        cases z
      · rw [b6] at z
        cases z
    · obtain ⟨o, es, ep, e, hd, _⟩ := gl
      rw [z, here] at e
      cases e
      cases hd
  have noFr : ∀ b : Addr, b ∉ frs [] := fun b hb => absurd (show b ∈ ([] : List Addr) from hb) (by simp)
  have begin0 : Env0 P w K mg (hidT s₁.heap H) callerA [] s₁ H := ⟨rfl, modB, fun b o e => of_hidT e, Nat.le_of_eq (hidT_size _ _), trivial, fun b hb => absurd hb (noFr b), okH, .of_eq gens⟩
  refine codeAny_mono ((F _ inB (nsB gl) tabB).go callerA [] s₁ H ⟨[.ref a], []⟩ [.ref a] [.ref a] _ _ rfl room begin0 (bnd s₁ (.ref a)) (.cons rfl .nil) (want H tabH seqH)) fun r s' done => ?_
  match r, done with
  | .error e, done => exact False.elim done
  | .ok .next, done => exact False.elim done
  | .ok .brk, done => exact False.elim done
  | .ok .cont, done => exact False.elim done
  | .ok (.ret u), ⟨v, H', os, bare, un, okH', rel, ans⟩ =>
    obtain rfl : v = .bl true := ans
    obtain rfl : u = Value.bool true := rel
    have stay : ∀ b o, b ∉ ts → s₁.heap.get? b = some o → s'.heap.get? b = some o := fun b o nb e => by
      cases q : H b with
      | none => exact un.keep b o e q (noFr b) (by simp)
      | some y =>
        rcases H0_cases q with ⟨_, rfl, rfl⟩ | ⟨hb, _⟩
        · have e2 := (okH' b _ (un.frzs b _ _ q)).1
          rw [scr] at e
          cases e
          exact e2
        · exact absurd hb nb
    have more : ∀ p ∈ cs, ∃ r : Array Value, s'.heap.get? p.2 = some { cls := .none, data := .fields r } := fun p hp => by
      obtain ⟨r, z⟩ := un.tbls p.2 #[] (tabH p hp)
      exact ⟨_, okH' p.2 _ z⟩
    refine ⟨rfl, ⟨fun b o e => ?_, fun b o e => ?_⟩, os, bare⟩
    · by_cases hb : b ∈ ts
      · obtain ⟨p, hp, rfl⟩ := List.mem_map.mp hb
        obtain ⟨r, hr⟩ := more p hp
        rw [emp p hp] at e
        cases e
        exact .inr (.inl ⟨((C p hp).tab (emp p hp)).isCodeTable, rfl, #[], r, rfl, by rw [Array.empty_append]; exact hr⟩)
      · exact .inl (stay b o hb e)
    · by_cases hb : b ∈ ts
      · obtain ⟨p, hp, rfl⟩ := List.mem_map.mp hb
        obtain ⟨r, hr⟩ := more p hp
        exact ⟨_, hr⟩
      · exact ⟨o, stay b o hb e⟩
def LawAtG (l : PySem.W.OpenLaw) (w : World) (K : PySem.W.Frag) (k n : Nat) (x : Str) (mg : Str → Option Value) (fa : Addr) (h : Heap) : Prop :=
  ∃ (fd : FuncData) (cs : List (Addr × Addr)) (sp : Sp), (∀ p ∈ cs, h.get? p.2 = some { cls := .none, data := .fields #[] } ∧ K.lookup p.2 = none ∧ PySem.W.CodeHd h p.1 p.2) ∧ (∀ (s : Shared) (u : Value), BindsTo s fd ⟨[u], []⟩ [(x, u)]) ∧
    (∀ (H : Hp) (a : Addr) (ns : List Int), ns.length ≤ n → (∀ p ∈ cs, H p.2 = some (.tbl #[])) → SqL K H a (ns.map V.int) → sp [.ref a] H (fun v _ => v = .bl true) fun _ _ _ => False) ∧
    ∀ base : Heap, K.In base → base.Ns mainGlobals mg → (∀ p ∈ cs, TabB base mg p.1 p.2) → FnG l.prog w K mg base k fa fd [x] sp
theorem walkG {l : PySem.W.OpenLaw} {n k : Nat} {q : Program} {loose : List Str} {XP : (Str → Option Value) → Heap → Prop} {YP : World → Heap → Prop} {d : DefRec} {x : Str} (hn : l.most = some n) (hn2 : n ≤ sizeLine) (hdf : d.params.defaults = []) (room : Room k callerA)
    (F : ∀ (w : World) (mg : Str → Option Value) (fa : Addr) (h : Heap), YP w h → h.Ns mainGlobals mg → mg d.name = some (.ref fa) → ∃ K : PySem.W.Frag, K.In h ∧ LawAtG l w K k n x mg fa h) :
    PySem.W.WalkO q loose XP YP l.row.toRowW d [] (fun f vs => PySem.call f vs) := by
  refine Att.attach_callB hn hdf fun w s₀ s₁ mg mb fa o pm cd doc a vs ns G Y ho hd hcd named scr nums len bits gens => ?_
  obtain ⟨K, inK, fd, cs, sp, hT, bnd, want, hF⟩ := F w mg fa _ Y G.T.g named
  exact lawG inK G.T.g G.T.b G.T.builtins G.T.nolimit gens (fun p hp => (hT p hp).1) (fun p hp => (hT p hp).2.1) (fun p hp => (hT p hp).2.2) G.T.bmain scr nums (Nat.le_trans len hn2) room hF bnd fun H hH hS => want H a ns len hH hS
end Oo
/-! own rules: o.f as a target among others, t[::-1], xs.extend(t) -/
namespace StX
open PySem PySem.Spec PyProof.Rows L2
section
variable {X : Cx} {pos : Pos}
/-- o.f = .. as a target -/
def gFld (K : PySem.W.Frag) (ta : TE) (f : Str) : TG := fun y σ H Q => ta σ H fun x H2 => ∃ a C dx fs, x = .ref a ∧ H2 a = some (.ins C dx fs) ∧ Cls K C ∧ NoAttr K C f ∧ fs.length < 1000 ∧ Q σ (upd H2 a (.ins C dx (putF f y fs)))
theorem pg_fld {o : Expr} {f : Str} {ta : TE} (ho : PE X o ta) : PG X (.Attribute o f pos) (gFld X.K ta f) := ⟨fun pins s σ H y u Q I ry h => by
  rw [assign_Attribute]
  refine wpAny_bind (wpAny_holding (thn (ho.run pins s σ H _ I h) fun ov s1 ⟨x, G, J, rx, a, C, dx, fs, ex, ea, c, n, hl, q⟩ => ?_))
  cases ex
  cases (show ov = Value.ref a from rx)
  exact wpAny_bind (wpAny_standAt (wpAny_bind (wpAny_holding (setattr_ok J ea c n hl ry fun s2 J2 => wpAny_release ⟨σ, _, J2, q⟩))))⟩
end

/-! ### t[::-1] -/
section
variable {prog : Program} {w : World} {A : Around} {E : Value → Shared → Prop} {s : Shared}
theorem adj_back (n : Nat) : Builtin.Slice.sliceAdjust none none (-1) (n : Int) = ((n : Int) - 1, -1) := rfl
theorem places_back (n : Nat) : Builtin.Slice.slicePlaces ((n : Int) - 1) (-1) (-1) = n := by
  unfold Builtin.Slice.slicePlaces
  rw [if_neg (by decide)]
  by_cases h : (n : Int) - 1 > -1
  · rw [if_pos h]
    have : (((n : Int) - 1 - -1 - 1) / - -1 + 1) = (n : Int) := by
      rw [Int.neg_neg, Int.ediv_one]; omega
    rw [this, Int.toNat_natCast]
  · rw [if_neg h]
    have : n = 0 := by omega
    subst this; rfl
theorem fm_congr {α β : Type} {f g : α → Option β} : ∀ {l : List α}, (∀ a ∈ l, f a = g a) → l.filterMap f = l.filterMap g
  | [], _ => rfl
  | a :: l, h => by
    rw [List.filterMap_cons, List.filterMap_cons, h a List.mem_cons_self, fm_congr fun b hb => h b (List.mem_cons_of_mem _ hb)]
theorem pick_back (xs : List Value) : ((List.range xs.length).filterMap fun (m : Nat) => xs.toArray[(((xs.length : Nat) : Int) - 1 + (m : Int) * (-1)).toNat]?).toArray = xs.reverse.toArray := by
  have e : ∀ m ∈ List.range xs.length, xs.toArray[(((xs.length : Nat) : Int) - 1 + (m : Int) * (-1)).toNat]? = xs.reverse.toArray[(((0 : Nat) : Int) + (m : Int) * 1).toNat]? := by
    intro m hm
    have hm := List.mem_range.mp hm
    have h1 : (((xs.length : Nat) : Int) - 1 + (m : Int) * (-1)).toNat = xs.length - 1 - m := by omega
    have h2 : (((0 : Nat) : Int) + (m : Int) * 1).toNat = m := by omega
    rw [h1, h2, List.getElem?_toArray, List.getElem?_toArray, List.getElem?_reverse hm]
  rw [fm_congr e, HT.pick_gen]
  have : (xs.reverse).length = xs.length := List.length_reverse
  rw [List.drop_zero, ← this, List.take_length]
theorem getItem_back {t sl : Addr} {its : List Value} {vs : Value} {Q : Value → Shared → Prop} (ht : IsTup s.heap t its.toArray) (hs : s.heap.IsSliceOf sl .none .none vs) (ps : IsPart vs (some (-1))) (hz : its.length ≤ sizeLine)
    (h : Q (.ref s.heap.objs.size) { s with heap := s.heap.push { cls := .type "tuple", data := .seq its.reverse.toArray } }) : wpAny (model prog w) A (getItem (.ref t) (.ref sl)) Q E s := by
  obtain ⟨os, ho, hc, hd⟩ := id hs
  have T : s.TypeIs (.ref sl) "slice" := ⟨os, ho, hc⟩
  have fits : sizeOk (.seq its.reverse.toArray) := by
    show its.reverse.toArray.size ≤ sizeLine
    rw [List.size_toArray, List.length_reverse]; exact hz
  unfold getItem
  try with_reducible refine wpAny_holding ?_
  first | refine wpAny_bind (wpAny_pure ?_) | skip
  refine wpAny_bind (wpAny_sequenceKey ht.typeIs (by decide) ?_)
  refine wpAny_bind (wpAny_callSpecial?_slot (name := Str.ofString "__getitem__") ht.typeIs slot_tuple_getitem (wpAny_call_entry slot_tuple_getitem ht.typeIs entry_tuple_getitem ?_ (args_tuple_getitem _ _)))
  show wpAny _ _ (Builtin.Tuple.tupleItemsOf (.ref t) >>= _) _ _ s
  refine wpAny_bind (tupleItemsOf_ ht ?_)
  refine wpAny_bind (wpAny_typeOf T ?_)
  rw [if_pos (by decide)]
  refine wpAny_bind ?_
  unfold Builtin.Slice.sliceApplied Builtin.Slice.sliceFields
  refine wpAny_bind (wpAny_bind (wpAny_field ho hd (x := .none) rfl (wpAny_bind (wpAny_field ho hd (x := .none) rfl (wpAny_bind (wpAny_field ho hd (x := vs) rfl (wpAny_pure ?_)))))))
  refine wpAny_bind (HT.slicePart_ ps ?_)
  show wpAny _ _ (if ((-1 : Int) == 0) = true then _ else _) _ _ s
  rw [if_neg (by decide)]
  refine wpAny_bind (HT.slicePart_ .none (wpAny_bind (HT.slicePart_ .none (wpAny_bind (wpAny_pure ?_)))))
  show wpAny _ _ (match Builtin.Slice.sliceAdjust none none (-1) (its.length : Int) with | (lo, hi) => pure (lo, (-1 : Int), Builtin.Slice.slicePlaces lo hi (-1))) _ _ s
  rw [adj_back]
  show wpAny _ _ (pure (((its.length : Nat) : Int) - 1, (-1 : Int), Builtin.Slice.slicePlaces (((its.length : Nat) : Int) - 1) (-1) (-1))) _ _ s
  rw [places_back]
  refine wpAny_pure ?_
  have no : ¬ ((((its.length : Nat) : Int) - 1 == 0 && (-1 : Int) == 1 && its.length == its.length) = true) := by
    rw [show ((-1 : Int) == 1) = false from rfl, Bool.and_false, Bool.false_and]
    exact Bool.false_ne_true
  show wpAny _ _ (if (((its.length : Nat) : Int) - 1 == 0 && (-1 : Int) == 1 && its.length == its.toArray.size) = true then _ else _) _ _ s
  rw [List.size_toArray, if_neg no, pick_back]
  first
    | exact wpAny_bind (m := Builtin.Tuple.tupleExact _) (wpAny_newObj_type (wpAny_pure ⟨_, rfl, wpAny_pure h⟩) fits)
    | exact wpAny_bind (m := Builtin.Tuple.tupleExact _) (wpAny_newObj_type (wpAny_bind (wpAny_pure (wpAny_pure ⟨_, rfl, wpAny_pure h⟩))) fits)
    | exact wpAny_bind (wpAny_bind (m := Builtin.Tuple.tupleExact _) (wpAny_newObj_type (wpAny_pure (wpAny_pure ⟨_, rfl, wpAny_pure h⟩)) fits))
    | exact wpAny_bind (wpAny_bind (m := Builtin.Tuple.tupleExact _) (wpAny_newObj_type (wpAny_pure ⟨_, rfl, wpAny_pure h⟩) fits))
end
section
variable {X : Cx}
def tRevT (K : PySem.W.Frag) (ta : TE) : TE := fun σ H Q => ta σ H fun x G => ∃ a xs, x = .ref a ∧ SqT K G a xs ∧ ∀ p, G p = none → Q (.ref p) (upd G p (.tup xs.reverse))
theorem pe_revT {e : Expr} {ta : TE} {k : Nat} {p1 p2 p3 pos : Pos} (he : PE X e ta) : PE X (.Subscript e (.Slice none none (some (.UnaryOp .USub (.Constant (.int 1) k p1) p2)) p3) pos) (tRevT X.K ta) := ⟨fun pins s σ H Q I h => by
  refine Subscript_ (thn (he.run pins s σ H _ I h) fun u s1 ⟨x, G, J, rx, a, xs, ex, hx, q⟩ => ?_)
  cases ex
  cases rx
  have step : PO X (some (.UnaryOp .USub (.Constant (.int 1) k p1) p2)) (tPart (tUn (rU fun i => .int (-i)) (tC (.int 1)))) := po_some (pe_un un_neg pe_int)
  refine wpAny_Slice (thn (po_none.run pins s1 σ G (fun o G' => o = none ∧ G' = G) J ⟨rfl, rfl⟩) fun v1 s2 ⟨o1, G1, J1, w1, f1, g1⟩ => ?_)
  cases f1
  cases g1
  refine thn (po_none.run pins s2 σ G (fun o G' => o = none ∧ G' = G) J1 ⟨rfl, rfl⟩) fun v2 s3 ⟨o2, G2, J2, w2, f2, g2⟩ => ?_
  cases f2
  cases g2
  refine thn (step.run pins s3 σ G (fun o G' => o = some (-1) ∧ G' = G) J2 ⟨1, rfl, -1, rfl, rfl, rfl⟩) fun v3 s4 ⟨o3, G3, J3, w3, f3, g3⟩ => ?_
  cases f3
  cases g3
  cases w1
  cases w2
  have J4 : Inv X pins σ G { s4 with heap := s4.heap.push { cls := .type "slice", data := .fields #[.none, .none, v3] } } := J3.kept (t' := s4.toks) fun b ob z => Heap.get?_push_of_some _ z
  obtain ⟨its, r, ht, hz⟩ := J4.tuple hx
  have hl := r.length
  show wpAny (model X.prog X.w) X.A (subscriptTail e (.Slice none none (some (.UnaryOp .USub (.Constant (.int 1) k p1) p2)) p3) (.ref a) (.ref s4.heap.objs.size)) (EP X pins σ Q) X.xe { s4 with heap := s4.heap.push { cls := .type "slice", data := .fields #[.none, .none, v3] } }
  refine tail_any (ops := [.ref a, .ref s4.heap.objs.size]) ht.typeIs slot_tuple_getitem.lookup ?_ (by with_unfolding_all rfl)
  refine getItem_back ht (Heap.IsSliceOf.new _ .none .none v3) w3 (by omega) ?_
  refine ⟨.ref _, _, J4.laid (t' := s4.toks) (o := .tup xs.reverse) (fun b ob z => Heap.get?_push_of_some _ z) (Nat.le_refl _) ?_, rfl, q _ (J4.hok.fresh (Nat.le_refl _))⟩
  exact ⟨by rw [List.length_reverse]; exact hz, _, r.reverse, IsTup.new _ _⟩⟩
end

/-! ### xs.extend(t) -/
theorem extend_tup (l : Addr) (xs : Array Value) (n : Nat) (b : Addr) (ys : Array Value) (m : Nat) (dd : Option Addr) (sl : Array (Option Value)) (h0 : ¬(!xs.isEmpty && Builtin.List.listTooLong (xs.size + ys.size)) = true) (h1 : xs.size ≤ sizeLine) (h2 : xs.size + ys.size ≤ sizeLine + 1) :
    Meets (Builtin.«list.extend» ⟨[.ref l, .ref b], []⟩) (fun _ R s => s.heap.get? l = some { cls := .type "list", data := .seq xs n } ∧ s.heap.get? b = some { cls := .type "tuple", dict := dd, data := .seq ys m, slots := sl } ∧ R (.ok (.ret Value.none)) { s with heap := s.heap.update l (Obj.mapSeq fun x => x ++ ys) }) :=
  .of_wp fun prog w A R s h => by
    obtain ⟨hp, g, d, tk, os⟩ := s
    obtain ⟨hl, hb, h⟩ := h
    have e1 := AutoSeq1.idx_int; have e2 := AutoSeq1.sub_tuple_tuple; have e3 := AutoSeq1.sub_list_list; have e4 := AutoSeq1.sub_tuple_list; have e5 := AutoSeq1.sub_list_tuple
    have hz : (xs ++ ys).size ≤ sizeLine + 1 := by rw [Array.size_append]; exact h2
    wp_walk using (wpAny_updateSeq hl rfl (hz := h1) (_hz' := hz)), AutoSeq1.wpAny_loadPart' hl, AutoSeq1.wpAny_loadPart' hb
    exact ⟨_, rfl, h⟩
/-- xs.extend(t) by a tuple -/
def rExtT : V → List V → Hp → VK → Prop := fun x vs H Q => ∃ l b xs ys, x = .ref l ∧ vs = [.ref b] ∧ H l = some (.lst xs) ∧ H b = some (.tup ys) ∧ xs.length + ys.length ≤ sizeLine ∧ Q .non (upd H l (.lst (xs ++ ys)))
theorem mt_extendT {X : Cx} : MtM X "list.extend" rExtT := by
  intro pins s σ H x vs u us Q I rx rv h
  obtain ⟨l, b, xs, ys, e1, e2, hl, hb, hz, q⟩ := h
  subst e1 e2
  cases rx
  obtain ⟨u2, e3, r2⟩ := rv.one
  subst e3
  cases r2
  obtain ⟨z1, its, n, r, len, el⟩ := I.lstM hl
  obtain ⟨its2, r3, ⟨o, eb, cb, m, db⟩, z2⟩ := I.tuple (SqT.of hb)
  obtain ⟨oc, od, dt, osl⟩ := o
  cases cb
  cases db
  have l2 := r3.length
  have room : its.toArray.size + its2.toArray.size ≤ sizeLine := by rw [List.size_toArray, List.size_toArray]; omega
  have door : ¬ (!its.toArray.isEmpty && Builtin.List.listTooLong (its.toArray.size + its2.toArray.size)) = true := by
    rw [notLongL room, Bool.and_false]; exact Bool.false_ne_true
  refine call_meets F.slot_list_extend ⟨_, el, rfl⟩ F.entry_list_extend (F.args_list_extend_2 _ _) (extend_tup l its.toArray n b its2.toArray m od osl door (by rw [List.size_toArray]; omega) (by omega)) ⟨el, eb, ?_⟩
  exact ⟨.non, _, I.lset (its' := its ++ its2) hl el (by simp) (r.append r3) (by rw [List.length_append]; omega), rfl, q⟩
end StX
/-! own rule: {key: worth for a in s for b in t} -/
namespace StX
open PySem PySem.Spec PyProof.Rows L2
/-- the expression -/
abbrev DcX (ek ev g0 j0 g1 j1 : Expr) (ts0 ts1 : List Expr) (sc : Scope) (po : Pos) : Expr := .DictComp ek ev [⟨g0, j0, ts0, 0⟩, ⟨g1, j1, ts1, 0⟩] sc po
theorem dcx_outer (ek ev g0 j0 g1 j1 : Expr) (ts0 ts1 : List Expr) (sc : Scope) (po : Pos) (it : Value) (D : Addr) (en : Env) :
    compTurn (DcX ek ev g0 j0 g1 j1 ts0 ts1 sc po) 0 it (.ref D) en = (do
      standAt j0.pos
      match ← pyNext it with
      | none => pure (.done .next)
      | some y =>
        letOwnedTupleGo g0 it y
        assign g0 en y
        let mut go := true
        for c in ts0 do
          if go then go ← isTrue c en (eval c en)
        if go then
          let z ← eval j1 en
          standAt j1.pos
          let z ← foldedSetIterable j1 en z
          let _ ← runOwn (.compStart (DcX ek ev g0 j0 g1 j1 ts0 ts1 sc po) 1 (← holding [z] (pyIter z)) (.ref D) en) en
        again (.compLoop (DcX ek ev g0 j0 g1 j1 ts0 ts1 sc po) 0 it (.ref D) en)) := rfl
theorem dcx_inner (ek ev g0 j0 g1 j1 : Expr) (ts0 ts1 : List Expr) (sc : Scope) (po : Pos) (it : Value) (D : Addr) (en : Env) :
    compTurn (DcX ek ev g0 j0 g1 j1 ts0 ts1 sc po) 1 it (.ref D) en = (do
      standAt j1.pos
      match ← pyNext it with
      | none => pure (.done .next)
      | some y =>
        letOwnedTupleGo g1 it y
        assign g1 en y
        let mut go := true
        for c in ts1 do
          if go then go ← isTrue c en (eval c en)
        if go then
          (do
            let kv ← eval ek en
            let vv ← holding [kv] (eval ev en)
            standAt { ek.pos with endLine := ev.pos.endLine, endCol := ev.pos.endCol }
            holding [kv, vv] (dictSet D kv vv))
        again (.compLoop (DcX ek ev g0 j0 g1 j1 ts0 ts1 sc po) 1 it (.ref D) en)) := rfl
section
variable {prog : Program} {w : World} {A : Around} {R : Result → Shared → Prop} {s : Shared} {ek ev g0 j0 g1 j1 : Expr} {ts0 ts1 : List Expr} {sc : Scope} {po : Pos} {it : Value} {D : Addr} {en : Env}
/-- what is wanted of an error of the comprehension -/
abbrev errW (prog : Program) (w : World) (A : Around) (en : Env) (R : Result → Shared → Prop) : Value → Shared → Prop := notedBy (model prog w) A en fun x t => R (.error x) t
/-- the tests of a clause, one after another -/
abbrev testsS (ts : List Expr) (en : Env) : Sem Bool := forIn ts true fun c r => if r = true then do let ok ← isTrue c en (eval c en); pure (ForInStep.yield ok) else pure (ForInStep.yield r)
theorem dcx_loop0 (fold : ∀ z, foldedSetIterable j1 en z = pure z) (J : Nat → Shared → Prop)
    (step : ∀ n s, J n s → wpAny (model prog w) A (pyNext it) (fun r s1 => match r with
      | none => R (.ok .next) s1
      | some y => wpAny (model prog w) A (letOwnedTupleGo g0 it y) (fun _ s2 => wpAny (model prog w) A (assign g0 en y) (fun _ s3 => wpAny (model prog w) A (testsS ts0 en) (fun go s4 =>
          if go = true then wpAny (model prog w) A (eval j1 en) (fun z s5 => wpAny (model prog w) A (pyIter z) (fun it1 s6 =>
            codeAny (model prog w) A (.compStart (DcX ek ev g0 j0 g1 j1 ts0 ts1 sc po) 1 it1 (.ref D) en) (fun r t => match r with
              | .ok _ => ∃ m, m < n ∧ J m t
              | .error _ => False) s6) (errW prog w A en R) s5) (errW prog w A en R) s4
          else ∃ m, m < n ∧ J m s4) (errW prog w A en R) s3) (errW prog w A en R) s2) (errW prog w A en R) s1) (errW prog w A en R) s)
    (n : Nat) (h : J n s) : codeAny (model prog w) A (.compLoop (DcX ek ev g0 j0 g1 j1 ts0 ts1 sc po) 0 it (.ref D) en) R s := by
  refine codeAny_loop rfl J (fun n s hJ => ?_) n h
  show wpAny _ A ((compTurn (DcX ek ev g0 j0 g1 j1 ts0 ts1 sc po) 0 it (.ref D) en).onRaise (fun x => do noteFrame x en; theTreesLotGoes x)) _ _ s
  refine wpAny_noted ?_
  rw [dcx_outer]
  refine wpAny_bind (wpAny_standAt (wpAny_bind (wpAny_mono (step n s hJ) (fun r s1 q1 => ?_) fun _ _ z => z)))
  cases r with
  | none => exact wpAny_pure q1
  | some y =>
    refine wpAny_bind (wpAny_mono q1 (fun _ s2 q2 => wpAny_bind (wpAny_mono q2 (fun _ s3 q3 => wpAny_bind (wpAny_mono q3 (fun go s4 q4 => ?_) fun _ _ z => z)) fun _ _ z => z)) fun _ _ z => z)
    cases go
    · exact wpAny_pure ⟨rfl, q4⟩
    · refine wpAny_bind (wpAny_mono q4 (fun z s5 q5 => wpAny_bind (wpAny_standAt (wpAny_bind (wpAny_of_eq (fold z) (wpAny_bind (wpAny_holding (wpAny_mono q5 (fun it1 s6 q6 => ?_) fun _ _ z => z))))))) fun _ _ z => z)
      refine wpAny_bind (wpAny_runOwn ?_)
      rw [Around.mark_none]
      refine codeAny_mono q6 fun r t hr => ?_
      cases r with
      | error e => exact hr.elim
      | ok f => first | exact wpAny_pure ⟨rfl, hr⟩ | exact wpAny_bind (wpAny_pure (wpAny_pure ⟨rfl, hr⟩))
theorem dcx_loop1 (J : Nat → Shared → Prop)
    (step : ∀ n s, J n s → wpAny (model prog w) A (pyNext it) (fun r s1 => match r with
      | none => R (.ok .next) s1
      | some y => wpAny (model prog w) A (letOwnedTupleGo g1 it y) (fun _ s2 => wpAny (model prog w) A (assign g1 en y) (fun _ s3 => wpAny (model prog w) A (testsS ts1 en) (fun go s4 =>
          if go = true then wpAny (model prog w) A (eval ek en) (fun kv s5 => wpAny (model prog w) A (eval ev en) (fun vv s6 => wpAny (model prog w) A (dictSet D kv vv) (fun _ t => ∃ m, m < n ∧ J m t)
            (errW prog w A en R) s6) (errW prog w A en R) s5) (errW prog w A en R) s4
          else ∃ m, m < n ∧ J m s4) (errW prog w A en R) s3) (errW prog w A en R) s2) (errW prog w A en R) s1) (errW prog w A en R) s)
    (n : Nat) (h : J n s) : codeAny (model prog w) A (.compLoop (DcX ek ev g0 j0 g1 j1 ts0 ts1 sc po) 1 it (.ref D) en) R s := by
  refine codeAny_loop rfl J (fun n s hJ => ?_) n h
  show wpAny _ A ((compTurn (DcX ek ev g0 j0 g1 j1 ts0 ts1 sc po) 1 it (.ref D) en).onRaise (fun x => do noteFrame x en; theTreesLotGoes x)) _ _ s
  refine wpAny_noted ?_
  rw [dcx_inner]
  refine wpAny_bind (wpAny_standAt (wpAny_bind (wpAny_mono (step n s hJ) (fun r s1 q1 => ?_) fun _ _ z => z)))
  cases r with
  | none => exact wpAny_pure q1
  | some y =>
    refine wpAny_bind (wpAny_mono q1 (fun _ s2 q2 => wpAny_bind (wpAny_mono q2 (fun _ s3 q3 => wpAny_bind (wpAny_mono q3 (fun go s4 q4 => ?_) fun _ _ z => z)) fun _ _ z => z)) fun _ _ z => z)
    cases go
    · exact wpAny_pure ⟨rfl, q4⟩
    · exact wpAny_bind (wpAny_bind (wpAny_mono q4 (fun kv s5 q5 => wpAny_bind (wpAny_holding (wpAny_mono q5 (fun vv s6 q6 => wpAny_bind (wpAny_standAt (wpAny_holding (wpAny_mono q6 (fun _ t q7 => wpAny_pure ⟨rfl, q7⟩) fun _ _ z => z)))) fun _ _ z => z))) fun _ _ z => z))
theorem dcx_start1 (h0 : codeAny (model prog w) A (.compLoop (DcX ek ev g0 j0 g1 j1 ts0 ts1 sc po) 1 it (.ref D) en) R s)
    (h : wpAny (model prog w) A (pyIter it) (fun it1 t => codeAny (model prog w) A (.compLoop (DcX ek ev g0 j0 g1 j1 ts0 ts1 sc po) 1 it1 (.ref D) en) R t) (errW prog w A en R) s) :
    codeAny (model prog w) A (.compStart (DcX ek ev g0 j0 g1 j1 ts0 ts1 sc po) 1 it (.ref D) en) R s := by
  refine codeAny_of_tree ?_
  show wpAny _ _ ((compStart (DcX ek ev g0 j0 g1 j1 ts0 ts1 sc po) 1 it (.ref D) en).onRaise (fun x => do noteFrame x en; standAt theWindowsPlace)) _ _ s
  refine wpAny_notedAt ?_
  unfold compStart
  show wpAny _ _ (ask >>= _) _ _ s
  refine wpAny_bind (wpAny_askSetting (wpAny_ite ?_))
  split
  · first | exact wpAny_bind (wpAny_pure (wpAny_pure ⟨rfl, h0⟩)) | exact wpAny_pure ⟨rfl, h0⟩
  · refine wpAny_bind (wpAny_rule ?_)
    first
      | exact wpAny_bind (wpAny_standAt (wpAny_bind (wpAny_mono h (fun _ _ z => wpAny_pure ⟨rfl, z⟩) fun _ _ z => z)))
      | (show wpAny _ _ (standAt j1.pos >>= _) _ _ s; exact wpAny_bind (wpAny_standAt (wpAny_bind (wpAny_mono h (fun _ _ z => wpAny_pure ⟨rfl, z⟩) fun _ _ z => z))))
end
end StX
namespace StX
open PySem PySem.Spec PyProof.Rows L2
/-- the inner walk of a comprehension of two clauses; Z: what is to hold behind it -/
def inDc (D : Addr) (J1 : It) (h1 : TG) (u1 : TT) (tk tv : TE) (vs1 : List Nat) (τ : L2.St) (Z : Hp → Prop) (G : Hp) : Prop := ∃ W : Nat → Nat → Hp → Prop, (∃ m, W 0 m G) ∧ ∀ j k G, W j k G →
  (J1.stop j G ∧ Z G) ∨ (J1.go j G ∧ ∃ N : Hp → Prop, (∀ G', N G' → ∃ k', k' < k ∧ W (j + 1) k' G') ∧ ∀ x G', J1.yld j G x G' → h1 x (wipe τ vs1) G' fun τ1 G1 => wipe τ1 vs1 = wipe τ vs1 ∧ u1 τ1 G1 fun b G2 =>
    if b = true then tk τ1 G2 fun y G3 => tv τ1 G3 fun z G4 => ∃ kvs k, y = kV k ∧ G4 D = some (.dK kvs) ∧ kvs.length < sizeLine ∧ N (upd G4 D (.dK (putK kvs k z))) else N G2)
/-- {key: worth for g0 in j0 if .. for g1 in j1 if ..}: D the new dict -/
def tDc2 (wi : TI) (h0 : TG) (u0 : TT) (wi1 : TI) (h1 : TG) (u1 : TT) (tk tv : TE) (vs vs1 : List Nat) : TE := fun σ H Q => wi σ H fun J G => ∀ D, G D = none → ∃ W : Nat → Nat → Hp → Prop, (∃ m, W 0 m (upd G D (.dK []))) ∧ ∀ i m G, W i m G →
  (J.stop i G ∧ Q (.ref D) G) ∨ (J.go i G ∧ ∃ N : Hp → Prop, (∀ G', N G' → ∃ m', m' < m ∧ W (i + 1) m' G') ∧ ∀ x G', J.yld i G x G' → h0 x (wipe σ vs) G' fun τ G1 => wipe τ vs = wipe σ vs ∧ u0 τ G1 fun b G2 =>
    if b = true then wi1 τ G2 fun J1 G3 => inDc D J1 h1 u1 tk tv vs1 τ N G3 else N G2)
section
variable {X : Cx}
theorem pe_dc2 {ek ev g0 j0 g1 j1 : Expr} {ts0 ts1 : List Expr} {sc : Scope} {own : List (Str × Nat)} {vs1 : List Nat} {po : Pos} {wi wi1 : TI} {h0 h1 : TG} {u0 u1 : TT} {tk tv : TE} (calm : X.calm = true) (nd : X.N.Nodup) (pi : PI X g0 j0 wi) (ok : BlkOk X.N X.env.scope sc own) (sub : ∀ i ∈ vs1, i ∈ own.map (·.2))
    (pg : ∀ (s : Shared) (H : Hp) (C : Addr) (cl : List (Str × Addr)) (fp : List Addr), PG (X.blk s H sc (compEnvC sc cl C X.env) fp) g0 h0) (pt : ∀ (s : Shared) (H : Hp) (C : Addr) (cl : List (Str × Addr)) (fp : List Addr), PTs (X.blk s H sc (compEnvC sc cl C X.env) fp) ts0 u0)
    (pi1 : ∀ (s : Shared) (H : Hp) (C : Addr) (cl : List (Str × Addr)) (fp : List Addr), PI (X.blk s H sc (compEnvC sc cl C X.env) fp) g1 j1 wi1)
    (pg1 : ∀ (s : Shared) (H : Hp) (C : Addr) (cl : List (Str × Addr)) (fp : List Addr), PG (X.blk s H sc (compEnvC sc cl C X.env) fp) g1 h1) (pt1 : ∀ (s : Shared) (H : Hp) (C : Addr) (cl : List (Str × Addr)) (fp : List Addr), PTs (X.blk s H sc (compEnvC sc cl C X.env) fp) ts1 u1)
    (pk : ∀ (s : Shared) (H : Hp) (C : Addr) (cl : List (Str × Addr)) (fp : List Addr), PE (X.blk s H sc (compEnvC sc cl C X.env) fp) ek tk) (pv : ∀ (s : Shared) (H : Hp) (C : Addr) (cl : List (Str × Addr)) (fp : List Addr), PE (X.blk s H sc (compEnvC sc cl C X.env) fp) ev tv)
    (fold0 : ∀ x, foldedSetIterable j0 X.env x = pure x := by intro _; rfl) (fold1 : ∀ en x, foldedSetIterable j1 en x = pure x := by intro _ _; rfl) :
    PE X (DcX ek ev g0 j0 g1 j1 ts0 ts1 sc po) (tDc2 wi h0 u0 wi1 h1 u1 tk tv (own.map (·.2)) vs1) := ⟨fun pins s σ H Q I h => by
  rw [arm_eval_DictComp]
  have cells : ∀ y ∈ sc.names, y.2 = .free → ∃ c, X.env.cells.lookup y.1 = some c := fun y hy e => (ok.free y hy e).elim (fun k => I.ok.has _ (.inl k)) fun k => I.ok.has _ (.inr k)
  refine wpAny_comprehension_free (use := none) rfl fold0 (closure_ok cells) ok.kind (fun y hy e => by rw [ok.uniq y hy, e]) (thn (pi.run pins s σ H _ I h) fun src s1 hsrc => thn hsrc fun itv s2 walk => ?_)
  obtain ⟨it, fp, tn, J, G, e, I2, T, t2, f2, q⟩ := walk
  subst e
  refine wpAny_newObj_type (newEnv_comp ?_)
  generalize eD : s2.heap.objs.size = D
  obtain ⟨W, ⟨m0, w0⟩, turn⟩ := q D (I2.hok.fresh (Nat.le_of_eq eD))
  generalize e3 : ({ s2 with heap := s2.heap.push { cls := .type "dict", data := .dict #[] } } : Shared) = s3
  have hp3 : s3.heap = s2.heap.push { cls := .type "dict", data := .dict #[] } := by rw [← e3]
  have I3 : Inv X pins σ (upd G D (.dK [])) s3 := by
    rw [← e3]
    refine I2.laid (t' := s2.toks) (fun b o z => Heap.get?_push_of_some _ z) (Nat.le_of_eq eD) ?_
    rw [← eD]
    exact dk_empty s2.heap I2.big
  have low : ∀ b ∈ fp, b < s2.heap.objs.size := fun b hb => let ⟨o, z, _⟩ := T.obj _ _ t2 b hb; Heap.lt_size z
  have f3 : ∀ b ∈ fp, FpOk X pins (upd G D (.dK [])) b ∧ b < s3.heap.objs.size := fun b hb => by
    have lt := low b hb
    refine ⟨⟨?_, (f2 b hb).2⟩, by rw [hp3, Heap.size_push]; exact Nat.lt_succ_of_lt lt⟩
    rw [upd_ne (by rw [← eD]; exact Nat.ne_of_lt lt)]
    exact (f2 b hb).1
  have t3 : tn 0 s3.heap := T.keep _ _ _ t2 fun b _ o z => by rw [hp3]; exact Heap.get?_push_of_some _ z
  have I4 := block_start I3 ok nd f3
  have qg := pg s3 (upd G D (.dK [])) s3.heap.objs.size (cellsFrom (s3.heap.objs.size + 1) sc.names (cloFrom X.env.cells sc.names [])) fp
  have qt := pt s3 (upd G D (.dK [])) s3.heap.objs.size (cellsFrom (s3.heap.objs.size + 1) sc.names (cloFrom X.env.cells sc.names [])) fp
  have qi1 := pi1 s3 (upd G D (.dK [])) s3.heap.objs.size (cellsFrom (s3.heap.objs.size + 1) sc.names (cloFrom X.env.cells sc.names [])) fp
  have qg1 := pg1 s3 (upd G D (.dK [])) s3.heap.objs.size (cellsFrom (s3.heap.objs.size + 1) sc.names (cloFrom X.env.cells sc.names [])) fp
  have qt1 := pt1 s3 (upd G D (.dK [])) s3.heap.objs.size (cellsFrom (s3.heap.objs.size + 1) sc.names (cloFrom X.env.cells sc.names [])) fp
  have qk := pk s3 (upd G D (.dK [])) s3.heap.objs.size (cellsFrom (s3.heap.objs.size + 1) sc.names (cloFrom X.env.cells sc.names [])) fp
  have qv := pv s3 (upd G D (.dK [])) s3.heap.objs.size (cellsFrom (s3.heap.objs.size + 1) sc.names (cloFrom X.env.cells sc.names [])) fp
  show codeAny _ _ (.compStart (DcX ek ev g0 j0 g1 j1 ts0 ts1 sc po) 0 (.ref it) (.ref D) (compEnvC sc (cellsFrom (s3.heap.objs.size + 1) sc.names (cloFrom X.env.cells sc.names [])) s3.heap.objs.size X.env)) (compPost (model X.prog X.w) X.A X.xe none (EP X pins σ Q) (.ref D) s3.heap.objs.size) { s3 with heap := pushCells (s3.heap.push { cls := .type "dict", data := .dict #[] }) sc.names }
  have n3 : ∀ b ∈ fp, (upd G D (.dK [])) b = none := fun b hb => (f3 b hb).1.1
  generalize ece : compEnvC sc (cellsFrom (s3.heap.objs.size + 1) sc.names (cloFrom X.env.cells sc.names [])) s3.heap.objs.size X.env = ce at I4 qg qt qi1 qg1 qt1 qk qv ⊢
  have cl : ce.locals = s3.heap.objs.size := by subst ece; rfl
  generalize eG : upd G D (.dK []) = G3 at I3 I4 qg qt qi1 qg1 qt1 qk qv w0 n3 f3
  generalize e4 : ({ s3 with heap := pushCells (s3.heap.push { cls := .type "dict", data := .dict #[] }) sc.names } : Shared) = s4 at I4 ⊢
  have t4 : tn 0 s4.heap := T.keep _ _ _ t3 fun b _ o z => by rw [← e4]; exact pushCells_keeps _ _ _ _ (Heap.get?_push_of_some _ z)
  have own0 : ∀ {τ : L2.St} {G' : Hp} {t : Shared}, Inv (X.blk s3 G3 sc ce fp) [] τ G' t → (∀ b ∈ fp, G' b = none) → ∀ b ∈ fp, FpOk (X.blk s3 G3 sc ce fp) [] G' b := fun {τ G' t} K hn b hb =>
    ⟨hn b hb, (K.ok.exf b hb).1, K.ok.exfs b hb, .inl hb, fun x c z => (K.ok.exf b hb).2 x c z, fun p hp => absurd (show p ∈ ([] : List (Addr × Obj)) ++ [] from hp) (by simp)⟩
  refine codeAny_compStart_dict ?loop (T.self X.A 0 _ _ _ t4 ?loop)
  refine dcx_loop0 (fold1 ce) (fun n t => ∃ i G', Inv (X.blk s3 G3 sc ce fp) [] (wipe σ (own.map (·.2))) G' t ∧ tn i t.heap ∧ (∀ b ∈ fp, G' b = none) ∧ W i n G') ?_ m0 ⟨0, G3, I4, t4, n3, w0⟩
  rintro n s5 ⟨i, G5, I5, t5, n5, w5⟩
  rcases turn i n G5 w5 with ⟨stop, qq⟩ | ⟨go, N, hN, step⟩
  · refine thnF (T.done (X.blk s3 G3 sc ce fp) rfl rfl rfl calm i [] s5 _ G5 (fun _ _ => False) I5 (own0 I5 n5) t5 stop) fun r s6 ⟨er, I6⟩ => ?_
    subst er
    have I7 : Inv X pins σ G5 s6 := I3.call' (ch := fp) I6.os I6.base I6.hok I6.bare fun b hb => ⟨(f3 b hb).1.2.2.2.1, (f3 b hb).1.2.1, (f3 b hb).1.2.2.2.2.1, (f3 b hb).1.2.2.2.2.2⟩
    have none5 : G5 s3.heap.objs.size = none := by
      have z : G5 ce.locals = none := I6.free
      rwa [cl] at z
    obtain ⟨m, ns, _⟩ := I6.loc
    have ns : s6.heap.Ns ce.locals m := ns
    rw [cl] at ns
    refine ⟨m, ns, fun h'' sb => ?_⟩
    obtain ⟨a0, a1, a2, a3, a4, a5⟩ := I3.fpOk (pins := pins) (Nat.le_refl _) none5
    exact ⟨.ref D, G5, I7.turned (t' := s6.toks) (fun b o hb z => (sb.2 b hb).trans z) a0 a1 a3 a4 a5, rfl, qq⟩
  refine thnF (T.item (X.blk s3 G3 sc ce fp) rfl rfl rfl calm i [] s5 _ G5 (fun _ _ => False) I5 (own0 I5 n5) t5 go) fun r s6 ⟨u, er, q6⟩ => ?_
  subst er
  refine thnF q6 fun _ s7 ⟨x, G7, I7, r7, y7, t7, n7⟩ => ?_
  refine thnF (qg.run _ s7 _ G7 x u _ (I7.pinned (own0 I7 n7) (T.obj _ _ t7)) r7 (step x G7 y7)) fun _ s8 ⟨τ, G8, I8, w8, q8⟩ => ?_
  refine thnF (qt.run _ s8 τ G8 _ I8 q8) fun b s9 ⟨G9, I9, q9⟩ => ?_
  have back : ∀ {τ9 : L2.St} {t : Shared} {G' : Hp}, Inv (X.blk s3 G3 sc ce fp) ([] ++ pinsAt fp s7.heap) τ9 G' t → (wipe σ (own.map (·.2))).length = τ9.length → (∀ (j : Nat) v, (wipe σ (own.map (·.2)))[j]? = some (some v) → τ9[j]? = some (some v)) → N G' →
      ∃ m, m < n ∧ ∃ i G', Inv (X.blk s3 G3 sc ce fp) [] (wipe σ (own.map (·.2))) G' t ∧ tn i t.heap ∧ (∀ b ∈ fp, G' b = none) ∧ W i m G' := fun {τ9 t G'} K hl hk hz => by
    obtain ⟨m', lt, w'⟩ := hN G' hz
    have pinned : ∀ b ∈ fp, ∀ o, s7.heap.get? b = some o → t.heap.get? b = some o ∧ G' b = none := fun b hb o z =>
      let k := K.pin (b, o) (List.mem_append_right _ (List.mem_append_right _ (mem_pinsAt hb z)))
      ⟨k.1, k.2.1⟩
    exact ⟨m', lt, i + 1, G', (K.unpinned (pins := [])).weak hl hk, T.keep _ _ _ t7 fun b hb o z => (pinned b hb o z).1, fun b hb => let ⟨o, z, _⟩ := T.obj _ _ t7 b hb; (pinned b hb o z).2, w'⟩
  have len8 : (wipe σ (own.map (·.2))).length = τ.length := by rw [← w8, wipe_length]
  have know8 : ∀ (j : Nat) v, (wipe σ (own.map (·.2)))[j]? = some (some v) → τ[j]? = some (some v) := fun j v z => by rw [← w8] at z; exact (wipe_some z).1
  have know9 : ∀ (j : Nat) v, (wipe σ (own.map (·.2)))[j]? = some (some v) → (wipe τ vs1)[j]? = some (some v) := fun j v z => by
    rw [← w8] at z
    obtain ⟨z1, z2⟩ := wipe_some z
    rw [wipe_out fun k => z2 (sub j k)]
    exact z1
  cases b
  · simp only [Bool.false_eq_true, if_false] at q9 ⊢
    exact back I9 len8 know8 q9
  simp only [if_true] at q9 ⊢
  refine thnF (qi1.run _ s9 τ G9 _ I9 q9) fun z10 s10 hz => thnF hz fun itv s11 w11 => ?_
  obtain ⟨it1, fp1, tn1, J1, G11, e1, I11, T1, t11, f11, W1, ⟨m1, v1⟩, turn1⟩ := w11
  subst e1
  have own1 : ∀ {G' : Hp}, (∀ b ∈ fp1, G' b = none) → ∀ b ∈ fp1, FpOk (X.blk s3 G3 sc ce fp) ([] ++ pinsAt fp s7.heap) G' b := fun hn b hb => ⟨hn b hb, (f11 b hb).2⟩
  refine dcx_start1 ?loop1 (T1.self X.A 0 _ _ _ t11 ?loop1)
  refine dcx_loop1 (fun k t => ∃ j G', Inv (X.blk s3 G3 sc ce fp) ([] ++ pinsAt fp s7.heap) (wipe τ vs1) G' t ∧ tn1 j t.heap ∧ (∀ b ∈ fp1, G' b = none) ∧ W1 j k G') ?_ m1 ⟨0, G11, I11.weak (wipe_length _ _) (fun j v z => (wipe_some z).1), t11, fun b hb => (f11 b hb).1, v1⟩
  rintro k s12 ⟨j, G12, I12, t12, n12, w12⟩
  rcases turn1 j k G12 w12 with ⟨stop1, z1⟩ | ⟨go1, N1, hN1, step1⟩
  · refine thnF (T1.done (X.blk s3 G3 sc ce fp) rfl rfl rfl calm j _ s12 (wipe τ vs1) G12 (fun _ _ => False) I12 (own1 n12) t12 stop1) fun r s13 ⟨er, I13⟩ => ?_
    subst er
    exact back I13 (len8.trans (wipe_length τ vs1).symm) know9 z1
  refine thnF (T1.item (X.blk s3 G3 sc ce fp) rfl rfl rfl calm j _ s12 (wipe τ vs1) G12 (fun _ _ => False) I12 (own1 n12) t12 go1) fun r s13 ⟨u1, er, q13⟩ => ?_
  subst er
  refine thnF q13 fun _ s14 ⟨x1, G14, I14, r14, y14, t14, n14⟩ => ?_
  refine thnF (qg1.run _ s14 (wipe τ vs1) G14 x1 u1 _ (I14.pinned (own1 n14) (T1.obj _ _ t14)) r14 (step1 x1 G14 y14)) fun _ s15 ⟨τ1, G15, I15, w15, q15⟩ => ?_
  refine thnF (qt1.run _ s15 τ1 G15 _ I15 q15) fun b1 s16 ⟨G16, I16, q16⟩ => ?_
  have back1 : ∀ {t : Shared} {G' : Hp}, Inv (X.blk s3 G3 sc ce fp) (([] ++ pinsAt fp s7.heap) ++ pinsAt fp1 s14.heap) τ1 G' t → N1 G' → ∃ m, m < k ∧ ∃ j G', Inv (X.blk s3 G3 sc ce fp) ([] ++ pinsAt fp s7.heap) (wipe τ vs1) G' t ∧ tn1 j t.heap ∧ (∀ b ∈ fp1, G' b = none) ∧ W1 j m G' := fun {t G'} K hz => by
    obtain ⟨m', lt, w'⟩ := hN1 G' hz
    have pinned : ∀ b ∈ fp1, ∀ o, s14.heap.get? b = some o → t.heap.get? b = some o ∧ G' b = none := fun b hb o z =>
      let k := K.pin (b, o) (List.mem_append_right _ (List.mem_append_right _ (mem_pinsAt hb z)))
      ⟨k.1, k.2.1⟩
    exact ⟨m', lt, j + 1, G', K.unpinned.weak (by rw [← w15, wipe_length]) (fun j v z => by rw [← w15] at z; exact (wipe_some z).1), T1.keep _ _ _ t14 fun b hb o z => (pinned b hb o z).1, fun b hb => let ⟨o, z, _⟩ := T1.obj _ _ t14 b hb; (pinned b hb o z).2, w'⟩
  cases b1
  · simp only [Bool.false_eq_true, if_false] at q16 ⊢
    exact back1 I16 q16
  simp only [if_true] at q16 ⊢
  refine thnF (qk.run _ s16 τ1 G16 _ I16 q16) fun y17 s17 ⟨yk, G17, I17, r17, q17⟩ => ?_
  refine thnF (qv.run _ s17 τ1 G17 _ I17 q17) fun y18 s18 ⟨yv, G18, I18, r18, kvs, key, ek', hD, room, q18⟩ => ?_
  subst ek'
  exact d_dictSet (X := X.blk s3 G3 sc ce fp) I18 hD room r17 r18 fun s19 I19 => back1 I19 q18⟩
end
end StX
/-! the layout's mathematics: which step precedes which, which are open -/
namespace Oo
open PySem
/-- its operands are in order without a point -/
def Kd.fixd : Kd → Bool
  | .thn => true
  | k => k.grd
def Ex.fx (mk : List (List Nat)) (p : List Nat) : Ex → Bool
  | .num _ => decide (p ∈ mk)
  | .nd k _ => k.fixd || decide (p ∈ mk)
def Ex.gd : Ex → Bool
  | .num _ => false
  | .nd k _ => k.grd
theorem own_le (e : Ex) : e.own ≤ 2 := by
  cases e with
  | num n => simp [Ex.own]
  | nd k os => cases k <;> simp [Ex.own, Kd.steps]
mutual
theorem steps_le : ∀ e : Ex, e.steps ≤ 2 * e.nodes
  | .num n => by simp [Ex.steps]
  | .nd k os => by
    have h1 := stepss_le os
    have h2 := own_le (.nd k os)
    simp only [Ex.own] at h2
    simp only [Ex.steps, Ex.nodes]
    omega
theorem stepss_le : ∀ es : List Ex, Ex.stepss es ≤ 2 * Ex.nodess es
  | [] => by simp [Ex.stepss]
  | e :: r => by
    have h1 := steps_le e
    have h2 := stepss_le r
    simp only [Ex.stepss, Ex.nodess]
    omega
end
/-- i is among the s numbers from n on -/
def inR (n s i : Nat) : Bool := decide (n ≤ i) && decide (i < n + s)
theorem inR_iff {n s i : Nat} : inR n s i = true ↔ n ≤ i ∧ i < n + s := by
  unfold inR
  rw [Bool.and_eq_true, decide_eq_true_eq, decide_eq_true_eq]
theorem inR_not {n s i : Nat} (h : ¬ (n ≤ i ∧ i < n + s)) : inR n s i = false := by
  cases e : inR n s i with
  | false => rfl
  | true => exact absurd (inR_iff.mp e) h
mutual
/-- i precedes j within the expression at p, its steps numbered from n on -/
def Ex.prec (mk : List (List Nat)) : Ex → List Nat → Nat → Nat → Nat → Bool
  | .num _, _, _, _, _ => false
  | .nd k os, p, n, i, j => (inR n (Ex.stepss os + k.steps) i && inR (n + Ex.stepss os) k.steps j && decide (i < j)) || Ex.precs mk (k.fixd || decide (p ∈ mk)) k.grd os p 0 n i j
def Ex.precs (mk : List (List Nat)) (fx g : Bool) : List Ex → List Nat → Nat → Nat → Nat → Nat → Bool
  | [], _, _, _, _, _ => false
  | e :: r, p, a, n, i, j => Ex.prec mk e (p ++ [a]) n i j || (fx && (!g || decide (a = 0)) && inR n e.steps i && inR (n + e.steps) (Ex.stepss r) j) || Ex.precs mk fx g r p (a + 1) (n + e.steps) i j
end
mutual
/-- i and j are open within it -/
def Ex.opn (mk : List (List Nat)) : Ex → List Nat → Nat → Nat → Nat → Bool
  | .num _, _, _, _, _ => false
  | .nd k os, p, n, i, j => Ex.opns mk (k.fixd || decide (p ∈ mk)) os p 0 n i j
def Ex.opns (mk : List (List Nat)) (fx : Bool) : List Ex → List Nat → Nat → Nat → Nat → Nat → Bool
  | [], _, _, _, _, _ => false
  | e :: r, p, a, n, i, j => Ex.opn mk e (p ++ [a]) n i j || (!fx && ((inR n e.steps i && inR (n + e.steps) (Ex.stepss r) j) || (inR n e.steps j && inR (n + e.steps) (Ex.stepss r) i))) || Ex.opns mk fx r p (a + 1) (n + e.steps) i j
end
theorem bor {a b : Bool} : (a || b) = true ↔ a = true ∨ b = true := by cases a <;> cases b <;> simp
theorem band {a b : Bool} : (a && b) = true ↔ a = true ∧ b = true := by cases a <;> cases b <;> simp
mutual
theorem prec_rng {mk : List (List Nat)} : ∀ (e : Ex) (p : List Nat) (n i j : Nat), e.prec mk p n i j = true → n ≤ i ∧ i < j ∧ j < n + e.steps
  | .num _, p, n, i, j, h => by simp [Ex.prec] at h
  | .nd k os, p, n, i, j, h => by
    simp only [Ex.prec, bor, band, inR_iff, decide_eq_true_eq] at h
    simp only [Ex.steps]
    rcases h with ⟨⟨h1, h2⟩, h3⟩ | h
    · omega
    · have := precs_rng os p 0 n i j h
      omega
theorem precs_rng {mk : List (List Nat)} {fx g : Bool} : ∀ (os : List Ex) (p : List Nat) (a n i j : Nat), Ex.precs mk fx g os p a n i j = true → n ≤ i ∧ i < j ∧ j < n + Ex.stepss os
  | [], p, a, n, i, j, h => by simp [Ex.precs] at h
  | e :: r, p, a, n, i, j, h => by
    simp only [Ex.precs, bor, band, inR_iff] at h
    simp only [Ex.stepss]
    rcases h with (h | ⟨⟨_, h1⟩, h2⟩) | h
    · have := prec_rng e (p ++ [a]) n i j h
      omega
    · omega
    · have := precs_rng r p (a + 1) (n + e.steps) i j h
      omega
end
mutual
theorem opn_rng {mk : List (List Nat)} : ∀ (e : Ex) (p : List Nat) (n i j : Nat), e.opn mk p n i j = true → n ≤ i ∧ i < n + e.steps ∧ n ≤ j ∧ j < n + e.steps
  | .num _, p, n, i, j, h => by simp [Ex.opn] at h
  | .nd k os, p, n, i, j, h => by
    simp only [Ex.opn] at h
    simp only [Ex.steps]
    have := opns_rng os p 0 n i j h
    omega
theorem opns_rng {mk : List (List Nat)} {fx : Bool} : ∀ (os : List Ex) (p : List Nat) (a n i j : Nat), Ex.opns mk fx os p a n i j = true → n ≤ i ∧ i < n + Ex.stepss os ∧ n ≤ j ∧ j < n + Ex.stepss os
  | [], p, a, n, i, j, h => by simp [Ex.opns] at h
  | e :: r, p, a, n, i, j, h => by
    simp only [Ex.opns, bor, band, inR_iff] at h
    simp only [Ex.stepss]
    rcases h with (h | ⟨_, h1 | h1⟩) | h
    · have := opn_rng e (p ++ [a]) n i j h
      omega
    · omega
    · omega
    · have := opns_rng r p (a + 1) (n + e.steps) i j h
      omega
end
theorem prec_no {mk : List (List Nat)} {e : Ex} {p : List Nat} {n i j : Nat} (h : ¬ (n ≤ i ∧ i < j ∧ j < n + e.steps)) : e.prec mk p n i j = false := by
  cases q : e.prec mk p n i j with
  | false => rfl
  | true => exact absurd (prec_rng e p n i j q) h
theorem precs_no {mk : List (List Nat)} {fx g : Bool} {os : List Ex} {p : List Nat} {a n i j : Nat} (h : ¬ (n ≤ i ∧ i < j ∧ j < n + Ex.stepss os)) : Ex.precs mk fx g os p a n i j = false := by
  cases q : Ex.precs mk fx g os p a n i j with
  | false => rfl
  | true => exact absurd (precs_rng os p a n i j q) h
theorem opn_no {mk : List (List Nat)} {e : Ex} {p : List Nat} {n i j : Nat} (h : ¬ (n ≤ i ∧ i < n + e.steps ∧ n ≤ j ∧ j < n + e.steps)) : e.opn mk p n i j = false := by
  cases q : e.opn mk p n i j with
  | false => rfl
  | true => exact absurd (opn_rng e p n i j q) h
theorem opns_no {mk : List (List Nat)} {fx : Bool} {os : List Ex} {p : List Nat} {a n i j : Nat} (h : ¬ (n ≤ i ∧ i < n + Ex.stepss os ∧ n ≤ j ∧ j < n + Ex.stepss os)) : Ex.opns mk fx os p a n i j = false := by
  cases q : Ex.opns mk fx os p a n i j with
  | false => rfl
  | true => exact absurd (opns_rng os p a n i j q) h
theorem stepss_take_succ (os : List Ex) (a : Nat) (h : a < os.length) : Ex.stepss (os.take (a + 1)) = Ex.stepss (os.take a) + os[a].steps := by
  rw [take_succ_get os a h, stepss_append]
theorem stepss_take_le : ∀ (os : List Ex) (a : Nat), Ex.stepss (os.take a) ≤ Ex.stepss os
  | [], a => by simp [Ex.stepss]
  | e :: r, 0 => by simp [Ex.stepss]
  | e :: r, a + 1 => by
    have := stepss_take_le r a
    simp only [List.take_succ_cons, Ex.stepss]
    omega
theorem stepss_child (os : List Ex) (a : Nat) (h : a < os.length) : Ex.stepss (os.take a) + os[a].steps ≤ Ex.stepss os := by
  rw [← stepss_take_succ os a h]
  exact stepss_take_le os (a + 1)
/-- how many of the operands ahead of the a-th are ahead of its steps -/
def aheadN (g : Bool) (a : Nat) : Nat := if g then min a 1 else a
theorem precs_at {mk : List (List Nat)} {fx g : Bool} : ∀ (os : List Ex) (p : List Nat) (a0 n a i j : Nat) (h : a < os.length), n + Ex.stepss (os.take a) ≤ j → j < n + Ex.stepss (os.take a) + os[a].steps →
    Ex.precs mk fx g os p a0 n i j = (os[a].prec mk (p ++ [a0 + a]) (n + Ex.stepss (os.take a)) i j || (fx && inR n (Ex.stepss (os.take (if g then (if a0 = 0 then min a 1 else 0) else a))) i))
  | [], p, a0, n, a, i, j, h, h1, h2 => absurd h (by simp)
  | e :: r, p, a0, n, 0, i, j, h, h1, h2 => by
    simp only [List.take_zero, Ex.stepss, Nat.add_zero, List.getElem_cons_zero] at h1 h2 ⊢
    simp only [Ex.precs]
    rw [precs_no (by omega), inR_not (i := j) (by omega), Bool.and_false, Bool.or_false, Bool.or_false]
    have e0 : Ex.stepss ((e :: r).take (if g = true then if a0 = 0 then min 0 1 else 0 else 0)) = 0 := by
      cases g <;> simp [Ex.stepss]
    rw [e0, inR_not (n := n) (s := 0) (by omega), Bool.and_false, Bool.or_false]
  | e :: r, p, a0, n, a + 1, i, j, h, h1, h2 => by
    have hr : a < r.length := by simpa using h
    simp only [List.take_succ_cons, Ex.stepss, List.getElem_cons_succ] at h1 h2 ⊢
    have hc := stepss_child r a hr
    simp only [Ex.precs]
    rw [precs_at r p (a0 + 1) (n + e.steps) a i j hr (by omega) (by omega), prec_no (e := e) (by omega), Bool.false_or]
    have h3 : inR (n + e.steps) (Ex.stepss r) j = true := inR_iff.mpr ⟨by omega, by omega⟩
    rw [h3, Bool.and_true, show n + e.steps + Ex.stepss (r.take a) = n + (e.steps + Ex.stepss (r.take a)) by omega, show p ++ [a0 + 1 + a] = p ++ [a0 + (a + 1)] by rw [show a0 + 1 + a = a0 + (a + 1) by omega]]
    generalize r[a].prec mk (p ++ [a0 + (a + 1)]) (n + (e.steps + Ex.stepss (r.take a))) i j = B
    have key : (fx && (!g || decide (a0 = 0)) && inR n e.steps i || (fx && inR (n + e.steps) (Ex.stepss (r.take (if g = true then if a0 + 1 = 0 then min a 1 else 0 else a))) i)) =
        (fx && inR n (Ex.stepss ((e :: r).take (if g = true then if a0 = 0 then min (a + 1) 1 else 0 else a + 1))) i) := by
      cases fx with
      | false => rfl
      | true =>
        cases g with
        | true =>
          simp only [if_true, if_neg (show ¬ (a0 + 1 = 0) by omega), List.take_zero, Ex.stepss, Bool.not_true, Bool.false_or, Bool.true_and]
          rw [inR_not (n := n + e.steps) (s := 0) (by omega), Bool.or_false]
          by_cases h0 : a0 = 0
          · rw [if_pos h0, decide_eq_true h0, Bool.true_and, show min (a + 1) 1 = 0 + 1 by omega, List.take_succ_cons]
            simp [Ex.stepss]
          · rw [if_neg h0, decide_eq_false h0, Bool.false_and, List.take_zero]
            exact (inR_not (by simp [Ex.stepss])).symm
        | false =>
          simp only [Bool.false_eq_true, if_false, Bool.not_false, Bool.true_or, Bool.true_and, List.take_succ_cons, Ex.stepss]
          rw [Bool.eq_iff_iff, bor, inR_iff, inR_iff, inR_iff]
          omega
    rw [← key]
    cases B <;> simp
/-- what else is open with the steps of the a-th operand -/
theorem opns_at {mk : List (List Nat)} {fx : Bool} : ∀ (os : List Ex) (p : List Nat) (a0 n a i j : Nat) (h : a < os.length), n + Ex.stepss (os.take a) ≤ j → j < n + Ex.stepss (os.take a) + os[a].steps →
    Ex.opns mk fx os p a0 n i j = (os[a].opn mk (p ++ [a0 + a]) (n + Ex.stepss (os.take a)) i j || (!fx && (inR n (Ex.stepss os) i && !inR (n + Ex.stepss (os.take a)) os[a].steps i)))
  | [], p, a0, n, a, i, j, h, h1, h2 => absurd h (by simp)
  | e :: r, p, a0, n, 0, i, j, h, h1, h2 => by
    simp only [List.take_zero, Ex.stepss, Nat.add_zero, List.getElem_cons_zero] at h1 h2 ⊢
    simp only [Ex.opns]
    rw [opns_no (by omega), inR_not (i := j) (n := n + e.steps) (by omega), Bool.and_false, Bool.false_or, Bool.or_false]
    have hj : inR n e.steps j = true := inR_iff.mpr ⟨h1, h2⟩
    rw [hj, Bool.true_and]
    congr 2
    rw [Bool.eq_iff_iff, band, Bool.not_eq_true', ← Bool.not_eq_true, inR_iff, inR_iff, inR_iff]
    omega
  | e :: r, p, a0, n, a + 1, i, j, h, h1, h2 => by
    have hr : a < r.length := by simpa using h
    simp only [List.take_succ_cons, Ex.stepss, List.getElem_cons_succ] at h1 h2 ⊢
    have hc := stepss_child r a hr
    simp only [Ex.opns]
    rw [opns_at r p (a0 + 1) (n + e.steps) a i j hr (by omega) (by omega), opn_no (e := e) (by omega), Bool.false_or]
    have h3 : inR (n + e.steps) (Ex.stepss r) j = true := inR_iff.mpr ⟨by omega, by omega⟩
    have h4 : inR n e.steps j = false := inR_not (by omega)
    rw [h3, h4, Bool.and_true, Bool.false_and, Bool.or_false, show n + e.steps + Ex.stepss (r.take a) = n + (e.steps + Ex.stepss (r.take a)) by omega, show p ++ [a0 + 1 + a] = p ++ [a0 + (a + 1)] by rw [show a0 + 1 + a = a0 + (a + 1) by omega]]
    generalize r[a].opn mk (p ++ [a0 + (a + 1)]) (n + (e.steps + Ex.stepss (r.take a))) i j = B
    have key : (!fx && inR n e.steps i || (!fx && (inR (n + e.steps) (Ex.stepss r) i && !inR (n + (e.steps + Ex.stepss (r.take a))) r[a].steps i))) = (!fx && (inR n (e.steps + Ex.stepss r) i && !inR (n + (e.steps + Ex.stepss (r.take a))) r[a].steps i)) := by
      cases fx with
      | true => rfl
      | false =>
        simp only [Bool.not_false, Bool.true_and]
        rw [Bool.eq_iff_iff, bor, band, band, Bool.not_eq_true', ← Bool.not_eq_true, inR_iff, inR_iff, inR_iff, inR_iff]
        omega
    rw [← key]
    cases B <;> simp
end Oo
namespace Oo
open PySem PySem.Spec PyProof.Rows L2
/-! sets of steps as ints -/
def Bits (x : Int) (S : Nat → Bool) : Prop := ∃ b : Nat, x = (b : Int) ∧ ∀ i, b.testBit i = S i
theorem Bits.congr {x : Int} {S T : Nat → Bool} (h : Bits x S) (e : ∀ i, S i = T i) : Bits x T := by
  obtain ⟨b, rfl, t⟩ := h
  exact ⟨b, rfl, fun i => (t i).trans (e i)⟩
theorem Bits.zero : Bits 0 (fun _ => false) := ⟨0, rfl, fun i => Nat.zero_testBit i⟩
theorem Bits.or {x y : Int} {S T : Nat → Bool} (h : Bits x S) (k : Bits y T) : Bits (Builtin.bitOr x y) (fun i => S i || T i) := by
  obtain ⟨a, rfl, s⟩ := h
  obtain ⟨b, rfl, t⟩ := k
  refine ⟨a ||| b, ?_, fun i => by rw [Nat.testBit_or, s, t]⟩
  rw [bitOr_nn (Int.natCast_nonneg _) (Int.natCast_nonneg _), Int.toNat_natCast, Int.toNat_natCast]
theorem Bits.and {x y : Int} {S T : Nat → Bool} (h : Bits x S) (k : Bits y T) : Bits (Builtin.bitAnd x y) (fun i => S i && T i) := by
  obtain ⟨a, rfl, s⟩ := h
  obtain ⟨b, rfl, t⟩ := k
  refine ⟨a &&& b, ?_, fun i => by rw [Nat.testBit_and, s, t]⟩
  rw [bitAnd_pp (Int.natCast_nonneg _) (Int.natCast_nonneg _), Int.toNat_natCast, Int.toNat_natCast]
theorem Bits.andNot {x y : Int} {S T : Nat → Bool} (h : Bits x S) (k : Bits y T) : Bits (Builtin.bitAnd x (Builtin.bitNot y)) (fun i => S i && !T i) := by
  obtain ⟨a, rfl, s⟩ := h
  obtain ⟨b, rfl, t⟩ := k
  refine ⟨a ^^^ (a &&& b), ?_, fun i => ?_⟩
  · rw [bitAnd_not, bitAnd_pp (Int.natCast_nonneg _) (Int.natCast_nonneg _), Int.toNat_natCast, Int.toNat_natCast]
    have e1 := nat_or_add_and (a ^^^ (a &&& b)) (a &&& b)
    have e2 : (a ^^^ (a &&& b)) ||| (a &&& b) = a := by
      apply Nat.eq_of_testBit_eq
      intro i
      rw [Nat.testBit_or, Nat.testBit_xor, Nat.testBit_and]
      cases a.testBit i <;> cases b.testBit i <;> rfl
    have e3 : (a ^^^ (a &&& b)) &&& (a &&& b) = 0 := by
      apply Nat.eq_of_testBit_eq
      intro i
      rw [Nat.testBit_and, Nat.testBit_xor, Nat.testBit_and, Nat.zero_testBit]
      cases a.testBit i <;> cases b.testBit i <;> rfl
    rw [e2, e3] at e1
    omega
  · rw [Nat.testBit_xor, Nat.testBit_and, s, t]
    show _ = (S i && !T i)
    cases S i <;> cases T i <;> rfl
theorem Bits.low (k : Nat) : Bits (2 ^ k - 1) (fun i => decide (i < k)) := by
  refine ⟨2 ^ k - 1, ?_, fun i => Nat.testBit_two_pow_sub_one k i⟩
  have : 0 < 2 ^ k := Nat.pow_pos (by decide)
  rw [← PySem.W.kbt_cast k]
  omega
theorem Bits.shl {x : Int} {S : Nat → Bool} (h : Bits x S) (k : Nat) : Bits (x * 2 ^ k) (fun i => decide (k ≤ i) && S (i - k)) := by
  obtain ⟨a, rfl, s⟩ := h
  refine ⟨a <<< k, ?_, fun i => by rw [Nat.testBit_shiftLeft, s]⟩
  rw [Nat.shiftLeft_eq, Int.natCast_mul, PySem.W.kbt_cast]
theorem Bits.rng (n s : Nat) : Bits ((2 ^ s - 1) * 2 ^ n) (inR n s) := by
  refine ((Bits.low s).shl n).congr fun i => ?_
  unfold inR
  by_cases h : n ≤ i
  · rw [decide_eq_true h, Bool.true_and, Bool.true_and]
    congr 1
    exact propext ⟨fun _ => by omega, fun _ => by omega⟩
  · rw [decide_eq_false h, Bool.false_and, Bool.false_and]
theorem Bits.uniq {x y : Int} {S T : Nat → Bool} (h : Bits x S) (k : Bits y T) (e : ∀ i, S i = T i) : x = y := by
  obtain ⟨a, rfl, s⟩ := h
  obtain ⟨b, rfl, t⟩ := k
  congr 1
  apply Nat.eq_of_testBit_eq
  intro i
  rw [s, t, e]
theorem Bits.test {x : Int} {S : Nat → Bool} (h : Bits x S) (k : Nat) : Builtin.bitAnd (x / 2 ^ k) 1 = if S k = true then 1 else 0 := by
  obtain ⟨a, rfl, s⟩ := h
  rw [← s k, ← PySem.W.kbt_cast k, ← Int.natCast_ediv]
  rw [show (1 : Int) = ((1 : Nat) : Int) from rfl, bitAnd_pp (Int.natCast_nonneg _) (Int.natCast_nonneg _), Int.toNat_natCast, Int.toNat_natCast, Nat.and_one_is_mod, Nat.testBit_eq_decide_div_mod_eq]
  by_cases z : a / 2 ^ k % 2 = 1
  · rw [decide_eq_true z, if_pos rfl, z]
  · rw [decide_eq_false z, if_neg (by decide)]
    have : a / 2 ^ k % 2 = 0 := by omega
    rw [this]; rfl
theorem Bits.small {x : Int} {S : Nat → Bool} (h : Bits x S) (n : Nat) (z : ∀ i, n ≤ i → S i = false) : 0 ≤ x ∧ x < 2 ^ n := by
  obtain ⟨a, rfl, s⟩ := h
  refine ⟨Int.natCast_nonneg _, ?_⟩
  rw [← PySem.W.kbt_cast n]
  have := Nat.lt_pow_two_of_testBit a (n := n) fun i hi => by rw [s, z i hi]
  omega
end Oo
namespace Oo
open PySem L2 PyProof.Rows LamX StX ClX
abbrev sIsGuard : Stmt := top 38
abbrev sIsInOrder : Stmt := top 49
abbrev sSpan : Stmt := top 47
abbrev sSInit : Stmt := inClass sSpan 0
abbrev sJoined : Stmt := top 53
abbrev sBelow : Stmt := top 52
def grds : List Str := ["and", "or", "choose"]
structure TxG (K : PySem.W.Frag) (aG : Addr) : Prop where
  g : ∀ H, SqT K H aG (grds.map V.str)
theorem word_grd (k : Kd) : inV (.str k.word) (grds.map V.str) = k.grd := by
  cases k <;> (simp only [Kd.word, Kd.grd, grds]; decide +kernel)
def Kd.isThn : Kd → Bool
  | .thn => true | _ => false
theorem word_thn (k : Kd) : decide (V.str k.word = .str "then") = k.isThn := by
  cases k <;> (show decide (V.str _ = _) = _; first | exact decide_eq_true rfl | exact decide_eq_false (by simp only [Kd.word]; decide +kernel))
/-- the kinds of a node's own steps -/
def Kd.kinds : Kd → List Str
  | .read _ => ["read"]
  | .store _ => ["store"]
  | .step _ _ _ => ["read", "store"]
  | .call _ => ["call"]
  | _ => []
def Ex.kinds : Ex → List Str
  | .num _ => []
  | .nd k _ => k.kinds
theorem kinds_len (e : Ex) : e.kinds.length = e.own := by
  cases e with
  | num n => rfl
  | nd k os => cases k <;> rfl
structure TxO2 (K : PySem.W.Frag) (w : World) (dO : Addr) : Prop where
  low : (dO == sysModules) = false
  yes : ∀ k : Kd, k.steps ≠ 0 → ∃ a : Addr, KDct K w dO k.word (.ref a) ∧ ∀ H, SqT K H a (k.kinds.map V.str)
  no : ∀ k : Kd, k.steps = 0 → KMiss K w dO k.word
def spIsGuard : Sp := fun vs H Q _ => ∃ (v : V) (e : Ex), vs = [v] ∧ InE H e v ∧ Q (.bl e.gd) H
def spIsInOrder : Sp := fun vs H Q _ => ∃ (v : V) (e : Ex), vs = [v] ∧ InE H e v ∧ Q (.bl (e.fx [] [])) H
def spKinds (K : PySem.W.Frag) : Sp := fun vs H Q _ => ∃ (v : V) (e : Ex), vs = [v] ∧ InE H e v ∧ ∀ (q : Addr) (H' : Hp), SqT K H' q (e.kinds.map V.str) → Same H H' → Q (.ref q) H'
/-- the numbers of a node's own steps -/
def Ex.owns (e : Ex) (n : Nat) : List Nat := (List.range e.own).map fun a => n + (e.steps - e.own) + a
def nv_ (l : List Nat) : List V := l.map fun (i : Nat) => V.int (i : Int)
/-- a span as an object -/
structure SpanFs (fs : List (Str × V)) (vp vf : V) (tb : Addr) (fx : Bool) (s : Nat) (to : Addr) (ins : Int) : Prop where
  p : fs.lookup ("path" : Str) = some vp
  f : fs.lookup ("form" : Str) = some vf
  b : fs.lookup ("below" : Str) = some (.ref tb)
  x : fs.lookup ("is_fixed" : Str) = some (.bl fx)
  s : fs.lookup ("size" : Str) = some (.int (s : Int))
  o : fs.lookup ("own" : Str) = some (.ref to)
  i : fs.lookup ("inside" : Str) = some (.int ins)
  d : ∃ b : Bool, fs.lookup ("is_idle" : Str) = some (.bl b)
def insI (e : Ex) (n : Nat) : Int := (2 ^ e.steps - 1) * 2 ^ n
def SpanObj (CS : Addr) (mk : List (List Nat)) (H : Hp) (e : Ex) (p : List Nat) (n : Nat) (v : V) (ws : List V) : Prop := ∃ (a dx : Addr) (fs : List (Str × V)) (vp vf : V) (tb to : Addr), v = .ref a ∧ H a = some (.ins CS dx fs) ∧ SpanFs fs vp vf tb (e.fx mk p) e.steps to (insI e n) ∧ PathAt H vp p ∧ InE H e vf ∧ H tb = some (.tup ws) ∧ H to = some (.tup (nv_ (e.owns n)))
mutual
def SpanAt (CS : Addr) (mk : List (List Nat)) (H : Hp) : Ex → List Nat → Nat → V → Prop
  | .num c, p, n, v => SpanObj CS mk H (.num c) p n v []
  | .nd k os, p, n, v => ∃ ws, SpanObj CS mk H (.nd k os) p n v ws ∧ SpansAt CS mk H os p 0 n ws
def SpansAt (CS : Addr) (mk : List (List Nat)) (H : Hp) : List Ex → List Nat → Nat → Nat → List V → Prop
  | [], _, _, _, ws => ws = []
  | e :: r, p, a, n, ws => ∃ v ws', ws = v :: ws' ∧ SpanAt CS mk H e (p ++ [a]) n v ∧ SpansAt CS mk H r p (a + 1) (n + e.steps) ws'
end
/-- tuples and objects with fields stay -/
def KI (CS : Addr) (H H' : Hp) : Prop := (∀ q xs, H q = some (.tup xs) → H' q = some (.tup xs)) ∧ ∀ q dx fs v, fs.lookup ("path" : Str) = some v → H q = some (.ins CS dx fs) → H' q = some (.ins CS dx fs)
theorem KI.same {CS : Addr} {H H' : Hp} (s : Same H H') : KI CS H H' := ⟨fun q xs z => s _ _ z, fun q dx fs v _ z => s _ _ z⟩
theorem KI.trans {CS : Addr} {H H1 H2 : Hp} (a : KI CS H H1) (b : KI CS H1 H2) : KI CS H H2 := ⟨fun q xs z => b.1 _ _ (a.1 _ _ z), fun q dx fs v y z => b.2 _ _ _ _ y (a.2 _ _ _ _ y z)⟩
theorem KI.but {CS C p dx0 : Addr} {fs0 : List (Str × V)} {H H' : Hp} (hp : H p = some (.ins C dx0 fs0)) (b : But p H H') (h0 : fs0.lookup ("path" : Str) = none := by rfl) : KI CS H H' :=
  ⟨fun q xs z => b _ _ (fun w => by rw [w, hp] at z; cases z) z, fun q dx fs v y z => b _ _ (fun w => by rw [w, hp] at z; cases z; rw [h0] at y; cases y) z⟩
theorem KI.lst {CS a : Addr} {H : Hp} {xs : List V} {o : HO} (e : H a = some (.lst xs)) : KI CS H (upd H a o) :=
  ⟨fun q ys z => by rw [upd_ne (fun w => by rw [w, e] at z; cases z)]; exact z, fun q dx fs v _ z => by rw [upd_ne (fun w => by rw [w, e] at z; cases z)]; exact z⟩
theorem SpanObj.keep {CS : Addr} {mk : List (List Nat)} {H H' : Hp} {e : Ex} {p : List Nat} {n : Nat} {v : V} {ws : List V} (h : SpanObj CS mk H e p n v ws) (k : KI CS H H') : SpanObj CS mk H' e p n v ws := by
  obtain ⟨a, dx, fs, vp, vf, tb, to, rfl, h1, hf, h2, h3, h4, h5⟩ := h
  refine ⟨a, dx, fs, vp, vf, tb, to, rfl, ?_, hf, h2.keep k.1, h3.keep k.1, k.1 _ _ h4, k.1 _ _ h5⟩
  exact k.2 _ _ _ _ hf.p h1
mutual
theorem SpanAt.keep {CS : Addr} {mk : List (List Nat)} {H H' : Hp} (k : KI CS H H') : ∀ (e : Ex) (p : List Nat) (n : Nat) (v : V), SpanAt CS mk H e p n v → SpanAt CS mk H' e p n v
  | .num c, p, n, v, h => by
    unfold SpanAt at h ⊢
    exact h.keep k
  | .nd kd os, p, n, v, h => by
    unfold SpanAt at h ⊢
    obtain ⟨ws, h1, h2⟩ := h
    exact ⟨ws, h1.keep k, SpansAt.keep k os p 0 n ws h2⟩
theorem SpansAt.keep {CS : Addr} {mk : List (List Nat)} {H H' : Hp} (k : KI CS H H') : ∀ (os : List Ex) (p : List Nat) (a n : Nat) (ws : List V), SpansAt CS mk H os p a n ws → SpansAt CS mk H' os p a n ws
  | [], p, a, n, ws, h => by unfold SpansAt at h ⊢; exact h
  | e :: r, p, a, n, ws, h => by
    unfold SpansAt at h ⊢
    obtain ⟨v, ws', rfl, h1, h2⟩ := h
    exact ⟨v, ws', rfl, SpanAt.keep k e (p ++ [a]) n v h1, SpansAt.keep k r p (a + 1) (n + e.steps) ws' h2⟩
end
theorem SpanAt.obj {CS : Addr} {mk : List (List Nat)} {H : Hp} {e : Ex} {p : List Nat} {n : Nat} {v : V} (h : SpanAt CS mk H e p n v) : ∃ ws, SpanObj CS mk H e p n v ws ∧ SpansAt CS mk H e.ops p 0 n ws := by
  cases e with
  | num c =>
    unfold SpanAt at h
    refine ⟨[], h, ?_⟩
    show SpansAt CS mk H [] p 0 n []
    unfold SpansAt
    rfl
  | nd k os =>
    unfold SpanAt at h
    exact h
theorem SpanAt.of {CS : Addr} {mk : List (List Nat)} {H : Hp} {e : Ex} {p : List Nat} {n : Nat} {v : V} {ws : List V} (h1 : SpanObj CS mk H e p n v ws) (h2 : SpansAt CS mk H e.ops p 0 n ws) : SpanAt CS mk H e p n v := by
  cases e with
  | num c =>
    have h2 : SpansAt CS mk H [] p 0 n ws := h2
    unfold SpansAt at h2
    subst h2
    unfold SpanAt
    exact h1
  | nd k os =>
    unfold SpanAt
    exact ⟨ws, h1, h2⟩
theorem SpansAt.length {CS : Addr} {mk : List (List Nat)} {H : Hp} : ∀ {os : List Ex} {p : List Nat} {a n : Nat} {ws : List V}, SpansAt CS mk H os p a n ws → ws.length = os.length
  | [], p, a, n, ws, h => by unfold SpansAt at h; rw [h]; rfl
  | e :: r, p, a, n, ws, h => by
    unfold SpansAt at h
    obtain ⟨v, ws', rfl, _, h2⟩ := h
    rw [List.length_cons, List.length_cons, h2.length]
theorem SpansAt.get {CS : Addr} {mk : List (List Nat)} {H : Hp} : ∀ {os : List Ex} {p : List Nat} {a n : Nat} {ws : List V}, SpansAt CS mk H os p a n ws → ∀ (i : Nat) (hi : i < os.length), ∃ v, ws[i]? = some v ∧ SpanAt CS mk H os[i] (p ++ [a + i]) (n + Ex.stepss (os.take i)) v
  | [], p, a, n, ws, h, i, hi => absurd hi (by simp)
  | e :: r, p, a, n, ws, h, 0, hi => by
    unfold SpansAt at h
    obtain ⟨v, ws', rfl, h1, _⟩ := h
    exact ⟨v, rfl, by simpa [Ex.stepss] using h1⟩
  | e :: r, p, a, n, ws, h, i + 1, hi => by
    unfold SpansAt at h
    obtain ⟨v, ws', rfl, _, h2⟩ := h
    obtain ⟨u, hu, su⟩ := h2.get i (by simpa using hi)
    refine ⟨u, by simpa using hu, ?_⟩
    simp only [List.getElem_cons_succ, List.take_succ_cons, Ex.stepss]
    rw [show a + (i + 1) = a + 1 + i by omega, show n + (e.steps + Ex.stepss (r.take i)) = n + e.steps + Ex.stepss (r.take i) by omega]
    exact su
theorem SpansAt.snoc {CS : Addr} {mk : List (List Nat)} {H : Hp} : ∀ {os : List Ex} {p : List Nat} {a n : Nat} {ws : List V} {e : Ex} {v : V}, SpansAt CS mk H os p a n ws → SpanAt CS mk H e (p ++ [a + os.length]) (n + Ex.stepss os) v → SpansAt CS mk H (os ++ [e]) p a n (ws ++ [v])
  | [], p, a, n, ws, e, v, h, hv => by
    unfold SpansAt at h
    subst h
    show SpansAt CS mk H [e] p a n [v]
    unfold SpansAt
    refine ⟨v, [], rfl, by simpa [Ex.stepss] using hv, ?_⟩
    unfold SpansAt
    rfl
  | x :: r, p, a, n, ws, e, v, h, hv => by
    unfold SpansAt at h
    obtain ⟨u, ws', rfl, h1, h2⟩ := h
    show SpansAt CS mk H (x :: (r ++ [e])) p a n (u :: (ws' ++ [v]))
    unfold SpansAt
    refine ⟨u, ws' ++ [v], rfl, h1, h2.snoc ?_⟩
    rw [List.length_cons, Ex.stepss] at hv
    rw [show a + 1 + r.length = a + (r.length + 1) by omega, show n + x.steps + Ex.stepss r = n + (x.steps + Ex.stepss r) by omega]
    exact hv
theorem own_steps_le (e : Ex) : e.own ≤ e.steps := by
  cases e with
  | num n => simp [Ex.own]
  | nd k os => simp only [Ex.own, Ex.steps]; omega
theorem steps_own (e : Ex) : e.steps - e.own = Ex.stepss e.ops := by
  cases e with
  | num n => simp [Ex.own, Ex.ops, Ex.steps, Ex.stepss]
  | nd k os => simp only [Ex.own, Ex.ops, Ex.steps]; omega
theorem ins_bits (e : Ex) (n : Nat) : Bits (insI e n) (inR n e.steps) := Bits.rng n e.steps
def teOwnAt : TE := fun σ H Q => ∃ n m a : Nat, σ[4]? = some (some (.int (n : Int))) ∧ σ[6]? = some (some (.int (m : Int))) ∧ σ[9]? = some (some (.int (0 + (a : Int)))) ∧ Q (.int ((n + m + a : Nat) : Int)) H
def teSize (CS : Addr) (mk : List (List Nat)) : TE := fun σ H Q => ∃ v e p n, σ[7]? = some (some v) ∧ SpanAt CS mk H e p n v ∧ Q (.int (e.steps : Int)) H
def teIdle (CS : Addr) (mk : List (List Nat)) : TE := fun σ H Q => ∃ v e p n, σ[7]? = some (some v) ∧ SpanAt CS mk H e p n v ∧ ∀ b : Bool, Q (.bl b) H
def spSInit (CS : Addr) (mk : List (List Nat)) : Sp := fun vs H Q _ => ∃ (a dx : Addr) (vp vf : V) (tb : Addr) (e : Ex) (p : List Nat) (n : Nat) (ws : List V), vs = [.ref a, vp, vf, .ref tb, .int (n : Int), .bl (e.fx mk p)] ∧ H a = some (.ins CS dx []) ∧ PathAt H vp p ∧ InE H e vf ∧ H tb = some (.tup ws) ∧ SpansAt CS mk H e.ops p 0 n ws ∧ e.nodes ≤ 900 ∧ n ≤ 2000 ∧
  ∀ H', SpanAt CS mk H' e p n (.ref a) → But a H H' → Q .non H'
theorem steps_sum : ∀ os : List Ex, (os.map fun o => (o.steps : Int)).sum = (Ex.stepss os : Int)
  | [] => rfl
  | e :: r => by
    rw [List.map_cons, List.sum_cons, steps_sum r, Ex.stepss]
    omega
theorem putF_len (f : Str) (v : V) (fs : List (Str × V)) {n : Nat} (h : fs.length ≤ n) : (putF f v fs).length ≤ n + 1 := Nat.le_trans (length_putF _ _ _) (Nat.succ_le_succ h)
def spJoined (CS : Addr) (mk : List (List Nat)) : Sp := fun vs H Q _ => ∃ (t : Addr) (ws : List V) (os : List Ex) (p : List Nat) (n : Nat), vs = [.ref t] ∧ H t = some (.tup ws) ∧ SpansAt CS mk H os p 0 n ws ∧ ∀ x, Bits x (inR n (Ex.stepss os)) → Q (.int x) H
def spBelow (CS : Addr) (mk : List (List Nat)) : Sp := fun vs H Q _ => ∃ (v : V) (e : Ex) (p : List Nat) (n a : Nat), vs = [v, .int (a : Int)] ∧ SpanAt CS mk H e p n v ∧ a < e.ops.length ∧ ∀ (t : Addr) (ws : List V) (H' : Hp), H' t = some (.tup ws) → SpansAt CS mk H' (e.ops.take (if e.fx mk p then aheadN e.gd a else 0)) p 0 n ws → Same H H' → Q (.ref t) H'
section
variable {P : Program} {w : World} {K : PySem.W.Frag} {mg : Str → Option Value} {base : Heap} {X : Cx}
theorem scIsGuard : FnScope ["node"] ["node"] (defScope sIsGuard) := ⟨rfl, rfl, rfl, by decide +kernel, rfl, by decide +kernel, by decide +kernel⟩
theorem ok_isguard {f fi aG : Addr} {fd fdi : FuncData} (F : Fun K "is_guard" "is_guard" sIsGuard f fd) (TG : TxG K aG) (mGUARDS : mg "GUARDS" = some (.ref aG))
    (GI : FnOk P w K mg base CX0 1 fi fdi ["value"] spIsInt) (kI : PySem.W.keepIn K (.ref fi) = true) (bI : Binds K fdi ["value"] []) (mI : mg "is_integer" = some (.ref fi)) : FnOk P w K mg base CX0 2 f fd ["node"] spIsGuard := by
  refine F.ok scIsGuard (fun vs H Q E h => ?_) (fun cdv A outer s H vs Q E hr h => ?_)
  · obtain ⟨v, e, rfl, _⟩ := h
    rfl
  obtain ⟨v, e, rfl, ie, q⟩ := h
  refine ⟨_, (pss_one (ps_ret (pe_and (pe_not (pe_call GI hr rfl mI kI bI .nil pass0 (pa_cons (pv 0) pa_nil))) (pe_one (pe_cmpR op_in_seq (pe_ix ix_tup (pv 0) pe_int (fun _ _ => rfl)) (pe_globD rfl mGUARDS) (by rfl)))))), ?_⟩
  cases e with
  | num n =>
    unfold InE at ie
    subst ie
    exact ⟨_, rfl, .inl ⟨n, rfl, true, rfl, false, rfl, iteF q⟩⟩
  | nd k os =>
    unfold InE at ie
    obtain ⟨p, ws, rfl, ios, na⟩ := ie
    obtain ⟨tl, ht⟩ := na.tup
    refine ⟨_, rfl, .inr ⟨p, _, rfl, ht, false, rfl, true, rfl, iteT ?_⟩⟩
    refine ⟨_, rfl, p, _, _, _, rfl, rfl, SqT.of ht, at0 _ _, aG, _, rfl, .inr (TG.g _), rfl, all_flat_strs _, ?_⟩
    rw [word_grd]
    exact q
theorem scIsInOrder : FnScope ["node"] ["node"] (defScope sIsInOrder) := ⟨rfl, rfl, rfl, by decide +kernel, rfl, by decide +kernel, by decide +kernel⟩
theorem ok_isinorder {f fi fg : Addr} {fd fdi fdg : FuncData} (F : Fun K "is_in_order" "is_in_order" sIsInOrder f fd)
    (GI : FnOk P w K mg base CX0 1 fi fdi ["value"] spIsInt) (kI : PySem.W.keepIn K (.ref fi) = true) (bI : Binds K fdi ["value"] []) (mI : mg "is_integer" = some (.ref fi))
    (GG : FnOk P w K mg base CX0 2 fg fdg ["node"] spIsGuard) (kG : PySem.W.keepIn K (.ref fg) = true) (bG : Binds K fdg ["node"] []) (mG : mg "is_guard" = some (.ref fg)) : FnOk P w K mg base CX0 3 f fd ["node"] spIsInOrder := by
  refine F.ok scIsInOrder (fun vs H Q E h => ?_) (fun cdv A outer s H vs Q E hr h => ?_)
  · obtain ⟨v, e, rfl, _⟩ := h
    rfl
  obtain ⟨v, e, rfl, ie, q⟩ := h
  have hr1 : Room 1 _ := hr.mono (by decide)
  refine ⟨_, (pss_one (ps_ret (pe_and (pe_not (pe_call GI hr1 rfl mI kI bI .nil pass0 (pa_cons (pv 0) pa_nil))) (pe_one (pe_or (pe_cmpR op_eq (pe_ix ix_tup (pv 0) pe_int (fun _ _ => rfl)) pe_str (nomark _)) (pe_one (pe_call GG hr rfl mG kG bG .nil pass0 (pa_cons (pv 0) pa_nil)))))))), ?_⟩
  cases e with
  | num n =>
    unfold InE at ie
    subst ie
    exact ⟨_, rfl, .inl ⟨n, rfl, true, rfl, false, rfl, iteF q⟩⟩
  | nd k os =>
    have ie0 := ie
    unfold InE at ie
    obtain ⟨p, ws, rfl, ios, na⟩ := ie
    obtain ⟨tl, ht⟩ := na.tup
    refine ⟨_, rfl, .inr ⟨p, _, rfl, ht, false, rfl, true, rfl, iteT ?_⟩⟩
    refine ⟨_, rfl, p, _, _, _, rfl, rfl, SqT.of ht, at0 _ _, rfl, _, rfl, ?_⟩
    rw [word_thn]
    have q' : Q (.bl (k.fixd)) H := by
      have := q
      simp only [Ex.fx, List.not_mem_nil, decide_false, Bool.or_false] at this
      exact this
    cases k with
    | thn => exact iteT q'
    | _ => exact iteF ⟨_, rfl, _, _, rfl, ie0, q'⟩
theorem scSInit : FnScope ["self", "path", "form", "below", "first", "is_fixed", "within", "span", "many", "at"] ["self", "path", "form", "below", "first", "is_fixed"] (defScope sSInit) := ⟨rfl, rfl, rfl, by decide +kernel, rfl, by decide +kernel, by decide +kernel⟩
structure TxS (K : PySem.W.Frag) (C : Addr) : Prop where
  cl : Cls K C
  nP : NoAttr K C "path"
  nF : NoAttr K C "form"
  nB : NoAttr K C "below"
  nX : NoAttr K C "is_fixed"
  nS : NoAttr K C "size"
  nO : NoAttr K C "own"
  nI : NoAttr K C "inside"
  nD : NoAttr K C "is_idle"
theorem ok_sinit {CS f fo fg : Addr} {fd fdo fdg : FuncData} {mk : List (List Nat)} {dvs : List V} {kws : List (Str × V)} (F : FunD K "__init__" "Span.__init__" (defArgs sSInit) (defBody sSInit) (defScope sSInit) dvs kws f fd) (T : TxS K CS) (msu : mg "sum" = none) (ml : mg "len" = none) (mt : mg "tuple" = none) (mr : mg "range" = none)
    (GO : FnOk P w K mg base CX0 2 fo fdo ["node"] (spKinds K)) (kO : PySem.W.keepIn K (.ref fo) = true) (bO : Binds K fdo ["node"] []) (mO : mg "own_steps" = some (.ref fo)) (mal : mg "all" = none)
    (GG : FnOk P w K mg base CX0 2 fg fdg ["node"] spIsGuard) (kG : PySem.W.keepIn K (.ref fg) = true) (bG : Binds K fdg ["node"] []) (mG : mg "is_guard" = some (.ref fg)) :
    FnOk P w K mg base CX0 3 f fd ["self", "path", "form", "below", "first", "is_fixed"] (spSInit CS mk) := by
  refine FunD.ok0 F scSInit (fun vs H Q E h => ?_) (fun cdv A outer s H vs Q E hr h => ?_)
  · obtain ⟨a, dx, vp, vf, tb, e, p, n, ws, rfl, _⟩ := h
    rfl
  obtain ⟨a, dx, vp, vf, tb, e, p, n, ws, rfl, ea, hp, ie, eb, hs, hn, hn2, q⟩ := h
  refine ⟨_, (pss_cons (ps_set (i := 6) scSInit.nd rfl (.inr rfl) (pe_callB (cr_sum rfl) (by rfl) msu (by decide +kernel) (pa_cons (pe_lc (own := [("span", 7)]) (g := gName 7) (tt := tYes) (by rfl) scSInit.nd (pi_tup (pv 3)) (blkOk_by (own := [("span", 7)]) (N := ["self", "path", "form", "below", "first", "is_fixed", "within", "span", "many", "at"]) (sc := defScope sSInit) (by decide +kernel)) (fun _ _ _ _ _ => (pg_name (i := 7) scSInit.nd rfl (Or.inl rfl))) (fun _ _ _ _ _ => pts_nil) (fun _ _ _ _ _ => (pe_as (t' := teSize CS mk) (pe_fld (pv 7) rfl) ?c2))) pa_nil)))
    (pss_cons (ps_set (i := 8) scSInit.nd rfl (.inl rfl) (pe_callB call_len_seq (by rfl) ml PySem.boot_len (pa_cons (pe_call GO hr rfl mO kO bO .nil pass0 (pa_cons (pv 2) pa_nil)) pa_nil)))
    (pss_cons (ps_fld (pv 0) (pv 1) rfl)
    (pss_cons (ps_fld (pv 0) (pv 2) rfl)
    (pss_cons (ps_fld (pv 0) (pv 3) rfl)
    (pss_cons (ps_fld (pv 0) (pv 5) rfl)
    (pss_cons (ps_fld (pv 0) (pe_op op_add (pv 6) (pv 8)) rfl)
    (pss_cons (ps_fld (pv 0) (pe_tupleOf (by rfl) mt (pe_lc (own := [("at", 9)]) (g := gName 9) (tt := tYes) (by rfl) scSInit.nd (pi_range1 (by rfl) mr (pa_cons (pv 8) pa_nil)) (blkOk_by (own := [("at", 9)]) (N := ["self", "path", "form", "below", "first", "is_fixed", "within", "span", "many", "at"]) (sc := defScope sSInit) (by decide +kernel)) (fun _ _ _ _ _ => (pg_name (i := 9) scSInit.nd rfl (Or.inl rfl))) (fun _ _ _ _ _ => pts_nil) (fun _ _ _ _ _ => (pe_as (t' := teOwnAt) (pe_op op_add (pe_op op_add (pv 4) (pv 6)) (pv 9)) ?c1)))) rfl)
    (pss_cons (ps_fld (pv 0) (pe_op op_shlN (pe_op op_sub (pe_op op_oneShl pe_int (pe_fld (pv 0) rfl)) pe_int) (pv 4)) rfl)
    (pss_one (ps_fld (pv 0) (pe_and (pe_cmpR op_eq (pe_fld (pv 0) rfl) pe_int (nomark _)) (pe_and (pe_not (pe_call GG hr rfl mG kG bG .nil pass0 (pa_cons (pv 2) pa_nil))) (pe_one (pe_callB (cr_all rfl) (by rfl) mal (by decide +kernel) (pa_cons (pe_lc (own := [("span", 7)]) (g := gName 7) (tt := tYes) (by rfl) scSInit.nd (pi_tup (pv 3)) (blkOk_by (own := [("span", 7)]) (N := ["self", "path", "form", "below", "first", "is_fixed", "within", "span", "many", "at"]) (sc := defScope sSInit) (by decide +kernel)) (fun _ _ _ _ _ => (pg_name (i := 7) scSInit.nd rfl (Or.inl rfl))) (fun _ _ _ _ _ => pts_nil) (fun _ _ _ _ _ => (pe_as (t' := teIdle CS mk) (pe_fld (pv 7) rfl) ?c3))) pa_nil))))) rfl))))))))))), ?_⟩
  case c1 =>
    rintro σ H Q ⟨n, m, a, e4, e6, e9, q⟩
    refine ⟨_, e4, _, e6, _, _, rfl, rfl, _, e9, _, _, rfl, rfl, ?_⟩
    have : (n : Int) + (m : Int) + (0 + (a : Int)) = ((n + m + a : Nat) : Int) := by omega
    show Q (.int ((n : Int) + (m : Int) + (0 + (a : Int)))) H
    rw [this]
    exact q
  case c2 =>
    rintro σ H Q ⟨v, e, p, n, e7, hs, q⟩
    obtain ⟨ws, ⟨a, dx, fs, vp, vf, tb, to, rfl, h1, hf, _⟩, _⟩ := hs.obj
    exact ⟨_, e7, a, CS, dx, fs, _, rfl, h1, T.cl, T.nS, hf.s, q⟩
  case c3 =>
    rintro σ H Q ⟨v, e, p, n, e7, hs, q⟩
    obtain ⟨ws, ⟨a, dx, fs, vp, vf, tb, to, rfl, h1, hf, _⟩, _⟩ := hs.obj
    obtain ⟨b, hb⟩ := hf.d
    exact ⟨_, e7, a, CS, dx, fs, _, rfl, h1, T.cl, T.nD, hb, q b⟩
  obtain ⟨pq, rfl, epq⟩ := hp
  have hlen := hs.length
  have hno := nodes_ops e
  have hng := nodess_ge e.ops
  have hst := steps_le e
  have how := own_le e
  have hso := steps_own e
  have hol := own_steps_le e
  refine ⟨_, rfl, tb, rfl, ⟨_, SqT.of eb⟩, fun D nD => ?_⟩
  refine lc_tup (K := K) (a := tb) (xs := ws) (fun i H' => H' D = some (.lst (((e.ops.take i).map fun o => (o.steps : Int)).map V.int)) ∧ Same H H') ⟨upd_same, same_up nD⟩ (fun i H' _ h => SqT.of (h.2 _ _ eb)) ?_ ?_
  · rintro i u H1 hi ⟨eD, s1⟩
    have hil : i < e.ops.length := by rw [← hlen]; exact (List.getElem?_eq_some_iff.mp hi).1
    obtain ⟨v, hv, sv⟩ := hs.get i hil
    have : u = v := Option.some.inj (hi.symm.trans hv)
    subst this
    refine ⟨rfl, yes_i ⟨_, _, _, _, rfl, sv.keep (KI.same s1) _ _ _ _, _, eD, ?_, ?_, fun b o z => by rw [upd_ne (ne_of_none z nD)]; exact s1 _ _ z⟩⟩
    · rw [List.length_map, List.length_map, List.length_take]
      exact small1000 (by omega)
    · rw [take_succ_get _ i hil, List.map_append, List.map_append]
      exact upd_same
  rintro H1 ⟨eD, s1⟩
  rw [hlen, List.take_length] at eD
  refine ⟨D, _, rfl, SqL.of eD, ?_⟩
  rw [steps_sum]
  refine ⟨_, rfl, _, e, rfl, ie.keep (same_t s1), fun qa H2 hk s2 => ⟨qa, _, rfl, .inr hk, ?_⟩⟩
  have s12 := s1.trans s2
  have eA := s12 _ _ ea
  rw [List.length_map, kinds_len]
  refine ⟨_, rfl, _, rfl, a, CS, dx, _, rfl, eA, T.cl, T.nP, by simp, ?_⟩
  refine ⟨_, rfl, _, rfl, a, CS, dx, _, rfl, upd_same, T.cl, T.nF, by simp [putF], ?_⟩
  refine ⟨_, rfl, _, rfl, a, CS, dx, _, rfl, upd_same, T.cl, T.nB, Nat.lt_of_le_of_lt (plen2 _ _ _ _) (by decide), ?_⟩
  refine ⟨_, rfl, _, rfl, a, CS, dx, _, rfl, upd_same, T.cl, T.nX, Nat.lt_of_le_of_lt (plen3 _ _ _ _ _ _) (by decide), ?_⟩
  refine ⟨_, rfl, _, rfl, _, _, rfl, rfl, _, rfl, a, CS, dx, _, rfl, upd_same, T.cl, T.nS, by ((refine Nat.lt_of_le_of_lt (m := 40) ?_ (by decide); repeat (first | exact Nat.zero_le _ | refine putF_len _ _ _ ?_))), ?_⟩
  have e1 : ((Ex.stepss e.ops : Nat) : Int) + ((e.own : Nat) : Int) = ((e.steps : Nat) : Int) := by omega
  -- the own steps
  refine ⟨_, rfl, _, rfl, by omega, by omega, fun D2 nD2 => ?_⟩
  have na : D2 ≠ a := fun z => by rw [z, upd_same] at nD2; cases nD2
  have na' : a ≠ D2 := fun z => na z.symm
  refine lc_range (lo := 0) (n := e.own) (fun i H' => H' D2 = some (.lst (nv_ ((List.range i).map fun a => n + (e.steps - e.own) + a))) ∧ H' a = some (.ins CS dx (putF "size" (.int (e.steps : Int)) (putF "is_fixed" (.bl (e.fx mk p)) (putF "below" (.ref tb) (putF "form" vf (putF "path" (.ref pq) [])))))) ∧ ∀ b o, b ≠ a → H2 b = some o → H' b = some o) ⟨upd_same, ?_, fun b o nb z => ?_⟩ ?_ ?_
  · rw [upd_ne na', upd_same, ← e1]
  · have nbd : b ≠ D2 := fun w => by
      rw [upd_ne na, upd_ne na, upd_ne na, upd_ne na, upd_ne na] at nD2
      rw [w, nD2] at z
      cases z
    rw [upd_ne nbd, upd_ne nb, upd_ne nb, upd_ne nb, upd_ne nb, upd_ne nb]
    exact z
  · rintro i H3 hi ⟨eD2, ea3, b3⟩
    refine ⟨rfl, yes_i ⟨n, Ex.stepss e.ops, i, rfl, rfl, rfl, _, eD2, small1000 (by simp [nv_]; omega), ?_, by rw [upd_ne na']; exact ea3, fun b o nb z => ?_⟩⟩
    · rw [List.range_succ, List.map_append, hso]
      simp only [nv_, List.map_append, List.map_cons, List.map_nil]
      exact upd_same
    · have nbd : b ≠ D2 := fun w => by
        rw [upd_ne na, upd_ne na, upd_ne na, upd_ne na, upd_ne na] at nD2
        rw [w, nD2] at z
        cases z
      rw [upd_ne nbd]
      exact b3 b o nb z
  rintro H3 ⟨eD2, ea3, b3⟩
  refine .inl ⟨D2, _, rfl, SqL.of eD2, fun to nto => ?_⟩
  have nat : a ≠ to := ne_of_none ea3 nto
  refine ⟨_, rfl, a, CS, dx, _, rfl, by rw [upd_ne nat]; exact ea3, T.cl, T.nO, by ((refine Nat.lt_of_le_of_lt (m := 40) ?_ (by decide); repeat (first | exact Nat.zero_le _ | refine putF_len _ _ _ ?_))), ?_⟩
  refine ⟨_, rfl, a, CS, dx, _, _, rfl, upd_same, T.cl, T.nS, by ((repeat (first | (rw [lookup_putF, if_pos rfl]) | rw [lookup_putF, if_neg (by decide +kernel)]))), e.steps, rfl, rfl, by omega, _, _, rfl, rfl, _, rfl, _, n, rfl, rfl, ?_, ?_⟩
  · refine shl_ok (n := e.steps) ?_ (by omega)
    have h2 : (0 : Int) < 2 ^ e.steps := PySem.W.kbt_pos _
    have h3 : ((2 ^ e.steps : Nat) : Int) = 2 ^ e.steps := PySem.W.kbt_cast _
    show ((2 : Int) ^ e.steps - 1).natAbs < 2 ^ e.steps
    omega
  refine ⟨_, rfl, a, CS, dx, _, rfl, upd_same, T.cl, T.nI, by ((refine Nat.lt_of_le_of_lt (m := 40) ?_ (by decide); repeat (first | exact Nat.zero_le _ | refine putF_len _ _ _ ?_))), ?_⟩
  have b4 : But a H2 (upd (upd (upd H3 to (.tup (nv_ (e.owns n)))) a (.ins CS dx (putF "own" (.ref to) (putF "size" (.int (e.steps : Int)) (putF "is_fixed" (.bl (e.fx mk p)) (putF "below" (.ref tb) (putF "form" vf (putF "path" (.ref pq) [])))))))) a (.ins CS dx (putF "inside" (.int (insI e n)) (putF "own" (.ref to) (putF "size" (.int (e.steps : Int)) (putF "is_fixed" (.bl (e.fx mk p)) (putF "below" (.ref tb) (putF "form" vf (putF "path" (.ref pq) []))))))))) := fun b o nb z => by
    have h := b3 b o nb z
    rw [upd_ne nb, upd_ne nb, upd_ne (ne_of_none h nto)]
    exact h
  have hal := fun (b : Bool) (H5 : Hp) (e5 : H5 a = some (.ins CS dx (putF "inside" (.int (insI e n)) (putF "own" (.ref to) (putF "size" (.int (e.steps : Int)) (putF "is_fixed" (.bl (e.fx mk p)) (putF "below" (.ref tb) (putF "form" vf (putF "path" (.ref pq) []))))))))) (t5 : H5 to = some (.tup (nv_ (e.owns n)))) (b5 : But a H2 H5) =>
    show Q .non (upd H5 a (.ins CS dx (putF "is_idle" (.bl b) (putF "inside" (.int (insI e n)) (putF "own" (.ref to) (putF "size" (.int (e.steps : Int)) (putF "is_fixed" (.bl (e.fx mk p)) (putF "below" (.ref tb) (putF "form" vf (putF "path" (.ref pq) [])))))))))) by
      have b6 : But a H2 (upd H5 a (.ins CS dx (putF "is_idle" (.bl b) (putF "inside" (.int (insI e n)) (putF "own" (.ref to) (putF "size" (.int (e.steps : Int)) (putF "is_fixed" (.bl (e.fx mk p)) (putF "below" (.ref tb) (putF "form" vf (putF "path" (.ref pq) [])))))))))) := fun b o nb z => by
        rw [upd_ne nb]
        exact b5 b o nb z
      have ki := KI.but (CS := CS) eA b6
      have k12 := (KI.same (CS := CS) s12).trans ki
      refine q _ (SpanAt.of (ws := ws) ⟨a, dx, _, .ref pq, vf, tb, to, rfl, upd_same, ⟨?_, ?_, ?_, ?_, ?_, ?_, ?_, b, ?_⟩, ⟨pq, rfl, k12.1 _ _ epq⟩, ie.keep k12.1, k12.1 _ _ eb, ?_⟩ (hs.keep k12 _ _ _ _ _)) (fun b o nb z => b6 b o nb (s12 _ _ z))
      · ((repeat (first | (rw [lookup_putF, if_pos rfl]) | rw [lookup_putF, if_neg (by decide +kernel)])))
      · ((repeat (first | (rw [lookup_putF, if_pos rfl]) | rw [lookup_putF, if_neg (by decide +kernel)])))
      · ((repeat (first | (rw [lookup_putF, if_pos rfl]) | rw [lookup_putF, if_neg (by decide +kernel)])))
      · ((repeat (first | (rw [lookup_putF, if_pos rfl]) | rw [lookup_putF, if_neg (by decide +kernel)])))
      · ((repeat (first | (rw [lookup_putF, if_pos rfl]) | rw [lookup_putF, if_neg (by decide +kernel)])))
      · ((repeat (first | (rw [lookup_putF, if_pos rfl]) | rw [lookup_putF, if_neg (by decide +kernel)])))
      · ((repeat (first | (rw [lookup_putF, if_pos rfl]) | rw [lookup_putF, if_neg (by decide +kernel)])))
      · rw [lookup_putF, if_pos rfl]
      · rw [upd_ne nat.symm]
        exact t5
  have ea7 : (upd (upd (upd H3 to (.tup (nv_ (e.owns n)))) a (.ins CS dx (putF "own" (.ref to) (putF "size" (.int (e.steps : Int)) (putF "is_fixed" (.bl (e.fx mk p)) (putF "below" (.ref tb) (putF "form" vf (putF "path" (.ref pq) [])))))))) a (.ins CS dx (putF "inside" (.int (insI e n)) (putF "own" (.ref to) (putF "size" (.int (e.steps : Int)) (putF "is_fixed" (.bl (e.fx mk p)) (putF "below" (.ref tb) (putF "form" vf (putF "path" (.ref pq) []))))))))) a = some (.ins CS dx (putF "inside" (.int (insI e n)) (putF "own" (.ref to) (putF "size" (.int (e.steps : Int)) (putF "is_fixed" (.bl (e.fx mk p)) (putF "below" (.ref tb) (putF "form" vf (putF "path" (.ref pq) [])))))))) := upd_same
  have et7 : (upd (upd (upd H3 to (.tup (nv_ (e.owns n)))) a (.ins CS dx (putF "own" (.ref to) (putF "size" (.int (e.steps : Int)) (putF "is_fixed" (.bl (e.fx mk p)) (putF "below" (.ref tb) (putF "form" vf (putF "path" (.ref pq) [])))))))) a (.ins CS dx (putF "inside" (.int (insI e n)) (putF "own" (.ref to) (putF "size" (.int (e.steps : Int)) (putF "is_fixed" (.bl (e.fx mk p)) (putF "below" (.ref tb) (putF "form" vf (putF "path" (.ref pq) []))))))))) to = some (.tup (nv_ (e.owns n))) := by
    rw [upd_ne nat.symm, upd_ne nat.symm]
    exact upd_same
  have hbw : ∀ H5, Same (upd (upd (upd H3 to (.tup (nv_ (e.owns n)))) a (.ins CS dx (putF "own" (.ref to) (putF "size" (.int (e.steps : Int)) (putF "is_fixed" (.bl (e.fx mk p)) (putF "below" (.ref tb) (putF "form" vf (putF "path" (.ref pq) [])))))))) a (.ins CS dx (putF "inside" (.int (insI e n)) (putF "own" (.ref to) (putF "size" (.int (e.steps : Int)) (putF "is_fixed" (.bl (e.fx mk p)) (putF "below" (.ref tb) (putF "form" vf (putF "path" (.ref pq) []))))))))) H5 → But a H2 H5 := fun H5 s5 b o nb z => s5 _ _ (b4 b o nb z)
  have ki7 := KI.but (CS := CS) eA b4
  have k17 := (KI.same (CS := CS) s12).trans ki7
  have tb7 := k17.1 _ _ eb
  have hs7 := hs.keep k17 _ _ _ _ _
  have ie7 := ie.keep k17.1
  refine ⟨_, rfl, a, CS, dx, _, _, rfl, ea7, T.cl, T.nS, by ((repeat (first | (rw [lookup_putF, if_pos rfl]) | rw [lookup_putF, if_neg (by decide +kernel)]))), rfl, _, rfl, ?_⟩
  by_cases h0 : e.steps = 0
  case neg =>
    refine iteNo (fun z => h0 (by injection z with z; omega)) ⟨_, rfl, a, CS, dx, _, rfl, ea7, T.cl, T.nD, by ((refine Nat.lt_of_le_of_lt (m := 40) ?_ (by decide); repeat (first | exact Nat.zero_le _ | refine putF_len _ _ _ ?_))), ?_⟩
    exact hal false _ ea7 et7 b4
  refine iteYes (by rw [h0]; rfl) ⟨_, rfl, _, e, rfl, ie7, _, rfl, _, rfl, ?_⟩
  cases hg : e.gd with
  | true =>
    refine iteF ⟨_, rfl, a, CS, dx, _, rfl, ea7, T.cl, T.nD, by ((refine Nat.lt_of_le_of_lt (m := 40) ?_ (by decide); repeat (first | exact Nat.zero_le _ | refine putF_len _ _ _ ?_))), ?_⟩
    exact hal false _ ea7 et7 b4
  | false =>
    refine iteT ⟨_, rfl, tb, rfl, ⟨_, SqT.of tb7⟩, fun D3 nD3 => ?_⟩
    refine lc_tup (K := K) (a := tb) (xs := ws) (fun i H' => (∃ bs : List Bool, H' D3 = some (.lst (bs.map V.bl)) ∧ bs.length = i) ∧ Same (upd (upd (upd H3 to (.tup (nv_ (e.owns n)))) a (.ins CS dx (putF "own" (.ref to) (putF "size" (.int (e.steps : Int)) (putF "is_fixed" (.bl (e.fx mk p)) (putF "below" (.ref tb) (putF "form" vf (putF "path" (.ref pq) [])))))))) a (.ins CS dx (putF "inside" (.int (insI e n)) (putF "own" (.ref to) (putF "size" (.int (e.steps : Int)) (putF "is_fixed" (.bl (e.fx mk p)) (putF "below" (.ref tb) (putF "form" vf (putF "path" (.ref pq) []))))))))) H') ⟨⟨[], upd_same, rfl⟩, same_up nD3⟩ (fun i H' _ h => SqT.of (h.2 _ _ tb7)) ?_ ?_
    · rintro i u H5 hi ⟨⟨bs, eB, hbl⟩, s5⟩
      have hil : i < e.ops.length := by rw [← hlen]; exact (List.getElem?_eq_some_iff.mp hi).1
      obtain ⟨v, hv, sv⟩ := hs7.get i hil
      have : u = v := Option.some.inj (hi.symm.trans hv)
      subst this
      refine ⟨rfl, yes_i ⟨_, _, _, _, rfl, sv.keep (KI.same s5) _ _ _ _, fun b => ⟨_, eB, small1000 (by rw [List.length_map]; omega), ⟨bs ++ [b], by rw [List.map_append]; exact upd_same, by simp [hbl]⟩, fun q o z => by rw [upd_ne (ne_of_none z nD3)]; exact s5 _ _ z⟩⟩⟩
    rintro H5 ⟨⟨bs, eB, hbl⟩, s5⟩
    refine ⟨D3, _, rfl, SqL.of eB, ?_⟩
    refine ⟨_, rfl, a, CS, dx, _, rfl, s5 _ _ ea7, T.cl, T.nD, by ((refine Nat.lt_of_le_of_lt (m := 40) ?_ (by decide); repeat (first | exact Nat.zero_le _ | refine putF_len _ _ _ ?_))), ?_⟩
    exact hal _ _ (s5 _ _ ea7) (s5 _ _ et7) (hbw _ s5)
theorem scJoined : FnScope ["spans", "together", "span"] ["spans"] (defScope sJoined) := ⟨rfl, rfl, rfl, by decide +kernel, rfl, by decide +kernel, by decide +kernel⟩
theorem ok_joined {CS f : Addr} {fd : FuncData} {mk : List (List Nat)} (F : Fun K "joined" "joined" sJoined f fd) (T : TxS K CS) : FnOk P w K mg base CX0 1 f fd ["spans"] (spJoined CS mk) := by
  refine F.ok scJoined (fun vs H Q E h => ?_) (fun cdv A outer s H vs Q E hr h => ?_)
  · obtain ⟨t, ws, os, p, n, rfl, _⟩ := h
    rfl
  obtain ⟨t, ws, os, p, n, rfl, et, hs, q⟩ := h
  have hlen := hs.length
  refine ⟨_, (pss_cons (ps_set (i := 1) scJoined.nd rfl (.inl rfl) pe_int)
    (pss_cons (ps_for PassesOwn.never rfl (pi_tup (pv 0)) (pg_name (i := 2) scJoined.nd rfl (Or.inl rfl)) (pss_one (ps_set (i := 1) scJoined.nd rfl (.inl rfl) (pe_op op_or (pv 1) (pe_fld (pv 2) rfl)))))
    (pss_one (ps_ret (pv 1))))), ?_⟩
  refine ⟨_, rfl, t, rfl, ⟨_, SqT.of et⟩, ?_⟩
  refine for_tup (K := K) (a := t) (xs := ws) (fun i σ H' => ∃ (x : Int) (y : Option V), σ = [some (.ref t), some (.int x), y] ∧ Bits x (inR n (Ex.stepss (os.take i))) ∧ H' = H) ⟨0, none, rfl, Bits.zero.congr fun i => (inR_not (by simp [Ex.stepss])).symm, rfl⟩ (fun i σ H' _ ⟨_, _, _, _, e⟩ => by rw [e]; exact SqT.of et) ?_ ?_
  · rintro i u σ H1 hi ⟨x, y, rfl, hb, rfl⟩
    have hil : i < os.length := by rw [← hlen]; exact (List.getElem?_eq_some_iff.mp hi).1
    obtain ⟨v, hv, sv⟩ := hs.get i hil
    have : u = v := Option.some.inj (hi.symm.trans hv)
    subst this
    obtain ⟨ws', ⟨a, dx, fs, vp, vf, tb, to, rfl, h1, hf, _⟩, _⟩ := sv.obj
    refine ⟨_, rfl, _, rfl, a, CS, dx, fs, _, rfl, h1, T.cl, T.nI, hf.i, _, _, rfl, rfl, ?_⟩
    refine ⟨_, _, rfl, (hb.or (ins_bits os[i] (n + Ex.stepss (os.take i)))).congr fun j => ?_, rfl⟩
    rw [stepss_take_succ os i hil, Bool.eq_iff_iff, bor, inR_iff, inR_iff, inR_iff]
    omega
  · rintro σ H1 ⟨x, y, rfl, hb, rfl⟩
    rw [hlen, List.take_length] at hb
    exact ⟨_, rfl, q x hb⟩
theorem SpansAt.take {CS : Addr} {mk : List (List Nat)} {H : Hp} : ∀ {os : List Ex} {p : List Nat} {a n : Nat} {ws : List V}, SpansAt CS mk H os p a n ws → ∀ i, SpansAt CS mk H (os.take i) p a n (ws.take i)
  | [], p, a, n, ws, h, i => by
    unfold SpansAt at h
    subst h
    rw [List.take_nil, List.take_nil]
    unfold SpansAt
    rfl
  | e :: r, p, a, n, ws, h, 0 => by
    rw [List.take_zero, List.take_zero]
    unfold SpansAt
    rfl
  | e :: r, p, a, n, ws, h, i + 1 => by
    unfold SpansAt at h
    obtain ⟨v, ws', rfl, h1, h2⟩ := h
    rw [List.take_succ_cons, List.take_succ_cons]
    unfold SpansAt
    exact ⟨v, _, rfl, h1, h2.take i⟩
theorem sIx_nn (n d m : Nat) : HT.sIx n d (some (m : Int)) = min m n := by
  have h1 : ¬ ((m : Int) < 0) := by omega
  simp [HT.sIx, h1]
theorem cut_to (xs : List V) {i : Nat} (h : i ≤ xs.length) : cutV xs none (some (i : Int)) = xs.take i := by
  have h1 : ¬ ((i : Int) < 0) := by omega
  unfold cutV
  simp [HT.sIx, h1, Nat.min_eq_left h]
theorem scBelow : FnScope ["span", "at"] ["span", "at"] (defScope sBelow) := ⟨rfl, rfl, rfl, by decide +kernel, rfl, by decide +kernel, by decide +kernel⟩
theorem ok_below {CS f fg : Addr} {fd fdg : FuncData} {mk : List (List Nat)} (F : Fun K "below_ahead" "below_ahead" sBelow f fd) (T : TxS K CS) (mn : mg "min" = none)
    (GG : FnOk P w K mg base CX0 2 fg fdg ["node"] spIsGuard) (kG : PySem.W.keepIn K (.ref fg) = true) (bG : Binds K fdg ["node"] []) (mG : mg "is_guard" = some (.ref fg)) : FnOk P w K mg base CX0 3 f fd ["span", "at"] (spBelow CS mk) := by
  refine F.ok scBelow (fun vs H Q E h => ?_) (fun cdv A outer s H vs Q E hr h => ?_)
  · obtain ⟨v, e, p, n, a, rfl, _⟩ := h
    rfl
  obtain ⟨v, e, p, n, a, rfl, hs, ha, q⟩ := h
  refine ⟨_, (pss_cons (ps_if (pt_not (pt_val (pe_fld (pv 0) rfl))) (pss_one (ps_ret (pe_tup pa_nil))) pss_nil)
    (pss_cons (ps_if (pt_val (pe_call GG hr rfl mG kG bG .nil pass0 (pa_cons (pe_fld (pv 0) rfl) pa_nil))) (pss_one (ps_ret (pe_slice sl_tup (pe_fld (pv 0) rfl) po_none (po_some (pe_callB (call_min2 rfl) (by rfl) mn PyProof.Rows.boot_min (pa_cons (pv 1) (pa_cons pe_int pa_nil))))))) pss_nil)
    (pss_one (ps_ret (pe_slice sl_tup (pe_fld (pv 0) rfl) po_none (po_some (pv 1))))))), ?_⟩
  obtain ⟨ws, ⟨a0, dx, fs, vp, vf, tb, to, rfl, h1, hf, h2, h3, h4, h5⟩, hbs⟩ := hs.obj
  have hlen := hbs.length
  have hb : ∀ H', Same H H' → SpansAt CS mk H' e.ops p 0 n ws := fun H' s' => hbs.keep (KI.same s') _ _ _ _ _
  refine ⟨_, rfl, a0, CS, dx, fs, _, rfl, h1, T.cl, T.nX, hf.x, _, rfl, ?_⟩
  cases hx : e.fx mk p with
  | false =>
    rw [hx] at q
    refine iteT ⟨sz (by decide), fun t nt => ?_⟩
    refine q t [] _ upd_same ?_ (same_up nt)
    rw [if_neg (by decide), List.take_zero]
    unfold SpansAt
    rfl
  | true =>
    rw [hx] at q
    refine iteF ?_
    refine ⟨_, rfl, a0, CS, dx, fs, _, rfl, h1, T.cl, T.nF, hf.f, vf, e, rfl, h3, _, rfl, ?_⟩
    cases hg : e.gd with
    | true =>
      rw [hg] at q
      refine iteT ⟨_, rfl, a0, CS, dx, fs, _, rfl, h1, T.cl, T.nB, hf.b, _, rfl, _, _, rfl, ?_⟩
      have e1 : (if (1 : Int) < (a : Int) then (1 : Int) else (a : Int)) = ((min a 1 : Nat) : Int) := by
        by_cases z : 1 < a
        · rw [if_pos (by omega)]; omega
        · rw [if_neg (by omega)]; omega
      refine ⟨((min a 1 : Nat) : Int), by rw [e1], tb, ws, rfl, SqT.of h4, fun z => ?_, fun t nt => ?_⟩
      · have := z.2
        rw [sIx_nn] at this
        omega
      rw [cut_to ws (i := min a 1) (by omega)]
      exact q t _ _ upd_same (((hb _ (same_up nt)).take (aheadN true a))) (same_up nt)
    | false =>
      rw [hg] at q
      refine iteF ⟨_, rfl, a0, CS, dx, fs, _, rfl, h1, T.cl, T.nB, hf.b, _, rfl, _, rfl, ?_⟩
      refine ⟨tb, ws, rfl, SqT.of h4, fun z => ?_, fun t nt => ?_⟩
      · have := z.2
        rw [sIx_nn] at this
        omega
      rw [cut_to ws (i := a) (by omega)]
      exact q t _ _ upd_same (((hb _ (same_up nt)).take (aheadN false a))) (same_up nt)
end
end Oo
namespace Oo
open PySem L2 PyProof.Rows LamX StX ClX
abbrev sSpanOf : Stmt := top 48
theorem Kd.kinds0 {k : Kd} (h : k.steps = 0) : k.kinds = [] := by
  cases k <;> first | rfl | (simp [Kd.steps] at h)
def spSpanOf (K : PySem.W.Frag) (CS : Addr) (N : Nat) : Sp := fun vs H Q _ => ∃ (ve vp : V) (n : Nat) (tm : Addr) (rows : List V) (mk : List (List Nat)) (e : Ex) (p : List Nat), vs = [ve, vp, .int (n : Int), .ref tm] ∧ InE H e ve ∧ Shp e ∧ PathAt H vp p ∧ SqT K H tm rows ∧ Paired (PathAt H) rows mk ∧
  e.depth ≤ N ∧ p.length + e.depth ≤ 90 ∧ n + e.steps ≤ 1900 ∧ e.nodes ≤ 900 ∧ ∀ v H', SpanAt CS mk H' e p n v → Same H H' → Q v H'
theorem steps_get : ∀ (os : List Ex) (i : Nat) (h : i < os.length), os[i].steps ≤ Ex.stepss os := fun os i h => by
  have := stepss_child os i h
  omega
theorem opsteps_le (e : Ex) : Ex.stepss e.ops ≤ e.steps := by
  have h1 := steps_own e
  omega
section
variable {P : Program} {w : World} {K : PySem.W.Frag} {mg : Str → Option Value} {base : Heap} {X : Cx}
theorem ok_kinds {f fi dO : Addr} {fd fdi : FuncData} (F : Fun K "own_steps" "own_steps" sOwn f fd) (TO : TxO2 K w dO) (mOWN_STEPS : mg "OWN_STEPS" = some (.ref dO))
    (GI : FnOk P w K mg base CX0 1 fi fdi ["value"] spIsInt) (kI : PySem.W.keepIn K (.ref fi) = true) (bI : Binds K fdi ["value"] []) (mI : mg "is_integer" = some (.ref fi)) : FnOk P w K mg base CX0 2 f fd ["node"] (spKinds K) := by
  refine F.ok scOwn (fun vs H Q E h => ?_) (fun cdv A outer s H vs Q E hr h => ?_)
  · obtain ⟨v, e, rfl, _⟩ := h
    rfl
  obtain ⟨v, e, rfl, ie, q⟩ := h
  refine ⟨_, (pss_cons (ps_if (pt_val (pe_call GI hr rfl mI kI bI .nil pass0 (pa_cons (pv 0) pa_nil))) (pss_one (ps_ret (pe_tup pa_nil))) pss_nil)
    (pss_one (ps_ret (pe_kget2 (pe_globD rfl mOWN_STEPS) (pe_ix ix_tup (pv 0) pe_int (fun _ _ => rfl)) (pe_tup pa_nil) ⟨rfl, rfl, rfl, rfl⟩)))), ?_⟩
  cases e with
  | num n =>
    unfold InE at ie
    subst ie
    exact ⟨_, rfl, .inl ⟨n, rfl, true, rfl, iteT ⟨sz (by decide), fun p hp => q p _ (SqT.of upd_same) (same_up hp)⟩⟩⟩
  | nd k os =>
    unfold InE at ie
    obtain ⟨p, ws, rfl, ios, na⟩ := ie
    obtain ⟨tl, ht⟩ := na.tup
    refine ⟨_, rfl, .inr ⟨p, _, rfl, ht, false, rfl, iteF ?_⟩⟩
    by_cases hk : k.steps = 0
    · have km := TO.no k hk
      obtain ⟨es, n', hl', hk', low, hm⟩ := id km
      have e0 : (Ex.nd k os).kinds = [] := Kd.kinds0 hk
      rw [e0] at q
      refine ⟨dO, rfl, ⟨es, n', hl', hk'⟩, TO.low, _, rfl, p, _, _, _, rfl, rfl, SqT.of ht, at0 _ _, sz (by decide), fun t nt => ⟨k.word, rfl, .inr ⟨km, ?_⟩⟩⟩
      exact q t _ (SqT.of upd_same) (same_up nt)
    · obtain ⟨a, kd, hs⟩ := TO.yes k hk
      obtain ⟨es, n', u0, hl', hk', e', ru⟩ := id kd
      refine ⟨dO, rfl, ⟨es, n', hl', hk'⟩, TO.low, _, rfl, p, _, _, _, rfl, rfl, SqT.of ht, at0 _ _, sz (by decide), fun t nt => ⟨k.word, rfl, .inl ⟨_, kd, ?_⟩⟩⟩
      exact q a _ (hs _) (same_up nt)
theorem scSpanOf : FnScope ["node", "path", "first", "points", "below", "free", "at", "operand", "span"] ["node", "path", "first", "points"] (defScope sSpanOf) := ⟨rfl, rfl, rfl, by decide +kernel, rfl, by decide +kernel, by decide +kernel⟩
theorem ok_spanof {N L : Nat} {CS f fp fn fo fI : Addr} {fd fdp fdn fdo fdI : FuncData} (F : Fun K "span_of" "span_of" sSpanOf f fd) (hL : 4 ≤ L) (T : TxS K CS) (men : mg "enumerate" = none) (mt : mg "tuple" = none)
    (GP : FnOk P w K mg base CX0 2 fp fdp ["node"] spOperands) (kP : PySem.W.keepIn K (.ref fp) = true) (bP : Binds K fdp ["node"] []) (mP : mg "operands" = some (.ref fp))
    (GN : FnOk P w K mg base CX0 L fn fdn ["node", "path", "first", "points"] (spSpanOf K CS N)) (kN : PySem.W.keepIn K (.ref fn) = true) (bN : Binds K fdn ["node", "path", "first", "points"] []) (mN : mg "span_of" = some (.ref fn))
    (GO : FnOk P w K mg base CX0 3 fo fdo ["node"] spIsInOrder) (kO : PySem.W.keepIn K (.ref fo) = true) (bO : Binds K fdo ["node"] []) (mO : mg "is_in_order" = some (.ref fo))
    (MS : Mk K CS fI) (mS : mg "Span" = some (.ref CS)) (GS0 : ∀ mk, FnOk P w K mg base CX0 3 fI fdI ["self", "path", "form", "below", "first", "is_fixed"] (spSInit CS mk)) (bS : Binds K fdI ["self", "path", "form", "below", "first", "is_fixed"] []) :
    FnOk P w K mg base CX0 (L + 1) f fd ["node", "path", "first", "points"] (spSpanOf K CS (N + 1)) := by
  refine F.ok scSpanOf (fun vs H Q E h => ?_) (fun cdv A outer s H vs Q E hr h => ?_)
  · obtain ⟨ve, vp, n, tm, rows, mk, e, p, rfl, _⟩ := h
    rfl
  obtain ⟨ve, vp, n, tm, rows, mk, e, p, rfl, ie, sh, hp, em, pm, hd, hpl, hst, hnn, q⟩ := h
  have GS := GS0 mk
  have hr2 : Room 2 _ := hr.mono (Nat.le_trans (by decide) hL)
  have hr3 : Room 3 _ := hr.mono (Nat.le_trans (by decide) hL)
  have hr4 : Room 4 _ := hr.mono hL
  refine ⟨_, (pss_cons (ps_set (i := 4) scSpanOf.nd rfl (.inl rfl) (pe_lst pa_nil))
    (pss_cons (ps_set (i := 5) scSpanOf.nd rfl (.inl rfl) (pv 2))
    (pss_cons (ps_for PassesOwn.never rfl (pi_enumT (by rfl) men (pa_cons (pe_call GP hr2 rfl mP kP bP .nil pass0 (pa_cons (pv 0) pa_nil)) pa_nil)) (pg_tup rfl (pgs_cons (pg_name (i := 6) scSpanOf.nd rfl (Or.inl rfl)) (pgs_cons (pg_name (i := 7) scSpanOf.nd rfl (Or.inl rfl)) pgs_nil))) (pss_cons (ps_set (i := 8) scSpanOf.nd rfl (.inl rfl) (pe_call GN hr rfl mN kN bN .nil pass0 (pa_cons (pv 7) (pa_cons (pe_tup (pa_star (pv 1) (pa_cons (pv 6) pa_nil))) (pa_cons (pv 5) (pa_cons (pv 3) pa_nil))))))
    (pss_cons (ps_expr (pe_bm PySem.F.plainAttrs_list PySem.F.slot_list_append PySem.F.type_list_append mt_append (pv 4) (pa_cons (pv 8) pa_nil)))
    (pss_one (ps_aug (i := 5) scSpanOf.nd rfl (.inl rfl) (pe_fld (pv 8) rfl) iop_add)))))
    (pss_one (ps_ret (pe_make MS GS hr4 rfl mS bS .nil pass0 (pa_cons (pv 1) (pa_cons (pv 0) (pa_cons (pe_tupleOf (by rfl) mt (pv 4)) (pa_cons (pv 2) (pa_cons (pe_or (pe_call GO hr3 rfl mO kO bO .nil pass0 (pa_cons (pv 0) pa_nil)) (pe_one (pe_cmpR (op_inP hr.units) (pv 1) (pv 3) (by rfl)))) pa_nil))))))))))), ?_⟩
  obtain ⟨pa, rfl, epa⟩ := id hp
  refine ⟨sz (by decide), fun lb nlb => ?_⟩
  have s0 := same_up (o := .lst []) nlb
  refine ⟨_, rfl, _, rfl, ve, e, rfl, ie.keep (same_t s0), sh.rs, fun po ws H1 eo io s1 => ⟨po, ws, rfl, SqT.of eo, ?_⟩⟩
  have hws : ws.length = e.ops.length := io.length
  have hos := opsteps_le e
  have hno := nodes_ops e
  have hng := nodess_ge e.ops
  refine for_it walk_enumU (fun i σ H' => ∃ (acc : List V) (x y z : Option V), σ = [some ve, some (.ref pa), some (.int (n : Int)), some (.ref tm), some (.ref lb), some (.int ((n + Ex.stepss (e.ops.take i) : Nat) : Int)), x, y, z] ∧ H' lb = some (.lst acc) ∧ SpansAt CS mk H' (e.ops.take i) p 0 n acc ∧ H' po = some (.tup ws) ∧ InEs H' e.ops ws ∧ Same H H')
    ⟨[], none, none, none, by simp [Ex.stepss, L2.start], s1 _ _ upd_same, by rw [List.take_zero]; unfold SpansAt; rfl, eo, io, s0.trans s1⟩ (fun i σ H' _ ⟨_, _, _, _, _, _, _, z, _⟩ => SqT.of z) ?_ ?_
  · rintro i x σ H2 H3 hi ⟨acc, x0, y0, z0, rfl, el, hs, eo2, io2, s2⟩ ⟨T0, x', y', rfl, nT, rfl, hx, hy⟩
    have hx' : x' = .int (i : Int) := (Option.some.inj hx).symm
    subst hx'
    have hio : i < e.ops.length := by omega
    obtain ⟨v, hv, iv⟩ := io2.get i hio
    have : y' = v := Option.some.inj (hy.symm.trans hv)
    subst this
    have sT := same_up (o := .tup [V.int (i : Int), y']) nT
    refine ⟨T0, _, rfl, SqT.of upd_same, rfl, _, _, rfl, _, _, rfl, rfl, ?_⟩
    have s3 := s2.trans sT
    refine ⟨_, rfl, _, rfl, pa, _, rfl, .inl (SqT.of (s3 _ _ epa)), _, rfl, sz (by simp [pv_]; omega), fun t1 n1 => ?_⟩
    have s4 := s3.trans (same_up (o := .tup (pv_ p ++ [V.int (i : Int)])) n1)
    have sA := sT.trans (same_up (o := .tup (pv_ p ++ [V.int (i : Int)])) n1)
    have hdi := depth_ops hio
    have hnn' := nodes_get e.ops i hio
    have hch := stepss_child e.ops i hio
    refine ⟨_, rfl, _, rfl, y', .ref t1, n + Ex.stepss (e.ops.take i), tm, rows, mk, e.ops[i], p ++ [i], rfl, iv.keep (same_t sA), sh.ops.get i hio, ⟨t1, rfl, by rw [upd_same]; simp [pv_]⟩, same_seqT s4 em, L2.Paired.mapP pm fun a b z => z.keep (same_t s4), by omega, by rw [List.length_append, List.length_singleton]; omega, by omega, by omega, fun v H4 hv4 s5 => ?_⟩
    have s25 := sA.trans s5
    have el4 := s25 _ _ el
    have hal := hs.length
    rw [List.length_take] at hal
    refine ⟨_, rfl, .inl ⟨rfl, _, SqL.of el4⟩, _, rfl, lb, acc, _, rfl, rfl, el4, small1000 (by omega), ?_⟩
    have k5 := KI.lst (CS := CS) (o := .lst (acc ++ [v])) el4
    have hv5 := hv4.keep k5 _ _ _ _
    obtain ⟨ws5, ⟨a0, dx, fs, vp5, vf5, tb5, to5, rfl, h51, hf5, _⟩, _⟩ := hv5.obj
    refine ⟨_, rfl, _, rfl, a0, CS, dx, fs, _, rfl, h51, T.cl, T.nS, hf5.s, _, _, rfl, rfl, ?_⟩
    refine ⟨acc ++ [.ref a0], some (.int (i : Int)), some y', some (.ref a0), ?_, upd_same, ?_, k5.1 _ _ (s25 _ _ eo2), (io2.keep (same_t s25)).keep k5.1, fun b o z => ?_⟩
    · rw [stepss_take_succ e.ops i hio]
      have e9 : ((n + Ex.stepss (e.ops.take i) : Nat) : Int) + ((e.ops[i].steps : Nat) : Int) = ((n + (Ex.stepss (e.ops.take i) + e.ops[i].steps) : Nat) : Int) := by omega
      rw [← e9]
      rfl
    · rw [take_succ_get e.ops i hio]
      refine (hs.keep ((KI.same s25).trans k5) _ _ _ _ _).snoc ?_
      have : 0 + (e.ops.take i).length = i := by rw [List.length_take]; omega
      rw [this]
      exact hv5
    · have := s4.trans s5
      rw [upd_ne (ne_of_none z nlb)]
      exact this _ _ z
  · rintro σ H2 ⟨acc, x0, y0, z0, rfl, el, hs, eo2, io2, s2⟩
    rw [hws, List.take_length] at hs
    have ie2 := ie.keep (same_t s2)
    refine ⟨_, rfl, _, rfl, _, rfl, .inl ⟨lb, acc, rfl, SqL.of el, fun tb ntb => ?_⟩⟩
    have s3 := s2.trans (same_up (o := .tup acc) ntb)
    have sb := same_up (o := .tup acc) ntb
    have fin : ∀ H3, Same (upd H2 tb (.tup acc)) H3 → ∀ x dx, H3 x = none → H3 dx = none → dx ≠ x → spSInit CS mk ([V.ref x] ++ [.ref pa, ve, .ref tb, .int (n : Int), .bl (e.fx mk p)]) (upd (upd H3 dx (.own x)) x (.ins CS dx [])) (fun v H' => v = .non ∧ Q (.ref x) H') E := fun H3 s4 x dx hx hdx hne => by
      have s5 := made_same (C := CS) hx hdx
      have s45 := s4.trans s5
      have s25 := sb.trans s45
      exact ⟨x, dx, .ref pa, ve, tb, e, p, n, acc, rfl, upd_same, hp.keep (same_t (s2.trans s25)), ie2.keep (same_t s25), s45 _ _ upd_same, hs.keep (KI.same s25) _ _ _ _ _, hnn, by omega, fun H' hA hB => ⟨rfl, q _ _ hA ((s2.trans sb).trans (s4.trans (but_same s5 hx hB)))⟩⟩
    refine ⟨_, rfl, _, rfl, _, _, rfl, ie2.keep (same_t sb), ?_⟩
    cases hfx : e.fx [] [] with
    | true =>
      refine ⟨true, rfl, iteT ?_⟩
      have e1 : e.fx mk p = true := by
        cases e with
        | num c => simp [Ex.fx] at hfx
        | nd k os =>
          simp only [Ex.fx, List.not_mem_nil, decide_false, Bool.or_false] at hfx ⊢
          rw [hfx]; rfl
      rw [e1] at fin
      exact fun x dx hx hdx hne => fin _ (Same.refl _) x dx hx hdx hne
    | false =>
      refine ⟨false, rfl, iteF ⟨_, rfl, _, rfl, p, tm, rows, mk, (hp.keep (same_t s3)), rfl, same_seqT s3 em, L2.Paired.mapP pm fun a b z => z.keep (same_t s3), ?_⟩⟩
      have e1 : e.fx mk p = decide (p ∈ mk) := by
        cases e with
        | num c => rfl
        | nd k os =>
          simp only [Ex.fx, List.not_mem_nil, decide_false, Bool.or_false] at hfx ⊢
          rw [hfx, Bool.false_or]
      rw [e1] at fin
      exact fun x dx hx hdx hne => fin _ (Same.refl _) x dx hx hdx hne
end
end Oo
namespace Oo
open PySem L2 PyProof.Rows LamX StX ClX
abbrev sWithin : Stmt := top 50
/-- a node with its path and the number of its first step -/
abbrev Trip : Type := List Nat × Ex × Nat
mutual
def Ex.spn : Ex → List Nat → Nat → List Trip
  | .num c, p, n => [(p, .num c, n)]
  | .nd k os, p, n => (p, .nd k os, n) :: Ex.spns os p 0 n
def Ex.spns : List Ex → List Nat → Nat → Nat → List Trip
  | [], _, _, _ => []
  | e :: r, p, a, n => Ex.spn e (p ++ [a]) n ++ Ex.spns r p (a + 1) (n + e.steps)
end
def skids : List Ex → List Nat → Nat → Nat → List Trip
  | [], _, _, _ => []
  | e :: r, p, a, n => (p ++ [a], e, n) :: skids r p (a + 1) (n + e.steps)
theorem skids_len : ∀ (os : List Ex) (p : List Nat) (a n : Nat), (skids os p a n).length = os.length
  | [], _, _, _ => rfl
  | e :: r, p, a, n => by simp [skids, skids_len r]
def Trip.spn (x : Trip) : List Trip := x.2.1.spn x.1 x.2.2
theorem skids_spn : ∀ (os : List Ex) (p : List Nat) (a n : Nat), (skids os p a n).flatMap Trip.spn = Ex.spns os p a n
  | [], _, _, _ => rfl
  | e :: r, p, a, n => by
    rw [skids, List.flatMap_cons, skids_spn r]
    rfl
theorem spn_eq (e : Ex) (p : List Nat) (n : Nat) : e.spn p n = (p, e, n) :: (skids e.ops p 0 n).flatMap Trip.spn := by
  rw [skids_spn]
  cases e with
  | num c => rfl
  | nd k os => rfl
mutual
theorem spn_len : ∀ (e : Ex) (p : List Nat) (n : Nat), (e.spn p n).length = e.nodes
  | .num _, p, n => rfl
  | .nd _ os, p, n => by
    simp only [Ex.spn, List.length_cons, Ex.nodes, spns_len os p 0 n]
    omega
theorem spns_len : ∀ (os : List Ex) (p : List Nat) (a n : Nat), (Ex.spns os p a n).length = Ex.nodess os
  | [], p, a, n => rfl
  | e :: r, p, a, n => by simp only [Ex.spns, List.length_append, Ex.nodess, spn_len e, spns_len r]
end
def tsum (st : List Trip) : Nat := (st.map fun x => x.2.1.nodes).sum
theorem tsum_append (a b : List Trip) : tsum (a ++ b) = tsum a + tsum b := by simp [tsum]
theorem tsum_rev (a : List Trip) : tsum a.reverse = tsum a := by simp [tsum, List.sum_reverse]
theorem tsum_kids : ∀ (os : List Ex) (p : List Nat) (a n : Nat), tsum (skids os p a n) = Ex.nodess os
  | [], _, _, _ => rfl
  | e :: r, p, a, n => by
    have := tsum_kids r p (a + 1) (n + e.steps)
    simp only [tsum] at this
    simp [skids, tsum, Ex.nodess, this]
theorem tsum_len : ∀ (a : List Trip), a.length ≤ tsum a
  | [] => by simp [tsum]
  | x :: r => by
    have := tsum_len r
    have := nodes_pos x.2.1
    simp only [tsum, List.map_cons, List.sum_cons, List.length_cons] at *
    omega
theorem tsum_spn : ∀ (st : List Trip), (st.flatMap Trip.spn).length = tsum st
  | [] => rfl
  | x :: r => by
    rw [List.flatMap_cons, List.length_append, tsum_spn r]
    show (x.2.1.spn x.1 x.2.2).length + _ = _
    rw [spn_len]
    simp [tsum]
def SpanR (CS : Addr) (mk : List (List Nat)) (H : Hp) (v : V) (x : Trip) : Prop := SpanAt CS mk H x.2.1 x.1 x.2.2 v
theorem SpanR.keep {CS : Addr} {mk : List (List Nat)} {H H' : Hp} {v : V} {x : Trip} (h : SpanR CS mk H v x) (k : KI CS H H') : SpanR CS mk H' v x := SpanAt.keep k _ _ _ _ h
theorem SpansAt.paired {CS : Addr} {mk : List (List Nat)} {H : Hp} : ∀ {os : List Ex} {p : List Nat} {a n : Nat} {ws : List V}, SpansAt CS mk H os p a n ws → Paired (SpanR CS mk H) ws (skids os p a n)
  | [], p, a, n, ws, h => by unfold SpansAt at h; subst h; exact .nil
  | e :: r, p, a, n, ws, h => by
    unfold SpansAt at h
    obtain ⟨v, ws', rfl, h1, h2⟩ := h
    exact .cons h1 h2.paired
def spWithin (CS : Addr) : Sp := fun vs H Q _ => ∃ (v : V) (e : Ex) (p : List Nat) (n : Nat) (mk : List (List Nat)), vs = [v] ∧ SpanAt CS mk H e p n v ∧ e.nodes ≤ 900 ∧ ∀ (l : Addr) (rows : List V) (H' : Hp), H l = none → H' l = some (.lst rows) → Paired (SpanR CS mk H') rows (e.spn p n) → Same H H' → Q (.ref l) H'
section
variable {P : Program} {w : World} {K : PySem.W.Frag} {mg : Str → Option Value} {base : Heap} {X : Cx}
theorem scWithin : FnScope ["root", "found", "waiting", "span"] ["root"] (defScope sWithin) := ⟨rfl, rfl, rfl, by decide +kernel, rfl, by decide +kernel, by decide +kernel⟩
theorem ok_within {CS f : Addr} {fd : FuncData} (F : Fun K "spans_within" "spans_within" sWithin f fd) (T : TxS K CS) (ml : mg "len" = none) : FnOk P w K mg base CX0 1 f fd ["root"] (spWithin CS) := by
  refine F.ok scWithin (fun vs H Q E h => ?_) (fun cdv A outer s H vs Q E hr h => ?_)
  · obtain ⟨v, e, p, n, mk, rfl, _⟩ := h
    rfl
  obtain ⟨v, e, p, n, mk, rfl, hv, hn, q⟩ := h
  refine ⟨_, (pss_cons (ps_set (i := 1) scWithin.nd rfl (.inl rfl) (pe_lst pa_nil))
    (pss_cons (ps_set (i := 2) scWithin.nd rfl (.inl rfl) (pe_lst (pa_cons (pv 0) pa_nil)))
    (pss_cons (ps_while PassesOwn.never (pt_cmpR op_gt (pe_callB call_len_seq (by rfl) ml PySem.boot_len (pa_cons (pv 2) pa_nil)) pe_int (nomark _)) (pss_cons (ps_set (i := 3) scWithin.nd rfl (.inl rfl) (pe_bm0 PySem.F.plainAttrs_list PySem.F.slot_list_pop PySem.F.type_list_pop mt_pop (pv 2)))
    (pss_cons (ps_expr (pe_bm PySem.F.plainAttrs_list PySem.F.slot_list_append PySem.F.type_list_append mt_append (pv 1) (pa_cons (pv 3) pa_nil)))
    (pss_one (ps_expr (pe_bm PySem.F.plainAttrs_list PySem.F.slot_list_extend PySem.F.type_list_extend mt_extendT (pv 2) (pa_cons (pe_revT (pe_fld (pv 3) rfl)) pa_nil)))))))
    (pss_one (ps_ret (pv 1)))))), ?_⟩
  refine ⟨sz (by decide), fun lr nlr => ⟨_, rfl, sz (by show 1 ≤ 1000; decide), fun lw nlw => ?_⟩⟩
  have sr := same_up (o := .lst []) nlr
  have sw := same_up (o := .lst [v]) nlw
  have sA := sr.trans sw
  have hlw : H lw = none := sr.free nlw
  have nrw : lr ≠ lw := ne_of_none (o := .lst []) upd_same nlw
  refine ⟨fun m σ H' => ∃ (x : Option V) (rr ww : List V) (rs st : List Trip), σ = [some v, some (.ref lr), some (.ref lw), x] ∧ m = tsum st ∧ H' lr = some (.lst rr) ∧ Paired (SpanR CS mk H') rr rs ∧ H' lw = some (.lst ww) ∧ Paired (SpanR CS mk H') ww st ∧
    rs ++ st.reverse.flatMap Trip.spn = e.spn p n ∧ Same H H', ⟨_, none, [], [v], [], [(p, e, n)], rfl, rfl, sw _ _ upd_same, .nil, upd_same, .cons (hv.keep (KI.same sA) _ _ _ _) .nil, ?_, sA⟩, ?_⟩
  · simp [Trip.spn]
  rintro m σ H1 ⟨x, rr, ww, rs, st, rfl, rfl, er, pr, ew, pw, hpre, s1⟩
  have hsum : rs.length + tsum st = e.nodes := by
    have := congrArg List.length hpre
    rw [List.length_append, tsum_spn, tsum_rev, spn_len] at this
    exact this
  have hww : ww.length = st.length := pw.length
  have hst := tsum_len st
  refine ⟨_, rfl, lw, _, rfl, .inl (SqL.of ew), _, _, rfl, rfl, _, rfl, ?_⟩
  rcases List.eq_nil_or_concat st with rfl | ⟨st', x, rfl⟩
  · have : ww = [] := List.eq_nil_of_length_eq_zero hww
    subst this
    refine iteNo (by simp) ?_
    simp only [List.reverse_nil, List.flatMap_nil, List.append_nil] at hpre
    rw [hpre] at pr
    exact ⟨_, rfl, q lr rr H1 nlr er pr s1⟩
  obtain ⟨px, ex, nx⟩ := x
  rw [List.concat_eq_append] at *
  obtain ⟨ww', u, rfl, pw', ru⟩ := paired_snoc_inv pw
  refine iteYes (by rw [List.length_append, List.length_singleton]; omega) ?_
  have hsum2 : tsum (st' ++ [(px, ex, nx)]) = tsum st' + ex.nodes := by rw [tsum_append]; simp [tsum]
  have hnx := nodes_ops ex
  refine ⟨fun σ' H' => ∃ m', m' < tsum (st' ++ [(px, ex, nx)]) ∧ ∃ (x : Option V) (rr ww : List V) (rs st : List Trip), σ' = [some v, some (.ref lr), some (.ref lw), x] ∧ m' = tsum st ∧ H' lr = some (.lst rr) ∧ Paired (SpanR CS mk H') rr rs ∧ H' lw = some (.lst ww) ∧ Paired (SpanR CS mk H') ww st ∧
    rs ++ st.reverse.flatMap Trip.spn = e.spn p n ∧ Same H H', fun σ' H' h => h, ?_⟩
  -- pop
  refine ⟨_, rfl, .inl ⟨rfl, _, SqL.of ew⟩, lw, _, u, rfl, rfl, ew, by simp, ?_⟩
  rw [List.dropLast_concat]
  have k2 := KI.lst (CS := CS) (o := .lst ww') ew
  have er2 : (upd H1 lw (.lst ww')) lr = some (.lst rr) := by rw [upd_ne nrw]; exact er
  have hrl : rr.length = rs.length := pr.length
  -- append
  refine ⟨_, rfl, .inl ⟨rfl, _, SqL.of er2⟩, _, rfl, lr, rr, _, rfl, rfl, er2, small1000 (by omega), ?_⟩
  have k3 := KI.lst (CS := CS) (o := .lst (rr ++ [u])) er2
  have k23 := k2.trans k3
  have ew3 : (upd (upd H1 lw (.lst ww')) lr (.lst (rr ++ [u]))) lw = some (.lst ww') := by rw [upd_ne (Ne.symm nrw)]; exact upd_same
  have s3 : Same H (upd (upd H1 lw (.lst ww')) lr (.lst (rr ++ [u]))) := fun b o z => by
    rw [upd_ne (ne_of_none z nlr), upd_ne (ne_of_none z hlw)]; exact s1 _ _ z
  have er3 : (upd (upd H1 lw (.lst ww')) lr (.lst (rr ++ [u]))) lr = some (.lst (rr ++ [u])) := upd_same
  generalize (upd (upd H1 lw (.lst ww')) lr (.lst (rr ++ [u]))) = H3 at k23 ew3 s3 er3 ⊢
  have ru3 := ru.keep k23
  obtain ⟨ws, ⟨a0, dx, fs, vp, vf, tb, to, rfl, h1, hf, h2, h3, h4, h5⟩, hbs⟩ := SpanAt.obj ru3
  have hlen : ws.length = ex.ops.length := hbs.length
  -- extend
  refine ⟨_, rfl, .inl ⟨rfl, _, SqL.of ew3⟩, _, rfl, a0, CS, dx, fs, _, rfl, h1, T.cl, T.nB, hf.b, tb, ws, rfl, SqT.of h4, fun r nr => ?_⟩
  have s4 := same_up (o := .tup ws.reverse) nr
  have hwl : ww'.length = st'.length := pw'.length
  have hsl := tsum_len st'
  have hng := nodess_ge ex.ops
  refine ⟨lw, r, ww', ws.reverse, rfl, rfl, s4 _ _ ew3, upd_same, sz (by rw [List.length_reverse]; omega), ?_⟩
  have ew4 := s4 _ _ ew3
  have k5 := KI.lst (CS := CS) (o := .lst (ww' ++ ws.reverse)) ew4
  have k35 : KI CS H3 (upd (upd H3 r (.tup ws.reverse)) lw (.lst (ww' ++ ws.reverse))) := (KI.same s4).trans k5
  have k15 := k23.trans k35
  refine ⟨tsum (st' ++ (skids ex.ops px 0 nx).reverse), ?_, _, rr ++ [.ref a0], ww' ++ ws.reverse, rs ++ [(px, ex, nx)], st' ++ (skids ex.ops px 0 nx).reverse, rfl, rfl, ?_, ?_, upd_same, ?_, ?_, ?_⟩
  · rw [hsum2, tsum_append, tsum_rev, tsum_kids]
    omega
  · rw [upd_ne nrw]; exact s4 _ _ er3
  · exact paired_append (L2.Paired.mapP pr fun a b z => z.keep k15) (.cons (ru3.keep k35) .nil)
  · exact paired_append (L2.Paired.mapP pw' fun a b z => z.keep k15) (L2.Paired.mapP (paired_reverse hbs.paired) fun a b z => z.keep k35)
  · rw [← hpre]
    simp only [List.reverse_append, List.reverse_reverse, List.flatMap_append, List.reverse_cons, List.reverse_nil, List.nil_append, List.flatMap_cons, List.flatMap_nil, List.append_nil, List.append_assoc]
    rw [show Trip.spn (px, ex, nx) = (px, ex, nx) :: (skids ex.ops px 0 nx).flatMap Trip.spn from spn_eq ex px nx]
    simp
  · intro b o z
    rw [upd_ne (ne_of_none z hlw)]
    exact s4 _ _ (s3 _ _ z)
end
end Oo
namespace Oo
open PySem L2 PyProof.Rows LamX StX ClX
abbrev sStepOf : Stmt := top 51
/-! ### steps counted -/
theorem filter_one : ∀ {fns : List Fn}, (fns.map (·.name)).Nodup → ∀ {fn : Fn}, fn ∈ fns → (fns.filter fun g => decide (g.name = fn.name)) = [fn]
  | [], _, _, h => by cases h
  | a :: r, nd, fn, h => by
    rw [List.map_cons, List.nodup_cons] at nd
    rcases List.mem_cons.mp h with e | h
    · subst e
      have hz : r.filter (fun g => decide (g.name = fn.name)) = [] := by
        refine List.filter_eq_nil_iff.mpr fun g hg z => ?_
        exact nd.1 (List.mem_map.mpr ⟨g, hg, of_decide_eq_true z⟩)
      rw [List.filter_cons_of_pos (by simp), hz]
    · have hn : ¬ (a.name = fn.name) := fun z => nd.1 (List.mem_map.mpr ⟨fn, h, z.symm⟩)
      rw [List.filter_cons_of_neg (by simp [hn])]
      exact filter_one nd.2 h
theorem kdW_call {ps : List Str} {fns : List Fn} {f : Str} {n : Nat} (h : KdW ps fns (.call f) n) : ∃ fn ∈ fns, fn.name = f ∧ fn.ar = (n : Int) := by
  simp only [KdW] at h
  exact h
theorem ownSteps_steps {ps : List Str} {fns : List Fn} (kw : KitW ps fns) {p : List Nat} {k : Kd} {n : Nat} (h : KdW ps fns k n) : (ownSteps fns p k).length = k.steps := by
  cases k with
  | call f =>
    obtain ⟨fn, h1, rfl, _⟩ := kdW_call h
    simp only [ownSteps, List.length_map, filter_one kw.fnd h1, Kd.steps, List.length_singleton]
  | _ => simp [ownSteps, Kd.steps]
mutual
theorem stepL_steps {ps : List Str} {fns : List Fn} (kw : KitW ps fns) : ∀ (e : Ex) (p : List Nat), ExW ps fns e → (Ex.stepL fns e p).length = e.steps
  | .num n, p, _ => by simp [Ex.stepL, Ex.steps]
  | .nd k os, p, h => by
    unfold ExW at h
    have h1 := stepLs_steps kw os p 0 h.2
    have h2 := ownSteps_steps kw (p := p) h.1
    simp only [Ex.stepL, List.length_append, Ex.steps]
    omega
theorem stepLs_steps {ps : List Str} {fns : List Fn} (kw : KitW ps fns) : ∀ (es : List Ex) (p : List Nat) (j : Nat), ExWs ps fns es → (Ex.stepLs fns es p j).length = Ex.stepss es
  | [], p, j, _ => by simp [Ex.stepLs, Ex.stepss]
  | e :: r, p, j, h => by
    unfold ExWs at h
    have h1 := stepL_steps kw e (p ++ [j]) h.1
    have h2 := stepLs_steps kw r p (j + 1) h.2
    simp only [Ex.stepLs, List.length_append, Ex.stepss]
    omega
end
def Kd.place : Kd → Option Str
  | .read x => some x
  | .store x => some x
  | .step x _ _ => some x
  | _ => none
theorem own_cases {ps : List Str} {fns : List Fn} (kw : KitW ps fns) {p : List Nat} {k : Kd} {n a : Nat} {r : StepR} (hk : KdW ps fns k n) (h : (ownSteps fns p k)[a]? = some r) : a < k.steps ∧ k.kinds[a]? = some r.kind ∧
    ((∃ fn ∈ fns, k = .call fn.name ∧ r = ⟨"call", p, fn.rd, fn.st⟩) ∨ (∃ x, k.place = some x ∧ r = ⟨"read", p, [x], []⟩) ∨ ∃ x, k.place = some x ∧ r = ⟨"store", p, [], [x]⟩) := by
  have ha : a < k.steps := by rw [← ownSteps_steps kw (p := p) hk]; exact (List.getElem?_eq_some_iff.mp h).1
  refine ⟨ha, ?_⟩
  cases k with
  | call f =>
    obtain ⟨fn, h1, rfl, _⟩ := kdW_call hk
    simp only [ownSteps, filter_one kw.fnd h1, List.map_cons, List.map_nil] at h
    have : a = 0 := by simp only [Kd.steps] at ha; omega
    subst this
    cases h
    exact ⟨rfl, .inl ⟨fn, h1, rfl, rfl⟩⟩
  | read x =>
    have : a = 0 := by simp only [Kd.steps] at ha; omega
    subst this
    cases h
    exact ⟨rfl, .inr (.inl ⟨x, rfl, rfl⟩)⟩
  | store x =>
    have : a = 0 := by simp only [Kd.steps] at ha; omega
    subst this
    cases h
    exact ⟨rfl, .inr (.inr ⟨x, rfl, rfl⟩)⟩
  | step x b wh =>
    simp only [Kd.steps] at ha
    match a, ha with
    | 0, _ => cases h; exact ⟨rfl, .inr (.inl ⟨x, rfl, rfl⟩)⟩
    | 1, _ => cases h; exact ⟨rfl, .inr (.inr ⟨x, rfl, rfl⟩)⟩
  | _ => simp only [Kd.steps] at ha; omega
theorem NodeAt.place {H : Hp} {p : Addr} {k : Kd} {vs : List V} {x : Str} (n : NodeAt H p k vs) (h : k.place = some x) : ∃ tl, H p = some (.tup (.str k.word :: .str x :: tl)) := by
  cases k <;> first | (cases h; done) | (cases h; exact ⟨_, n⟩)
def spStepOf (CF CB CS : Addr) : Sp := fun vs H Q _ => ∃ (vb v : V) (ps : List Str) (fns : List Fn) (mk : List (List Nat)) (k : Kd) (os : List Ex) (p : List Nat) (n a : Nat) (r : StepR), vs = [vb, v, .int ((n + Ex.stepss os + a : Nat) : Int)] ∧ BookAt CF CB H vb fns ∧ KitW ps fns ∧ SpanAt CS mk H (.nd k os) p n v ∧ ExW ps fns (.nd k os) ∧
  (ownSteps fns p k)[a]? = some r ∧ ∀ u H', StepAt H' u r → Same H H' → Q u H'
theorem at_nat {xs : List V} {i : Nat} {y : V} (h : xs[i]? = some y) : atI xs (i : Int) = some y := at_of (j := i) (by first | rfl | omega) h
section
variable {P : Program} {w : World} {K : PySem.W.Frag} {mg : Str → Option Value} {base : Heap} {X : Cx}
theorem scStepOf : FnScope ["book", "span", "step", "form", "kind", "function"] ["book", "span", "step"] (defScope sStepOf) := ⟨rfl, rfl, rfl, by decide +kernel, rfl, by decide +kernel, by decide +kernel⟩
theorem ok_stepof {CF CB CS f fo fg : Addr} {fd fdo fdg : FuncData} (F : Fun K "step_of" "step_of" sStepOf f fd) (T : TxS K CS) (TF' : TxF K CF)
    (GO : FnOk P w K mg base CX0 2 fo fdo ["node"] (spKinds K)) (kO : PySem.W.keepIn K (.ref fo) = true) (bO : Binds K fdo ["node"] []) (mO : mg "own_steps" = some (.ref fo))
    (GG : FnOk P w K mg base CX0 6 fg fdg ["self", "at"] (spBGet CF CB)) (DG : Dun K CB "__getitem__" fg) (fnG : PySem.W.fnIn K fg = true) (bG : Binds K fdg ["self", "at"] []) : FnOk P w K mg base CX0 8 f fd ["book", "span", "step"] (spStepOf CF CB CS) := by
  refine F.ok scStepOf (fun vs H Q E h => ?_) (fun cdv A outer s H vs Q E hr h => ?_)
  · obtain ⟨vb, v, ps, fns, mk, k, os, p, n, a, r, rfl, _⟩ := h
    rfl
  obtain ⟨vb, v, ps, fns, mk, k, os, p, n, a, r, rfl, hB, kw, hs, ew, hr', q⟩ := h
  have hr2 : Room 2 _ := hr.mono (by decide)
  refine ⟨_, (pss_cons (ps_set (i := 3) scStepOf.nd rfl (.inl rfl) (pe_fld (pv 1) rfl))
    (pss_cons (ps_set (i := 4) scStepOf.nd rfl (.inl rfl) (pe_ix ix_tup (pe_call GO hr2 rfl mO kO bO .nil pass0 (pa_cons (pv 3) pa_nil)) (pe_op op_sub (pv 2) (pe_ix ix_tup (pe_fld (pv 1) rfl) pe_int (fun _ _ => rfl))) (fun _ _ => rfl)))
    (pss_cons (ps_if (pt_cmpR op_eq (pv 4) pe_str (nomark _)) (pss_cons (ps_set (i := 5) scStepOf.nd rfl (.inl rfl) (pe_ixO GG hr DG fnG bG pass0 (pv 0) (pe_ix ix_tup (pv 3) pe_int (fun _ _ => rfl))))
    (pss_one (ps_ret (pe_tup (pa_cons (pv 4) (pa_cons (pe_fld (pv 1) rfl) (pa_cons (pe_fld (pv 5) rfl) (pa_cons (pe_fld (pv 5) rfl) pa_nil)))))))) pss_nil)
    (pss_cons (ps_if (pt_cmpR op_eq (pv 4) pe_str (nomark _)) (pss_one (ps_ret (pe_tup (pa_cons (pv 4) (pa_cons (pe_fld (pv 1) rfl) (pa_cons (pe_tup (pa_cons (pe_ix ix_tup (pv 3) pe_int (fun _ _ => rfl)) pa_nil)) (pa_cons (pe_tup pa_nil) pa_nil))))))) pss_nil)
    (pss_one (ps_ret (pe_tup (pa_cons (pv 4) (pa_cons (pe_fld (pv 1) rfl) (pa_cons (pe_tup pa_nil) (pa_cons (pe_tup (pa_cons (pe_ix ix_tup (pv 3) pe_int (fun _ _ => rfl)) pa_nil)) pa_nil))))))))))), ?_⟩
  have hk : KdW ps fns k os.length := by unfold ExW at ew; exact ew.1
  obtain ⟨ha, hkind, hcase⟩ := own_cases kw hk hr'
  obtain ⟨ws, ⟨a0, dx, fs, vp, vf, tb, to, rfl, h1, hf, h2, h3, h4, h5⟩, hbs⟩ := hs.obj
  have ho0 : (nv_ (Ex.owns (.nd k os) n))[0]? = some (V.int ((n + Ex.stepss os : Nat) : Int)) := by
    have hpos : 0 < Ex.own (.nd k os) := by show 0 < k.steps; omega
    have e1 := steps_own (.nd k os)
    have e2 : Ex.steps (.nd k os) - Ex.own (.nd k os) = Ex.stepss os := e1
    unfold nv_ Ex.owns
    rw [List.getElem?_map, List.getElem?_map, List.getElem?_range hpos, e2]
    rfl
  have ie0 := h3
  have h3' := h3
  unfold InE at h3'
  obtain ⟨pn, wf, rfl, ios, na⟩ := h3'
  refine ⟨_, rfl, a0, CS, dx, fs, _, rfl, h1, T.cl, T.nF, hf.f, ?_⟩
  refine ⟨_, rfl, _, _, rfl, ie0, fun qk H1 hks s1 => ?_⟩
  refine ⟨_, rfl, _, rfl, a0, CS, dx, fs, _, rfl, s1 _ _ h1, T.cl, T.nO, hf.o, to, _, _, _, rfl, rfl, SqT.of (s1 _ _ h5), at_of (j := 0) rfl ho0, _, _, rfl, rfl, qk, _, _, V.str r.kind, rfl, rfl, hks, ?_, ?_⟩
  · have e3 : ((n + Ex.stepss os + a : Nat) : Int) - ((n + Ex.stepss os : Nat) : Int) = (a : Int) := by omega
    rw [e3]
    refine at_nat ?_
    show (k.kinds.map V.str)[a]? = some (.str r.kind)
    rw [List.getElem?_map, hkind]
    rfl
  have na1 := na.keep (same_t s1)
  have hp1 := h2.keep (same_t s1)
  refine ⟨_, rfl, rfl, _, rfl, ?_⟩
  rcases hcase with ⟨fn, hfn, rfl, rfl⟩ | ⟨x, hx, rfl⟩ | ⟨x, hx, rfl⟩
  · refine iteYes rfl ?_
    obtain ⟨qa, hq1, _⟩ := na1
    obtain ⟨b, dxb, fsb, tf, rows, fns', rfl, g1, g2, g3, g4, g5⟩ := id hB
    refine ⟨_, rfl, _, rfl, pn, _, _, _, rfl, rfl, SqT.of hq1, at1 _ _ _, b, dxb, fsb, rfl, s1 _ _ g1, _, fn, fns, rfl, hB.keep s1, Nat.le_trans kw.fl (by decide), hfn, kw.fnd, kw.fok, fun v' H2 hfa s2 => ?_⟩
    obtain ⟨pf, dxf, fsf, vr, vs', rfl, f1, f2, f3, f4, f5, f6, f7⟩ := hfa
    refine ⟨_, rfl, _, rfl, a0, CS, dx, fs, _, rfl, s2 _ _ (s1 _ _ h1), T.cl, T.nP, hf.p, _, rfl, pf, CF, dxf, fsf, _, rfl, f1, TF'.cl, TF'.nR, f4, _, rfl, pf, CF, dxf, fsf, _, rfl, f1, TF'.cl, TF'.nS, f5, sz (by simp), fun t nt => ?_⟩
    have st := same_up (o := .tup [V.str "call", vp, vr, vs']) nt
    exact q _ _ ⟨t, vp, vr, vs', rfl, upd_same, hp1.keep (same_t (s2.trans st)), f6.keep (same_t st), f7.keep (same_t st)⟩ ((s1.trans s2).trans st)
  · refine iteNo (show ¬ (V.str "read" = V.str "call") by decide +kernel) ⟨_, rfl, rfl, _, rfl, iteYes rfl ?_⟩
    obtain ⟨tl, ht⟩ := na1.place hx
    refine ⟨_, rfl, _, rfl, a0, CS, dx, fs, _, rfl, s1 _ _ h1, T.cl, T.nP, hf.p, _, rfl, pn, _, _, _, rfl, rfl, SqT.of ht, at1 _ _ _, sz (by simp), fun t1 n1 => ⟨sz (by simp), fun t2 n2 => ⟨sz (by simp), fun t n3 => ?_⟩⟩⟩
    have sa := same_up (o := .tup [V.str x]) n1
    have sb := same_up (o := .tup ([] : List V)) n2
    have sc := same_up (o := .tup [V.str "read", vp, .ref t1, .ref t2]) n3
    exact q _ _ ⟨t, vp, .ref t1, .ref t2, rfl, upd_same, hp1.keep (same_t ((sa.trans sb).trans sc)), ⟨t1, rfl, sc _ _ (sb _ _ upd_same)⟩, ⟨t2, rfl, sc _ _ upd_same⟩⟩ (s1.trans ((sa.trans sb).trans sc))
  · refine iteNo (show ¬ (V.str "store" = V.str "call") by decide +kernel) ⟨_, rfl, rfl, _, rfl, iteNo (show ¬ (V.str "store" = V.str "read") by decide +kernel) ?_⟩
    obtain ⟨tl, ht⟩ := na1.place hx
    refine ⟨_, rfl, _, rfl, a0, CS, dx, fs, _, rfl, s1 _ _ h1, T.cl, T.nP, hf.p, sz (by simp), fun t1 n1 => ?_⟩
    have sa := same_up (o := .tup ([] : List V)) n1
    refine ⟨_, rfl, pn, _, _, _, rfl, rfl, SqT.of (sa _ _ ht), at1 _ _ _, sz (by simp), fun t2 n2 => ⟨sz (by simp), fun t n3 => ?_⟩⟩
    have sb := same_up (o := .tup [V.str x]) n2
    have sc := same_up (o := .tup [V.str "store", vp, .ref t1, .ref t2]) n3
    exact q _ _ ⟨t, vp, .ref t1, .ref t2, rfl, upd_same, hp1.keep (same_t ((sa.trans sb).trans sc)), ⟨t1, rfl, sc _ _ (sb _ _ upd_same)⟩, ⟨t2, rfl, sc _ _ upd_same⟩⟩ (s1.trans ((sa.trans sb).trans sc))
end
end Oo
namespace Oo
open PySem L2
theorem prec_child {mk : List (List Nat)} {e : Ex} {p : List Nat} {n a i j : Nat} (h : a < e.ops.length) (h1 : n + Ex.stepss (e.ops.take a) ≤ j) (h2 : j < n + Ex.stepss (e.ops.take a) + e.ops[a].steps) :
    e.prec mk p n i j = (e.ops[a].prec mk (p ++ [a]) (n + Ex.stepss (e.ops.take a)) i j || (e.fx mk p && inR n (Ex.stepss (e.ops.take (aheadN e.gd a))) i)) := by
  cases e with
  | num c => exact absurd h (by simp [Ex.ops])
  | nd k os =>
    have hc := stepss_child os a h
    simp only [Ex.ops] at h1 h2 ⊢
    simp only [Ex.prec]
    rw [inR_not (n := n + Ex.stepss os) (i := j) (by omega), Bool.and_false, Bool.false_and, Bool.false_or, precs_at os p 0 n a i j h h1 h2, Nat.zero_add]
    have e1 : (if k.grd = true then (if 0 = 0 then min a 1 else 0) else a) = aheadN k.grd a := by
      unfold aheadN
      cases k.grd <;> simp
    rw [e1]
    rfl
theorem opn_child {mk : List (List Nat)} {e : Ex} {p : List Nat} {n a i j : Nat} (h : a < e.ops.length) (h1 : n + Ex.stepss (e.ops.take a) ≤ j) (h2 : j < n + Ex.stepss (e.ops.take a) + e.ops[a].steps) :
    e.opn mk p n i j = (e.ops[a].opn mk (p ++ [a]) (n + Ex.stepss (e.ops.take a)) i j || (!e.fx mk p && (inR n (Ex.stepss e.ops) i && !inR (n + Ex.stepss (e.ops.take a)) e.ops[a].steps i))) := by
  cases e with
  | num c => exact absurd h (by simp [Ex.ops])
  | nd k os =>
    simp only [Ex.ops] at h1 h2 ⊢
    simp only [Ex.opn]
    rw [opns_at os p 0 n a i j h h1 h2, Nat.zero_add]
    rfl
theorem prec_own {mk : List (List Nat)} {e : Ex} {p : List Nat} {n i j : Nat} (h1 : n + Ex.stepss e.ops ≤ j) (h2 : j < n + e.steps) : e.prec mk p n i j = (inR n e.steps i && decide (i < j)) := by
  cases e with
  | num c => simp only [Ex.steps] at h2; omega
  | nd k os =>
    simp only [Ex.ops, Ex.steps] at h1 h2
    simp only [Ex.prec, Ex.steps]
    rw [precs_no (by omega), Bool.or_false, inR_iff.mpr (show n + Ex.stepss os ≤ j ∧ j < n + Ex.stepss os + k.steps by omega), Bool.and_true, Nat.add_comm k.steps]
theorem opn_own {mk : List (List Nat)} {e : Ex} {p : List Nat} {n i j : Nat} (h1 : n + Ex.stepss e.ops ≤ j) : e.opn mk p n i j = false := by
  cases e with
  | num c => rfl
  | nd k os =>
    simp only [Ex.ops] at h1
    simp only [Ex.opn]
    exact opns_no (by omega)
/-- a number in some operand's part -/
theorem in_child : ∀ (os : List Ex) (n i : Nat), i ≤ os.length → ∀ j, n + Ex.stepss (os.take i) ≤ j → j < n + Ex.stepss os → ∃ a, ∃ h : a < os.length, i ≤ a ∧ n + Ex.stepss (os.take a) ≤ j ∧ j < n + Ex.stepss (os.take a) + os[a].steps := by
  intro os n i hi j h1 h2
  have key : ∀ m, i + m ≤ os.length → n + Ex.stepss (os.take (i + m)) ≤ j ∨ ∃ a, ∃ h : a < os.length, i ≤ a ∧ n + Ex.stepss (os.take a) ≤ j ∧ j < n + Ex.stepss (os.take a) + os[a].steps := by
    intro m
    induction m with
    | zero => intro _; exact .inl h1
    | succ m ih =>
      intro hm
      rcases ih (by omega) with h | h
      · by_cases z : j < n + Ex.stepss (os.take (i + m)) + os[i + m].steps
        · exact .inr ⟨i + m, by omega, by omega, h, z⟩
        · refine .inl ?_
          rw [show i + (m + 1) = i + m + 1 by omega, stepss_take_succ os (i + m) (by omega)]
          omega
      · exact .inr h
  rcases key (os.length - i) (by omega) with h | h
  · rw [show i + (os.length - i) = os.length by omega, List.take_length] at h
    omega
  · exact h
end Oo
namespace Oo
open PySem L2 PyProof.Rows LamX StX ClX
abbrev sRel : Stmt := top 54
/-- a row of sets, the j-th being the i with R i j -/
def SetRow (xs : List V) (m : Nat) (R : Nat → Nat → Bool) : Prop := xs.length = m ∧ ∀ j, j < m → ∃ x, xs[j]? = some (.int x) ∧ Bits x (fun i => R i j)
abbrev Ent : Type := Trip × (Nat → Bool) × (Nat → Bool)
def EntAt (CS : Addr) (mk : List (List Nat)) (H : Hp) (u : V) (x : Ent) : Prop := ∃ (q : Addr) (vs : V) (A B : Int), u = .ref q ∧ H q = some (.tup [vs, .int A, .int B]) ∧ SpanR CS mk H vs x.1 ∧ Bits A x.2.1 ∧ Bits B x.2.2
theorem EntAt.keep {CS : Addr} {mk : List (List Nat)} {H H' : Hp} {u : V} {x : Ent} (h : EntAt CS mk H u x) (k : KI CS H H') : EntAt CS mk H' u x := by
  obtain ⟨q, vs, A, B, rfl, h1, h2, h3, h4⟩ := h
  exact ⟨q, vs, A, B, rfl, k.1 _ _ h1, h2.keep k, h3, h4⟩
/-- an entry tells what is ahead of its steps, what is beside them -/
def EntOk (mk : List (List Nat)) (m : Nat) (PR OP : Nat → Nat → Bool) (x : Ent) : Prop := x.1.2.2 + x.1.2.1.steps ≤ m ∧ ∀ j, x.1.2.2 ≤ j → j < x.1.2.2 + x.1.2.1.steps → ∀ i, PR i j = (x.2.1 i || x.1.2.1.prec mk x.1.1 x.1.2.2 i j) ∧ OP i j = (x.2.2 i || x.1.2.1.opn mk x.1.1 x.1.2.2 i j)
def InEnt (x : Ent) (j : Nat) : Prop := x.1.2.2 ≤ j ∧ j < x.1.2.2 + x.1.2.1.steps
def Done (PR OP : Nat → Nat → Bool) (bl sl : List V) (j : Nat) : Prop := (∃ x, bl[j]? = some (.int x) ∧ Bits x (fun i => PR i j)) ∧ ∃ x, sl[j]? = some (.int x) ∧ Bits x (fun i => OP i j)
def esum (st : List Ent) : Nat := tsum (st.map (·.1))
theorem esum_append (a b : List Ent) : esum (a ++ b) = esum a + esum b := by unfold esum; rw [List.map_append, tsum_append]
theorem esum_len (a : List Ent) : a.length ≤ esum a := by
  have := tsum_len (a.map (·.1))
  rwa [List.length_map] at this
/-- the entry of the a-th operand -/
def kidEnt (mk : List (List Nat)) (e : Ex) (p : List Nat) (n : Nat) (S B : Nat → Bool) (a : Nat) (o : Ex) : Ent :=
  ((p ++ [a], o, n + Ex.stepss (e.ops.take a)), (fun i => S i || (e.fx mk p && inR n (Ex.stepss (e.ops.take (aheadN e.gd a))) i)), fun i => B i || (!e.fx mk p && (inR n (Ex.stepss e.ops) i && !inR (n + Ex.stepss (e.ops.take a)) o.steps i)))
theorem kid_ok {mk : List (List Nat)} {m : Nat} {PR OP : Nat → Nat → Bool} {e : Ex} {p : List Nat} {n : Nat} {S B : Nat → Bool} (h : EntOk mk m PR OP ((p, e, n), S, B)) {a : Nat} (ha : a < e.ops.length) : EntOk mk m PR OP (kidEnt mk e p n S B a e.ops[a]) := by
  obtain ⟨h1, h2⟩ := h
  have hc := stepss_child e.ops a ha
  have ho := opsteps_le e
  simp only at h1 h2
  refine ⟨by simp only [kidEnt]; omega, fun j j1 j2 i => ?_⟩
  simp only [kidEnt] at j1 j2 ⊢
  obtain ⟨q1, q2⟩ := h2 j (by omega) (by omega) i
  rw [q1, q2, prec_child ha j1 j2, opn_child ha j1 j2]
  constructor
  · generalize S i = s; generalize (e.fx mk p && _) = t; generalize Ex.prec mk _ _ _ _ _ = u
    cases s <;> cases t <;> cases u <;> rfl
  · generalize B i = s; generalize (!e.fx mk p && _) = t; generalize Ex.opn mk _ _ _ _ _ = u
    cases s <;> cases t <;> cases u <;> rfl
def spRel (CS : Addr) : Sp := fun vs H Q _ => ∃ (v : V) (e : Ex) (p : List Nat) (mk : List (List Nat)), vs = [v] ∧ SpanAt CS mk H e p 0 v ∧ e.nodes ≤ 900 ∧
  ∀ (t tb ts : Addr) (bl sl : List V) (H' : Hp), H' t = some (.tup [.ref tb, .ref ts]) → H' tb = some (.tup bl) → H' ts = some (.tup sl) → SetRow bl e.steps (e.prec mk p 0) → SetRow sl e.steps (e.opn mk p 0) → Same H H' → Q (.ref t) H'
theorem owns_get (e : Ex) (n i : Nat) (h : i < e.own) : (nv_ (e.owns n))[i]? = some (.int ((n + Ex.stepss e.ops + i : Nat) : Int)) := by
  unfold nv_ Ex.owns
  rw [List.getElem?_map, List.getElem?_map, List.getElem?_range h, steps_own e]
  rfl
theorem owns_len (e : Ex) (n : Nat) : (nv_ (e.owns n)).length = e.own := by simp [nv_, Ex.owns]
theorem seqIx {n i : Nat} (h : i < n) : ixN n (i : Int) = some i := by
  unfold ixN
  have h1 : ¬ ((i : Int) < 0) := by omega
  simp [h1]
  try omega
theorem done_set {PR OP : Nat → Nat → Bool} {bl sl : List V} {j k : Nat} {x y : V} (h : Done PR OP bl sl j) (n : k ≠ j) : Done PR OP (bl.set k x) (sl.set k y) j := by
  obtain ⟨⟨a, h1, h2⟩, b, h3, h4⟩ := h
  exact ⟨⟨a, by rw [List.getElem?_set_ne n]; exact h1, h2⟩, b, by rw [List.getElem?_set_ne n]; exact h3, h4⟩
def teOth (CS : Addr) (mk : List (List Nat)) : TE := fun σ H Q => ∃ (v vo : V) (e o : Ex) (p po : List Nat) (n no : Nat), σ[4]? = some (some v) ∧ SpanAt CS mk H e p n v ∧ σ[9]? = some (some vo) ∧ SpanAt CS mk H o po no vo ∧ ∀ x, Bits x (fun i => !e.fx mk p && (inR n (Ex.stepss e.ops) i && !inR no o.steps i)) → Q (.int x) H
structure RelInv (CS : Addr) (mk : List (List Nat)) (H0 : Hp) (lb ls lw : Addr) (m : Nat) (PR OP : Nat → Nat → Bool) (st : List Ent) (rest : Nat → Prop) (H' : Hp) (bl sl ww : List V) : Prop where
  b : H' lb = some (.lst bl)
  s : H' ls = some (.lst sl)
  w : H' lw = some (.lst ww)
  p : Paired (EntAt CS mk H') ww st
  ok : ∀ x ∈ st, EntOk mk m PR OP x
  lb : bl.length = m
  ls : sl.length = m
  cov : ∀ j, j < m → Done PR OP bl sl j ∨ (∃ x ∈ st, InEnt x j) ∨ rest j
  k : Same H0 H'
theorem rep_flat (n : Nat) : (List.replicate n [V.int 0]).flatten = List.replicate n (V.int 0) := by
  induction n with
  | zero => rfl
  | succ n ih => rw [List.replicate_succ, List.replicate_succ, List.flatten_cons, ih]; rfl
section
variable {P : Program} {w : World} {K : PySem.W.Frag} {mg : Str → Option Value} {base : Heap} {X : Cx}
theorem scRel : FnScope ["root", "befores", "besides", "waiting", "span", "ahead", "beside", "step", "at", "one", "others"] ["root"] (defScope sRel) := ⟨rfl, rfl, rfl, by decide +kernel, rfl, by decide +kernel, by decide +kernel⟩
theorem ok_rel {CS f fj fb : Addr} {fd fdj fdb : FuncData} (F : Fun K "relations" "relations" sRel f fd) (T : TxS K CS) (ml : mg "len" = none) (mt : mg "tuple" = none) (men : mg "enumerate" = none)
    (GJ0 : ∀ mk, FnOk P w K mg base CX0 1 fj fdj ["spans"] (spJoined CS mk)) (kJ : PySem.W.keepIn K (.ref fj) = true) (bJ : Binds K fdj ["spans"] []) (mJ : mg "joined" = some (.ref fj))
    (GB0 : ∀ mk, FnOk P w K mg base CX0 3 fb fdb ["span", "at"] (spBelow CS mk)) (kB : PySem.W.keepIn K (.ref fb) = true) (bB : Binds K fdb ["span", "at"] []) (mB : mg "below_ahead" = some (.ref fb)) : FnOk P w K mg base CX0 4 f fd ["root"] (spRel CS) := by
  refine F.ok scRel (fun vs H Q E h => ?_) (fun cdv A outer s H vs Q E hr h => ?_)
  · obtain ⟨v, e, p, mk, rfl, _⟩ := h
    rfl
  obtain ⟨v, e, p, mk, rfl, hv, hn, q⟩ := h
  have hr1 : Room 1 _ := hr.mono (by decide)
  have GJ := GJ0 mk
  have GB := GB0 mk
  refine ⟨_, (pss_cons (ps_set (i := 1) scRel.nd rfl (.inl rfl) (pe_op op_rep (pe_lst (pa_cons pe_int pa_nil)) (pe_fld (pv 0) rfl)))
    (pss_cons (ps_set (i := 2) scRel.nd rfl (.inl rfl) (pe_op op_rep (pe_lst (pa_cons pe_int pa_nil)) (pe_fld (pv 0) rfl)))
    (pss_cons (ps_set (i := 3) scRel.nd rfl (.inl rfl) (pe_lst (pa_cons (pe_tup (pa_cons (pv 0) (pa_cons pe_int (pa_cons pe_int pa_nil)))) pa_nil)))
    (pss_cons (ps_while PassesOwn.never (pt_cmpR op_gt (pe_callB call_len_seq (by rfl) ml PySem.boot_len (pa_cons (pv 3) pa_nil)) pe_int (nomark _)) (pss_cons (ps_asg (pe_bm0 PySem.F.plainAttrs_list PySem.F.slot_list_pop PySem.F.type_list_pop mt_pop (pv 3)) (pg_tup rfl (pgs_cons (pg_name (i := 4) scRel.nd rfl (Or.inl rfl)) (pgs_cons (pg_name (i := 5) scRel.nd rfl (Or.inl rfl)) (pgs_cons (pg_name (i := 6) scRel.nd rfl (Or.inl rfl)) pgs_nil)))))
    (pss_cons (ps_for PassesOwn.never rfl (pi_tup (pe_fld (pv 4) rfl)) (pg_name (i := 7) scRel.nd rfl (Or.inl rfl)) (pss_cons (ps_asg (pe_op op_or (pv 5) (pe_op op_and (pe_fld (pv 4) rfl) (pe_op op_sub (pe_op op_oneShl pe_int (pv 7)) pe_int))) (pg_sub (pv 1) (pv 7) set_list))
    (pss_one (ps_asg (pv 6) (pg_sub (pv 2) (pv 7) set_list)))))
    (pss_one (ps_for PassesOwn.never rfl (pi_enumT (by rfl) men (pa_cons (pe_fld (pv 4) rfl) pa_nil)) (pg_tup rfl (pgs_cons (pg_name (i := 8) scRel.nd rfl (Or.inl rfl)) (pgs_cons (pg_name (i := 9) scRel.nd rfl (Or.inl rfl)) pgs_nil))) (pss_cons (ps_set (i := 10) scRel.nd rfl (.inl rfl) (pe_as (t' := teOth CS mk) (pe_ifExp (pt_val (pe_fld (pv 4) rfl)) pe_int (pe_op op_and (pe_call GJ hr1 rfl mJ kJ bJ .nil pass0 (pa_cons (pe_fld (pv 4) rfl) pa_nil)) (pe_un un_inv (pe_fld (pv 9) rfl)))) ?c1))
    (pss_one (ps_expr (pe_bm PySem.F.plainAttrs_list PySem.F.slot_list_append PySem.F.type_list_append mt_append (pv 3) (pa_cons (pe_tup (pa_cons (pv 9) (pa_cons (pe_op op_or (pv 5) (pe_call GJ hr1 rfl mJ kJ bJ .nil pass0 (pa_cons (pe_call GB hr rfl mB kB bB .nil pass0 (pa_cons (pv 4) (pa_cons (pv 8) pa_nil))) pa_nil))) (pa_cons (pe_op op_or (pv 6) (pv 10)) pa_nil)))) pa_nil))))))))))
    (pss_one (ps_ret (pe_tup (pa_cons (pe_tupleOf (by rfl) mt (pv 1)) (pa_cons (pe_tupleOf (by rfl) mt (pv 2)) pa_nil))))))))), ?_⟩
  case c1 =>
    rintro σ H Q ⟨v, vo, e, o, p, po, n, no, e4, hv, e9, ho, q⟩
    obtain ⟨ws, ⟨a1, dx, fs, vp, vf, tb, to, rfl, h1, hf, h2, h3, h4, h5⟩, hbs⟩ := hv.obj
    obtain ⟨ws2, ⟨a2, dx2, fs2, vp2, vf2, tb2, to2, rfl, g1, gf, _⟩, _⟩ := ho.obj
    refine ⟨_, e4, a1, CS, dx, fs, _, rfl, h1, T.cl, T.nX, hf.x, _, rfl, ?_⟩
    cases hx : e.fx mk p with
    | true =>
      rw [hx] at q
      exact iteT (q 0 (Bits.zero.congr fun i => rfl))
    | false =>
      rw [hx] at q
      refine iteF ⟨_, e4, a1, CS, dx, fs, _, rfl, h1, T.cl, T.nB, hf.b, tb, ws, e.ops, p, n, rfl, h4, hbs, fun x hb => ?_⟩
      refine ⟨_, e9, a2, CS, dx2, fs2, _, rfl, g1, T.cl, T.nI, gf.i, _, rfl, _, _, rfl, rfl, ?_⟩
      exact q _ ((hb.andNot (ins_bits o no)).congr fun i => by simp)
  have hst := steps_le e
  obtain ⟨ws0, ⟨a0, dx0, fs0, vp0, vf0, tb0, to0, rfl, h01, hf0, _⟩, _⟩ := hv.obj
  refine ⟨sz (by simp), fun l1 n1 => ⟨_, rfl, a0, CS, dx0, fs0, _, rfl, same_up n1 _ _ h01, T.cl, T.nS, hf0.s, l1, _, _, rfl, rfl, upd_same, by omega, by omega, sz2 (by simp; omega), fun lb nlb => ?_⟩⟩
  have s1 := (same_up (o := .lst [V.int 0]) n1).trans (same_up (o := .lst (List.replicate ((e.steps : Nat) : Int).toNat [V.int 0]).flatten) nlb)
  refine ⟨sz (by simp), fun l2 n2 => ⟨_, rfl, a0, CS, dx0, fs0, _, rfl, same_up n2 _ _ (s1 _ _ h01), T.cl, T.nS, hf0.s, l2, _, _, rfl, rfl, upd_same, by omega, by omega, sz2 (by simp; omega), fun ls nls => ?_⟩⟩
  have s2 := s1.trans ((same_up (o := .lst [V.int 0]) n2).trans (same_up (o := .lst (List.replicate ((e.steps : Nat) : Int).toNat [V.int 0]).flatten) nls))
  refine ⟨_, rfl, sz (by simp), fun t0 n0 => ⟨sz (by simp), fun lw nlw => ?_⟩⟩
  have st0 := same_up (o := .tup [V.ref a0, .int 0, .int 0]) n0
  have sw0 := same_up (o := .lst [V.ref t0]) nlw
  have s3 := (s2.trans st0).trans sw0
  have hlb : H lb = none := (same_up (o := .lst [V.int 0]) n1).free nlb
  have hls : H ls = none := (s1.trans (same_up (o := .lst [V.int 0]) n2)).free nls
  have hlw : H lw = none := (s2.trans st0).free nlw
  have elb := sw0 _ _ (st0 _ _ (same_up (o := .lst (List.replicate ((e.steps : Nat) : Int).toNat [V.int 0]).flatten) nls _ _ (same_up (o := .lst [V.int 0]) n2 lb _ upd_same)))
  have els := sw0 _ _ (st0 ls _ upd_same)
  have hbs : lb ≠ ls := ne_of_none (same_up (o := .lst [V.int 0]) n2 lb _ upd_same) nls
  have hbw : lb ≠ lw := ne_of_none (st0 _ _ (same_up (o := .lst (List.replicate ((e.steps : Nat) : Int).toNat [V.int 0]).flatten) nls _ _ (same_up (o := .lst [V.int 0]) n2 lb _ upd_same))) nlw
  have hsw : ls ≠ lw := ne_of_none (st0 ls _ upd_same) nlw
  have etn : (((e.steps : Nat) : Int).toNat) = e.steps := Int.toNat_natCast _
  have hll : (List.replicate ((e.steps : Nat) : Int).toNat [V.int 0]).flatten.length = e.steps := by rw [etn, rep_flat, List.length_replicate]
  refine ⟨fun m σ H' => ∃ (o4 o5 o6 o7 o8 o9 o10 : Option V) (bl sl ww : List V) (st : List Ent), σ = [some (.ref a0), some (.ref lb), some (.ref ls), some (.ref lw), o4, o5, o6, o7, o8, o9, o10] ∧ m = esum st ∧ esum st ≤ e.nodes ∧ RelInv CS mk H lb ls lw e.steps (e.prec mk p 0) (e.opn mk p 0) st (fun _ => False) H' bl sl ww,
    ⟨_, none, none, none, none, none, none, none, _, _, [.ref t0], [((p, e, 0), (fun _ => false), fun _ => false)], rfl, rfl, by simp [esum, tsum], elb, els, upd_same, .cons ⟨t0, .ref a0, 0, 0, rfl, sw0 _ _ upd_same, hv.keep (KI.same s3) _ _ _ _, Bits.zero, Bits.zero⟩ .nil, ?_, hll, hll, fun j hj => .inr (.inl ⟨_, List.mem_cons_self, ?_⟩), s3⟩, ?_⟩
  · intro x hx
    rw [List.mem_singleton.mp hx]
    exact ⟨by show 0 + e.steps ≤ e.steps; omega, fun j _ _ i => ⟨(Bool.false_or _).symm, (Bool.false_or _).symm⟩⟩
  · show 0 ≤ j ∧ j < 0 + e.steps
    omega
  rintro m σ H1 ⟨o4, o5, o6, o7, o8, o9, o10, bl, sl, ww, st, rfl, rfl, hse, R⟩
  have hww : ww.length = st.length := R.p.length
  have hsl := esum_len st
  refine ⟨_, rfl, lw, _, rfl, .inl (SqL.of R.w), _, _, rfl, rfl, _, rfl, ?_⟩
  rcases List.eq_nil_or_concat st with rfl | ⟨st', x, rfl⟩
  · have : ww = [] := List.eq_nil_of_length_eq_zero hww
    subst this
    refine iteNo (by simp) ?_
    refine ⟨_, rfl, .inl ⟨lb, bl, rfl, SqL.of R.b, fun tb ntb => ?_⟩⟩
    have sb := same_up (o := .tup bl) ntb
    refine ⟨_, rfl, .inl ⟨ls, sl, rfl, SqL.of (sb _ _ R.s), fun ts nts => ?_⟩⟩
    have ss := same_up (o := .tup sl) nts
    refine ⟨sz (by simp), fun t nt => ?_⟩
    have sx := same_up (o := .tup [V.ref tb, .ref ts]) nt
    have hd : ∀ j, j < e.steps → Done (e.prec mk p 0) (e.opn mk p 0) bl sl j := fun j hj => by
      rcases R.cov j hj with h | ⟨x, hx, _⟩ | h
      · exact h
      · cases hx
      · exact h.elim
    exact q t tb ts bl sl _ upd_same (sx _ _ (ss _ _ upd_same)) (sx _ _ upd_same) ⟨R.lb, fun j hj => (hd j hj).1⟩ ⟨R.ls, fun j hj => (hd j hj).2⟩ (R.k.trans (sb.trans (ss.trans sx)))
  obtain ⟨⟨px, ex, nx⟩, S, B⟩ := x
  rw [List.concat_eq_append] at *
  obtain ⟨Rb, Rs, Rw, Rp, Rok, Rlb, Rls, Rcov, Rk⟩ := R
  obtain ⟨ww', u, rfl, pw', ru⟩ := paired_snoc_inv Rp
  refine iteYes (by rw [List.length_append, List.length_singleton]; omega) ?_
  have hsum2 : esum (st' ++ [((px, ex, nx), S, B)]) = esum st' + ex.nodes := by rw [esum_append]; simp [esum, tsum]
  have hnx := nodes_ops ex
  have hxok : EntOk mk e.steps (e.prec mk p 0) (e.opn mk p 0) ((px, ex, nx), S, B) := Rok _ (List.mem_append_right _ List.mem_cons_self)
  have hok' : ∀ x ∈ st', EntOk mk e.steps (e.prec mk p 0) (e.opn mk p 0) x := fun x hx => Rok x (List.mem_append_left _ hx)
  have hxr : nx + ex.steps ≤ e.steps := hxok.1
  have hoo := opsteps_le ex
  have hso := steps_own ex
  have hol := own_steps_le ex
  refine ⟨fun σ' H' => ∃ m', m' < esum (st' ++ [((px, ex, nx), S, B)]) ∧ ∃ (o4 o5 o6 o7 o8 o9 o10 : Option V) (bl sl ww : List V) (st : List Ent), σ' = [some (.ref a0), some (.ref lb), some (.ref ls), some (.ref lw), o4, o5, o6, o7, o8, o9, o10] ∧ m' = esum st ∧ esum st ≤ e.nodes ∧ RelInv CS mk H lb ls lw e.steps (e.prec mk p 0) (e.opn mk p 0) st (fun _ => False) H' bl sl ww, fun σ' H' h => h, ?_⟩
  -- pop
  refine ⟨_, rfl, .inl ⟨rfl, _, SqL.of Rw⟩, lw, _, u, rfl, rfl, Rw, by simp, ?_⟩
  rw [List.dropLast_concat]
  have k2 := KI.lst (CS := CS) (o := .lst ww') Rw
  have R2 : RelInv CS mk H lb ls lw e.steps (e.prec mk p 0) (e.opn mk p 0) st' (fun j => nx ≤ j ∧ j < nx + ex.steps) (upd H1 lw (.lst ww')) bl sl ww' :=
    ⟨by rw [upd_ne hbw]; exact Rb, by rw [upd_ne hsw]; exact Rs, upd_same, L2.Paired.mapP pw' fun a b z => z.keep k2, hok', Rlb, Rls, fun j hj => by
      rcases Rcov j hj with h | ⟨x, hx, hi⟩ | h
      · exact .inl h
      · rcases List.mem_append.mp hx with h | h
        · exact .inr (.inl ⟨x, h, hi⟩)
        · rw [List.mem_singleton.mp h] at hi
          exact .inr (.inr hi)
      · exact h.elim, fun b o z => by rw [upd_ne (ne_of_none z hlw)]; exact Rk _ _ z⟩
  have ru2 := ru.keep k2
  generalize (upd H1 lw (.lst ww')) = H2 at R2 ru2 ⊢
  obtain ⟨qu, vs, A', B', rfl, equ, hvs, hA, hB⟩ := ru2
  refine ⟨qu, _, rfl, SqT.of equ, rfl, _, _, rfl, _, _, rfl, _, _, rfl, rfl, ?_⟩
  obtain ⟨ws, ⟨a1, dx, fs, vp, vf, tb, to, rfl, h1, hf, h2, h3, h4, h5⟩, hbs2⟩ := SpanAt.obj hvs
  -- the own steps
  refine ⟨_, rfl, a1, CS, dx, fs, _, rfl, h1, T.cl, T.nO, hf.o, to, rfl, ⟨_, SqT.of h5⟩, ?_⟩
  refine for_tup (K := K) (a := to) (xs := nv_ (ex.owns nx)) (fun i σ H' => ∃ (o7 : Option V) (bl sl : List V), σ = [some (.ref a0), some (.ref lb), some (.ref ls), some (.ref lw), some (.ref a1), some (.int A'), some (.int B'), o7, o8, o9, o10] ∧ KI CS H2 H' ∧
    RelInv CS mk H lb ls lw e.steps (e.prec mk p 0) (e.opn mk p 0) st' (fun j => (nx ≤ j ∧ j < nx + Ex.stepss ex.ops) ∨ (nx + Ex.stepss ex.ops + i ≤ j ∧ j < nx + ex.steps)) H' bl sl ww')
    ⟨o7, bl, sl, rfl, ⟨fun _ _ z => z, fun _ _ _ _ _ z => z⟩, { R2 with cov := fun j hj => (R2.cov j hj).elim .inl fun h => .inr (h.elim .inl fun h => .inr (by omega)) }⟩ (fun i σ H' _ ⟨_, _, _, _, k, _⟩ => SqT.of (k.1 _ _ h5)) ?_ ?_
  · rintro i z σ H3 hi ⟨o7, bl, sl, rfl, k3, R3⟩
    have hil : i < ex.own := by rw [← owns_len ex nx]; exact (List.getElem?_eq_some_iff.mp hi).1
    have hz : z = .int ((nx + Ex.stepss ex.ops + i : Nat) : Int) := Option.some.inj (hi.symm.trans (owns_get ex nx i hil))
    subst hz
    have h13 := k3.2 _ _ _ _ hf.p h1
    have hlt : nx + Ex.stepss ex.ops + i < e.steps := by omega
    refine ⟨_, rfl, _, rfl, a1, CS, dx, _, _, rfl, h13, T.cl, T.nI, hf.i, _, rfl, nx + Ex.stepss ex.ops + i, rfl, rfl, by omega, _, _, rfl, rfl, _, _, rfl, rfl, _, _, rfl, rfl, _, rfl, _, rfl, lb, bl, _, nx + Ex.stepss ex.ops + i, rfl, rfl, R3.b, by rw [R3.lb]; exact seqIx hlt, ?_⟩
    refine ⟨_, rfl, _, rfl, _, rfl, ls, sl, _, nx + Ex.stepss ex.ops + i, rfl, rfl, by rw [upd_ne hbs.symm]; exact R3.s, by rw [R3.ls]; exact seqIx hlt, ?_⟩
    have kb := KI.lst (CS := CS) (o := .lst (bl.set (nx + Ex.stepss ex.ops + i) (.int (Builtin.bitOr A' (Builtin.bitAnd (insI ex nx) (2 ^ (nx + Ex.stepss ex.ops + i) - 1)))))) R3.b
    have es : (upd H3 lb (.lst (bl.set (nx + Ex.stepss ex.ops + i) (.int (Builtin.bitOr A' (Builtin.bitAnd (insI ex nx) (2 ^ (nx + Ex.stepss ex.ops + i) - 1))))))) ls = some (.lst sl) := by rw [upd_ne hbs.symm]; exact R3.s
    have ks := KI.lst (CS := CS) (o := .lst (sl.set (nx + Ex.stepss ex.ops + i) (.int B'))) es
    have kbs := kb.trans ks
    refine ⟨_, _, _, rfl, k3.trans kbs, by rw [upd_ne hbs]; exact upd_same, upd_same, ?_, L2.Paired.mapP R3.p fun a b z => z.keep kbs, hok', by rw [List.length_set]; exact R3.lb, by rw [List.length_set]; exact R3.ls, fun j hj => ?_, fun b o z => ?_⟩
    · rw [upd_ne hsw.symm, upd_ne hbw.symm]; exact R3.w
    · by_cases hje : nx + Ex.stepss ex.ops + i = j
      · subst hje
        refine .inl ⟨⟨_, List.getElem?_set_self (by rw [R3.lb]; exact hj), ?_⟩, _, List.getElem?_set_self (by rw [R3.ls]; exact hj), ?_⟩
        · refine (hA.or ((ins_bits ex nx).and (Bits.low _))).congr fun i' => ?_
          have hp := (hxok.2 (nx + Ex.stepss ex.ops + i) (show nx ≤ _ by omega) (show _ < nx + ex.steps by omega) i').1
          rw [hp]
          show (S i' || (inR nx ex.steps i' && _)) = (S i' || ex.prec mk px nx i' _)
          rw [prec_own (by omega) (by omega)]
        · refine hB.congr fun i' => ?_
          have hp := (hxok.2 (nx + Ex.stepss ex.ops + i) (show nx ≤ _ by omega) (show _ < nx + ex.steps by omega) i').2
          rw [hp]
          show B i' = (B i' || ex.opn mk px nx i' _)
          rw [opn_own (by omega), Bool.or_false]
      · rcases R3.cov j hj with h | h | h
        · exact .inl (done_set h hje)
        · exact .inr (.inl h)
        · exact .inr (.inr (by omega))
    · rw [upd_ne (ne_of_none z hls), upd_ne (ne_of_none z hlb)]
      exact R3.k _ _ z
  rintro σ H3 ⟨o7', bl3, sl3, rfl, k3, R3⟩
  rw [owns_len] at R3
  have h13 := k3.2 _ _ _ _ hf.p h1
  have h43 := k3.1 _ _ h4
  have hwl : ws.length = ex.ops.length := hbs2.length
  have hng := nodess_ge ex.ops
  -- the operands
  refine ⟨_, rfl, a1, CS, dx, _, _, rfl, h13, T.cl, T.nB, hf.b, tb, ws, rfl, SqT.of h43, ?_⟩
  refine for_it walk_enumU (fun i σ H' => ∃ (o8 o9 o10 : Option V) (ww : List V) (st : List Ent), σ = [some (.ref a0), some (.ref lb), some (.ref ls), some (.ref lw), some (.ref a1), some (.int A'), some (.int B'), o7', o8, o9, o10] ∧ KI CS H2 H' ∧ esum st = esum st' + Ex.nodess (ex.ops.take i) ∧
    RelInv CS mk H lb ls lw e.steps (e.prec mk p 0) (e.opn mk p 0) st (fun j => nx + Ex.stepss (ex.ops.take i) ≤ j ∧ j < nx + Ex.stepss ex.ops) H' bl3 sl3 ww)
    ⟨o8, o9, o10, ww', st', rfl, k3, by simp [Ex.nodess], { R3 with cov := fun j hj => (R3.cov j hj).elim .inl fun h => .inr (h.elim .inl fun h => .inr (by simp only [List.take_zero, Ex.stepss]; omega)) }⟩ (fun i σ H' _ ⟨_, _, _, _, _, _, k, _⟩ => SqT.of (k.1 _ _ h4)) ?_ ?_
  · rintro i x σ H4 H5 hi ⟨o8, o9, o10, ww4, st4, rfl, k4, hes, R4⟩ ⟨T0, x', y', rfl, nT, rfl, hx, hy⟩
    have hx' : x' = .int (i : Int) := (Option.some.inj hx).symm
    subst hx'
    have hio : i < ex.ops.length := by omega
    obtain ⟨v', hv', sv'⟩ := (hbs2.keep k4 _ _ _ _ _).get i hio
    have : y' = v' := Option.some.inj (hy.symm.trans hv')
    subst this
    have sT := same_up (o := .tup [V.int (i : Int), y']) nT
    have kT := KI.same (CS := CS) sT
    have hv4 : SpanAt CS mk H4 ex px nx (.ref a1) := SpanAt.keep k4 _ _ _ _ hvs
    refine ⟨T0, _, rfl, SqT.of upd_same, rfl, _, _, rfl, _, _, rfl, rfl, ?_⟩
    refine ⟨.ref a1, y', ex, ex.ops[i], px, px ++ [0 + i], nx, nx + Ex.stepss (ex.ops.take i), rfl, hv4.keep kT _ _ _ _, rfl, sv'.keep kT _ _ _ _, fun xo hxo => ?_⟩
    have ew5 := sT _ _ R4.w
    refine ⟨_, rfl, .inl ⟨rfl, _, SqL.of ew5⟩, _, rfl, _, rfl, _, rfl, _, rfl, .ref a1, ex, px, nx, i, rfl, hv4.keep kT _ _ _ _, hio, fun t6 ws6 H6 et6 hs6 s6 => ⟨t6, ws6, _, px, nx, rfl, et6, hs6, fun xa hxa => ?_⟩⟩
    refine ⟨_, _, rfl, rfl, _, rfl, _, rfl, _, _, rfl, rfl, sz (by simp), fun tn ntn => ?_⟩
    have s56 := sT.trans s6
    have sn := same_up (o := .tup [y', .int (Builtin.bitOr A' xa), .int (Builtin.bitOr B' xo)]) ntn
    have s57 := s56.trans sn
    have ew7 := s57 _ _ R4.w
    have hww4 := R4.p.length
    have hel := esum_len st4
    have hnt := nodess_take ex.ops i
    have hen : esum st' + ex.nodes ≤ e.nodes := by rw [← hsum2]; exact hse
    refine ⟨lw, ww4, _, rfl, rfl, ew7, small1000 (by omega), ?_⟩
    have k7 := KI.lst (CS := CS) (o := .lst (ww4 ++ [V.ref tn])) ew7
    have k47 := (KI.same (CS := CS) s57).trans k7
    refine ⟨some (.int (i : Int)), some y', some (.int xo), ww4 ++ [.ref tn], st4 ++ [kidEnt mk ex px nx S B i ex.ops[i]], rfl, k4.trans k47, ?_, ?_⟩
    · rw [esum_append, hes, take_succ_get ex.ops i hio, nodess_append]
      simp [esum, tsum, kidEnt]
      omega
    · refine ⟨?_, ?_, upd_same, ?_, ?_, R4.lb, R4.ls, fun j hj => ?_, fun b o z => ?_⟩
      · rw [upd_ne hbw]; exact s57 _ _ R4.b
      · rw [upd_ne hsw]; exact s57 _ _ R4.s
      · refine paired_append (L2.Paired.mapP R4.p fun a b z => z.keep k47) (.cons ⟨tn, y', _, _, rfl, k7.1 _ _ upd_same, ?_, ?_, ?_⟩ .nil)
        · show SpanAt CS mk _ ex.ops[i] (px ++ [i]) _ y'
          have := sv'.keep k47 _ _ _ _
          rwa [Nat.zero_add] at this
        · refine (hA.or hxa).congr fun i' => ?_
          show (S i' || _) = (S i' || _)
          congr 1
          cases hfx : ex.fx mk px with
          | true => simp only [if_true, Bool.true_and]
          | false =>
            simp only [Bool.false_eq_true, if_false, List.take_zero, Ex.stepss, Bool.false_and]
            exact inR_not (by omega)
        · exact (hB.or hxo).congr fun i' => rfl
      · intro x hx
        rcases List.mem_append.mp hx with h | h
        · exact R4.ok x h
        · rw [List.mem_singleton.mp h]
          exact kid_ok hxok hio
      · rcases R4.cov j hj with h | ⟨x, hx, h⟩ | h
        · exact .inl h
        · exact .inr (.inl ⟨x, List.mem_append_left _ hx, h⟩)
        · have hts := stepss_take_succ ex.ops i hio
          by_cases hj2 : j < nx + Ex.stepss (ex.ops.take (i + 1))
          · refine .inr (.inl ⟨_, List.mem_append_right _ List.mem_cons_self, ?_⟩)
            show nx + Ex.stepss (ex.ops.take i) ≤ j ∧ j < nx + Ex.stepss (ex.ops.take i) + ex.ops[i].steps
            omega
          · exact .inr (.inr (by omega))
      · rw [upd_ne (ne_of_none z hlw)]
        exact s57 _ _ (R4.k _ _ z)
  · rintro σ H4 ⟨o8, o9, o10, ww4, st4, rfl, k4, hes, R4⟩
    rw [hwl, List.take_length] at hes R4
    refine ⟨esum st4, by rw [hsum2]; omega, _, _, _, _, _, _, _, bl3, sl3, ww4, st4, rfl, rfl, by rw [hsum2] at hse; omega, { R4 with cov := fun j hj => (R4.cov j hj).elim .inl fun h => .inr (h.elim .inl fun h => by omega) }⟩
end
end Oo
namespace Oo
open PySem L2
/-! which node a step belongs to -/
theorem mem_owns {e : Ex} {n j : Nat} : j ∈ e.owns n ↔ n + Ex.stepss e.ops ≤ j ∧ j < n + e.steps := by
  have h1 := steps_own e
  have h2 := own_steps_le e
  unfold Ex.owns
  rw [List.mem_map]
  constructor
  · rintro ⟨a, ha, rfl⟩
    have := List.mem_range.mp ha
    omega
  · rintro ⟨h3, h4⟩
    exact ⟨j - (n + Ex.stepss e.ops), List.mem_range.mpr (by omega), by omega⟩
theorem owns_nodup (e : Ex) (n : Nat) : (e.owns n).Nodup := by
  unfold Ex.owns
  rw [List.nodup_iff_pairwise_ne, List.pairwise_map]
  refine (List.nodup_range (n := e.own)).imp fun {a b} h => by omega
def Trip.own (x : Trip) : List Nat := x.2.1.owns x.2.2
def okeys (ts : List Trip) : List Nat := ts.flatMap Trip.own
theorem okeys_append (a b : List Trip) : okeys (a ++ b) = okeys a ++ okeys b := by unfold okeys; rw [List.flatMap_append]
theorem okeys_cons (x : Trip) (b : List Trip) : okeys (x :: b) = x.own ++ okeys b := by unfold okeys; rw [List.flatMap_cons]
theorem nodup_app {a b : List Nat} (h1 : a.Nodup) (h2 : b.Nodup) (h3 : ∀ x, x ∈ a → x ∈ b → False) : (a ++ b).Nodup := by
  rw [List.nodup_append]
  exact ⟨h1, h2, fun x hx y hy e => h3 x hx (by rw [e]; exact hy)⟩
mutual
theorem okeys_mem : ∀ (e : Ex) (p : List Nat) (n j : Nat), j ∈ okeys (e.spn p n) ↔ n ≤ j ∧ j < n + e.steps
  | .num c, p, n, j => by
    simp only [Ex.spn, okeys, List.flatMap_cons, List.flatMap_nil, List.append_nil, Trip.own, mem_owns, Ex.ops, Ex.stepss, Ex.steps]
    try omega
  | .nd k os, p, n, j => by
    simp only [Ex.spn]
    rw [okeys_cons, List.mem_append, okeysL_mem os p 0 n j]
    simp only [Trip.own, mem_owns, Ex.ops, Ex.steps]
    omega
theorem okeysL_mem : ∀ (os : List Ex) (p : List Nat) (a n j : Nat), j ∈ okeys (Ex.spns os p a n) ↔ n ≤ j ∧ j < n + Ex.stepss os
  | [], p, a, n, j => by
    simp [Ex.spns, okeys, Ex.stepss]
    try omega
  | e :: r, p, a, n, j => by
    simp only [Ex.spns]
    rw [okeys_append, List.mem_append, okeys_mem e, okeysL_mem r]
    simp only [Ex.stepss]
    omega
end
mutual
theorem okeys_nodup : ∀ (e : Ex) (p : List Nat) (n : Nat), (okeys (e.spn p n)).Nodup
  | .num c, p, n => by simp [Ex.spn, okeys, Trip.own, Ex.owns, Ex.own]
  | .nd k os, p, n => by
    simp only [Ex.spn]
    rw [okeys_cons]
    refine nodup_app (owns_nodup _ _) (okeysL_nodup os p 0 n) fun x h1 h2 => ?_
    simp only [Trip.own, mem_owns, Ex.ops] at h1
    have := (okeysL_mem os p 0 n x).mp h2
    omega
theorem okeysL_nodup : ∀ (os : List Ex) (p : List Nat) (a n : Nat), (okeys (Ex.spns os p a n)).Nodup
  | [], p, a, n => by simp [Ex.spns, okeys]
  | e :: r, p, a, n => by
    simp only [Ex.spns]
    rw [okeys_append]
    refine nodup_app (okeys_nodup e _ _) (okeysL_nodup r _ _ _) fun x h1 h2 => ?_
    have h1 := (okeys_mem e _ _ x).mp h1
    have h2 := (okeysL_mem r _ _ _ x).mp h2
    omega
end
mutual
theorem okeys_len : ∀ (e : Ex) (p : List Nat) (n : Nat), (okeys (e.spn p n)).length = e.steps
  | .num c, p, n => by simp [Ex.spn, okeys, Trip.own, Ex.owns, Ex.own, Ex.steps]
  | .nd k os, p, n => by
    simp only [Ex.spn]
    rw [okeys_cons, List.length_append, okeysL_len os]
    simp [Trip.own, Ex.owns, Ex.own, Ex.steps]
theorem okeysL_len : ∀ (os : List Ex) (p : List Nat) (a n : Nat), (okeys (Ex.spns os p a n)).length = Ex.stepss os
  | [], p, a, n => by simp [Ex.spns, okeys, Ex.stepss]
  | e :: r, p, a, n => by
    simp only [Ex.spns]
    rw [okeys_append, List.length_append, okeys_len e, okeysL_len r, Ex.stepss]
end
/-! a step's row by its node -/
mutual
theorem stepL_at {ps : List Str} {fns : List Fn} (kw : KitW ps fns) : ∀ (e : Ex) (p : List Nat) (n : Nat), ExW ps fns e → ∀ (px : List Nat) (k : Kd) (os : List Ex) (nx a : Nat), (px, Ex.nd k os, nx) ∈ e.spn p n → a < k.steps → n ≤ nx ∧ ExW ps fns (.nd k os) ∧ (Ex.stepL fns e p)[nx + Ex.stepss os + a - n]? = (ownSteps fns px k)[a]?
  | .num c, p, n, h, px, k, os, nx, a, hm, ha => by simp [Ex.spn] at hm
  | .nd k0 os0, p, n, h, px, k, os, nx, a, hm, ha => by
    have h' := h
    unfold ExW at h'
    have hl := stepLs_steps kw os0 p 0 h'.2
    simp only [Ex.spn] at hm
    simp only [Ex.stepL]
    rcases List.mem_cons.mp hm with e1 | hm
    · injection e1 with e1 e2
      injection e2 with e2 e3
      injection e2 with e4 e5
      subst e1 e3 e4 e5
      refine ⟨Nat.le_refl _, h, ?_⟩
      rw [List.getElem?_append_right (by omega), hl]
      congr 1
      omega
    · have hin : ∀ i, i < k.steps → nx + Ex.stepss os + i ∈ okeys (Ex.spns os0 p 0 n) := fun i hi => by
        refine List.mem_flatMap.mpr ⟨_, hm, ?_⟩
        simp only [Trip.own, mem_owns, Ex.ops, Ex.steps]
        omega
      obtain ⟨h1, h2, h3⟩ := stepLs_at kw os0 p 0 n h'.2 px k os nx a hm ha
      have h4 := (okeysL_mem os0 p 0 n _).mp (hin a ha)
      exact ⟨h1, h2, by rw [List.getElem?_append_left (by omega)]; exact h3⟩
theorem stepLs_at {ps : List Str} {fns : List Fn} (kw : KitW ps fns) : ∀ (os0 : List Ex) (p : List Nat) (j n : Nat), ExWs ps fns os0 → ∀ (px : List Nat) (k : Kd) (os : List Ex) (nx a : Nat), (px, Ex.nd k os, nx) ∈ Ex.spns os0 p j n → a < k.steps → n ≤ nx ∧ ExW ps fns (.nd k os) ∧ (Ex.stepLs fns os0 p j)[nx + Ex.stepss os + a - n]? = (ownSteps fns px k)[a]?
  | [], p, j, n, h, px, k, os, nx, a, hm, ha => by simp [Ex.spns] at hm
  | e :: r, p, j, n, h, px, k, os, nx, a, hm, ha => by
    unfold ExWs at h
    have hl := stepL_steps kw e (p ++ [j]) h.1
    simp only [Ex.spns] at hm
    simp only [Ex.stepLs]
    rcases List.mem_append.mp hm with hm | hm
    · obtain ⟨h1, h2, h3⟩ := stepL_at kw e (p ++ [j]) n h.1 px k os nx a hm ha
      have hin : nx + Ex.stepss os + a ∈ okeys (e.spn (p ++ [j]) n) := by
        refine List.mem_flatMap.mpr ⟨_, hm, ?_⟩
        simp only [Trip.own, mem_owns, Ex.ops, Ex.steps]
        omega
      have h4 := (okeys_mem e _ n _).mp hin
      exact ⟨h1, h2, by rw [List.getElem?_append_left (by omega)]; exact h3⟩
    · obtain ⟨h1, h2, h3⟩ := stepLs_at kw r p (j + 1) (n + e.steps) h.2 px k os nx a hm ha
      refine ⟨by omega, h2, ?_⟩
      rw [List.getElem?_append_right (by omega), hl, ← h3]
      congr 1
      omega
end
/-- the guards' paths -/
def Ex.guards (e : Ex) : List (List Nat) := ((e.spn [] 0).filter fun x => x.2.1.gd).map (·.1)
end Oo
namespace Oo
open PySem L2 PyProof.Rows LamX StX ClX
abbrev sAskOf : Stmt := top 56
abbrev sUnask : Stmt := top 55
/-! which steps no guard asks: some set of steps -/
theorem slice_any {K : PySem.W.Frag} {H : Hp} {a : Addr} {xs : List V} {lo hi : Option Int} {Q : VK} (h : H a = some (.tup xs)) (k : ∀ t H', H' t = some (.tup (cutV xs lo hi)) → Same H H' → Q (.ref t) H') : rSlA K (.ref a) lo hi H Q := by
  refine ⟨a, xs, rfl, SqT.of h, fun hw => ?_, fun _ p np => k p _ upd_same (same_up np)⟩
  refine k a H ?_ (Same.refl _)
  rw [h]
  unfold cutV
  rw [hw.1, hw.2, List.drop_zero, Nat.sub_zero, List.take_length]
theorem cut_one (xs : List V) : cutV xs none (some 1) = xs.take 1 := by
  cases xs with
  | nil => simp [cutV]
  | cons x r =>
    have := cut_to (x :: r) (i := 1) (by simp)
    exact this
theorem take_one {xs : List V} {i : Nat} {z : V} (h : (xs.take 1)[i]? = some z) : i = 0 ∧ xs[0]? = some z := by
  have hi : i < (xs.take 1).length := (List.getElem?_eq_some_iff.mp h).1
  rw [List.length_take] at hi
  have h0 : i = 0 := by omega
  subst h0
  refine ⟨rfl, ?_⟩
  rw [List.getElem?_take] at h
  simpa using h
def spAskOf (CF CB : Addr) : Sp := fun vs H Q _ => ∃ (vb v : V) (a : Nat) (b : Bool) (ps : List Str) (fns : List Fn) (k : Kd) (os : List Ex), vs = [vb, v, .int (a : Int), .bl b] ∧ BookAt CF CB H vb fns ∧ KitW ps fns ∧ InE H (.nd k os) v ∧ KdW ps fns k os.length ∧ ∀ (c : Bool) H', Same H H' → Q (.bl c) H'
def spUnask (CF CB CS : Addr) (N : Nat) : Sp := fun vs H Q _ => ∃ (vb v : V) (b : Bool) (ps : List Str) (fns : List Fn) (mk : List (List Nat)) (e : Ex) (p : List Nat) (n : Nat), vs = [vb, v, .bl b] ∧ BookAt CF CB H vb fns ∧ KitW ps fns ∧ SpanAt CS mk H e p n v ∧ ExW ps fns e ∧ e.depth ≤ N ∧ n + e.steps ≤ 1900 ∧ ∀ (x : Int) H', Same H H' → Q (.int x) H'
theorem depth_pos1 (e : Ex) : 1 ≤ e.depth := by
  cases e <;> simp only [Ex.depth] <;> omega
theorem no_unask {CF CB CS : Addr} {N : Nat} (h : N = 0) : ∀ vs H Q E, ¬ spUnask CF CB CS N vs H Q E := fun vs H Q E q => by
  obtain ⟨_, _, _, _, _, _, e, _, _, _, _, _, _, _, hd, _⟩ := q
  have := depth_pos1 e
  omega
section
variable {P : Program} {w : World} {K : PySem.W.Frag} {mg : Str → Option Value} {base : Heap} {X : Cx}
theorem scAskOf : FnScope ["book", "form", "at", "is_asked"] ["book", "form", "at", "is_asked"] (defScope sAskOf) := ⟨rfl, rfl, rfl, by decide +kernel, rfl, by decide +kernel, by decide +kernel⟩
theorem ok_askof {CF CB f fi fg : Addr} {fd fdi fdg : FuncData} (F : Fun K "is_asked_of" "is_asked_of" sAskOf f fd) (TF' : TxF K CF) (ml : mg "len" = none)
    (GI : FnOk P w K mg base CX0 2 fi fdi ["node"] spIsGuard) (kI : PySem.W.keepIn K (.ref fi) = true) (bI : Binds K fdi ["node"] []) (mI : mg "is_guard" = some (.ref fi))
    (GG : FnOk P w K mg base CX0 6 fg fdg ["self", "at"] (spBGet CF CB)) (DG : Dun K CB "__getitem__" fg) (fnG : PySem.W.fnIn K fg = true) (bG : Binds K fdg ["self", "at"] []) : FnOk P w K mg base CX0 8 f fd ["book", "form", "at", "is_asked"] (spAskOf CF CB) := by
  refine F.ok scAskOf (fun vs H Q E h => ?_) (fun cdv A outer s H vs Q E hr h => ?_)
  · obtain ⟨vb, v, a, b, ps, fns, k, os, rfl, _⟩ := h
    rfl
  obtain ⟨vb, v, a, b, ps, fns, k, os, rfl, hB, kw, ie, hk, q⟩ := h
  have hr2 : Room 2 _ := hr.mono (by decide)
  refine ⟨_, (pss_cons (ps_if (PW.pt (pw_or (pt_cmpR op_eq (pe_ix ix_tup (pv 1) pe_int (fun _ _ => rfl)) pe_str (nomark _)) (pw_or1 (PW.pt (pw_and (pt_val (pe_call GI hr2 rfl mI kI bI .nil pass0 (pa_cons (pv 1) pa_nil))) (pw_and1 (pt_cmpR op_eq (pv 2) pe_int (nomark _)))))))) (pss_one (ps_ret pe_bl)) pss_nil)
    (pss_cons (ps_if (pt_cmpR op_eq (pe_ix ix_tup (pv 1) pe_int (fun _ _ => rfl)) pe_str (nomark _)) (pss_one (ps_ret (pe_and (pv 3) (pe_one (pe_cmpR op_eq (pv 2) pe_int (nomark _)))))) pss_nil)
    (pss_one (ps_ret (pe_or (pv 3) (pe_one (pe_and (pe_cmpR op_eq (pe_ix ix_tup (pv 1) pe_int (fun _ _ => rfl)) pe_str (nomark _)) (pe_one (pe_cmpR op_gt (pe_callB call_len_seq (by rfl) ml PySem.boot_len (pa_cons (pe_fld (pe_ixO GG hr DG fnG bG pass0 (pv 0) (pe_ix ix_tup (pv 1) pe_int (fun _ _ => rfl))) rfl) pa_nil)) pe_int (nomark _)))))))))), ?_⟩
  have ie0 := ie
  unfold InE at ie
  obtain ⟨pn, wf, rfl, ios, na⟩ := ie
  obtain ⟨tl, ht⟩ := na.tup
  refine ⟨_, rfl, pn, _, _, _, rfl, rfl, SqT.of ht, at0 _ _, rfl, _, rfl, ?_⟩
  by_cases h1 : V.str k.word = V.str "store"
  · exact iteYes h1 (q true H (Same.refl _))
  refine iteNo h1 ⟨_, rfl, _, _, rfl, ie0, _, rfl, ?_⟩
  cases hg : Ex.gd (.nd k os)
  case' true =>
    refine iteT ⟨_, rfl, rfl, _, rfl, ?_⟩
    by_cases h2 : V.int (a : Int) = V.int 0
    · exact iteYes h2 (q true H (Same.refl _))
    refine iteNo h2 ?_
  case' false => refine iteF ?_
  all_goals
    refine ⟨_, rfl, pn, _, _, _, rfl, rfl, SqT.of ht, at0 _ _, rfl, _, rfl, ?_⟩
    by_cases h3 : V.str k.word = V.str "then"
    · refine iteYes h3 ⟨_, rfl, ?_⟩
      cases b with
      | false => exact ⟨_, rfl, iteF (q false H (Same.refl _))⟩
      | true => exact ⟨_, rfl, iteT ⟨_, rfl, rfl, q _ H (Same.refl _)⟩⟩
    refine iteNo h3 ⟨_, rfl, ?_⟩
    cases b with
    | true => exact ⟨_, rfl, iteT (q true H (Same.refl _))⟩
    | false =>
      refine ⟨_, rfl, iteF ⟨_, rfl, pn, _, _, _, rfl, rfl, SqT.of ht, at0 _ _, rfl, _, rfl, ?_⟩⟩
      by_cases h4 : V.str k.word = V.str "call"
      · refine iteYes h4 ?_
        have hc : ∃ f, k = .call f := by
          cases k <;> first | exact ⟨_, rfl⟩ | (exfalso; revert h4; simp only [Kd.word]; decide +kernel)
        obtain ⟨fc, rfl⟩ := hc
        obtain ⟨fn, hfn, rfl, _⟩ := kdW_call hk
        obtain ⟨qa, hq1, _⟩ := na
        obtain ⟨b0, dxb, fsb, tf, rows, fns', rfl, g1, g2, g3, g4, g5⟩ := id hB
        refine ⟨_, rfl, _, rfl, pn, _, _, _, rfl, rfl, SqT.of hq1, at1 _ _ _, b0, dxb, fsb, rfl, g1, _, fn, fns, rfl, hB, Nat.le_trans kw.fl (by decide), hfn, kw.fnd, kw.fok, fun v' H2 hfa s2 => ?_⟩
        obtain ⟨pf, dxf, fsf, vr, vs', rfl, f1, f2, f3, f4, f5, f6, f7⟩ := hfa
        obtain ⟨qs, rfl, hqs⟩ := f7
        refine ⟨pf, CF, dxf, fsf, _, rfl, f1, TF'.cl, TF'.nS, f5, qs, _, rfl, .inr (SqT.of hqs), _, _, rfl, rfl, q _ H2 s2⟩
      · exact iteNo h4 (q false H (Same.refl _))
theorem scUnask : FnScope ["book", "span", "is_asked", "form", "found", "step", "at", "one"] ["book", "span", "is_asked"] (defScope sUnask) := ⟨rfl, rfl, rfl, by decide +kernel, rfl, by decide +kernel, by decide +kernel⟩
theorem ok_unask {CF CB CS f fa : Addr} {fd fda : FuncData} {N L : Nat} (F : Fun K "unasked_within" "unasked_within" sUnask f fd) (hL : 8 ≤ L) (T : TxS K CS) (men : mg "enumerate" = none)
    (GA : FnOk P w K mg base CX0 8 fa fda ["book", "form", "at", "is_asked"] (spAskOf CF CB)) (kA : PySem.W.keepIn K (.ref fa) = true) (bA : Binds K fda ["book", "form", "at", "is_asked"] []) (mA : mg "is_asked_of" = some (.ref fa))
    (GN : FnOk P w K mg base CX0 L f fd ["book", "span", "is_asked"] (spUnask CF CB CS N)) (kN : PySem.W.keepIn K (.ref f) = true) (bN : Binds K fd ["book", "span", "is_asked"] []) (mN : mg "unasked_within" = some (.ref f)) : FnOk P w K mg base CX0 (L + 1) f fd ["book", "span", "is_asked"] (spUnask CF CB CS (N + 1)) := by
  refine F.ok scUnask (fun vs H Q E h => ?_) (fun cdv A outer s H vs Q E hr h => ?_)
  · obtain ⟨vb, v, b, ps, fns, mk, e, p, n, rfl, _⟩ := h
    rfl
  obtain ⟨vb, v, b, ps, fns, mk, e, p, n, rfl, hB, kw, hs, ew, hd, hst, q⟩ := h
  have hr8 : Room 8 _ := hr.mono hL
  refine ⟨_, (pss_cons (ps_set (i := 3) scUnask.nd rfl (.inl rfl) (pe_fld (pv 1) rfl))
    (pss_cons (ps_set (i := 4) scUnask.nd rfl (.inl rfl) pe_int)
    (pss_cons (ps_for PassesOwn.never rfl (pi_tup (pe_slice sl_tupA (pe_fld (pv 1) rfl) po_none (po_some pe_int))) (pg_name (i := 5) scUnask.nd rfl (Or.inl rfl)) (pss_one (ps_if (PW.pt (pw_and (pt_not (pt_val (pv 2))) (pw_and1 (pt_cmpR op_ne (pe_ix ix_tup (pv 3) pe_int (fun _ _ => rfl)) pe_str (nomark _))))) (pss_one (ps_set (i := 4) scUnask.nd rfl (.inl rfl) (pe_op op_or (pv 4) (pe_op op_oneShl pe_int (pv 5))))) pss_nil)))
    (pss_cons (ps_for PassesOwn.never rfl (pi_enumT (by rfl) men (pa_cons (pe_fld (pv 1) rfl) pa_nil)) (pg_tup rfl (pgs_cons (pg_name (i := 6) scUnask.nd rfl (Or.inl rfl)) (pgs_cons (pg_name (i := 7) scUnask.nd rfl (Or.inl rfl)) pgs_nil))) (pss_one (ps_set (i := 4) scUnask.nd rfl (.inl rfl) (pe_op op_or (pv 4) (pe_call GN hr rfl mN kN bN .nil pass0 (pa_cons (pv 0) (pa_cons (pv 7) (pa_cons (pe_call GA hr8 rfl mA kA bA .nil pass0 (pa_cons (pv 0) (pa_cons (pv 3) (pa_cons (pv 6) (pa_cons (pv 2) pa_nil))))) pa_nil))))))))
    (pss_one (ps_ret (pv 4))))))), ?_⟩
  obtain ⟨ws, ⟨a0, dx, fs, vp, vf, tb, to, rfl, h1, hf, h2, h3, h4, h5⟩, hbs⟩ := hs.obj
  have hlen := hbs.length
  have hso := steps_own e
  have hol := own_steps_le e
  refine ⟨_, rfl, a0, CS, dx, fs, _, rfl, h1, T.cl, T.nF, hf.f, ?_⟩
  refine ⟨_, rfl, a0, CS, dx, fs, _, rfl, h1, T.cl, T.nO, hf.o, _, rfl, ?_⟩
  refine slice_any (K := K) h5 fun to1 H1 eo1 s1 => ?_
  rw [cut_one] at eo1
  refine ⟨to1, rfl, ⟨_, SqT.of eo1⟩, ?_⟩
  refine for_tup (K := K) (a := to1) (xs := (nv_ (e.owns n)).take 1) (fun i σ H' => ∃ (x : Int) (o5 : Option V), σ = [some vb, some (.ref a0), some (.bl b), some vf, some (.int x), o5, none, none] ∧ H' = H1) ⟨0, none, rfl, rfl⟩ (fun i σ H' _ ⟨_, _, _, e'⟩ => by rw [e']; exact SqT.of eo1) ?_ ?_
  · rintro i u σ H2 hi ⟨x, o5, rfl, rfl⟩
    obtain ⟨rfl, hu⟩ := take_one hi
    have hown : 0 < e.own := by
      have := (List.getElem?_eq_some_iff.mp hu).1
      rwa [owns_len] at this
    have hz : u = .int ((n + Ex.stepss e.ops + 0 : Nat) : Int) := Option.some.inj (hu.symm.trans (owns_get e n 0 hown))
    subst hz
    refine ⟨_, rfl, _, rfl, ?_⟩
    cases b with
    | true => exact iteF ⟨x, some (.int ((n + Ex.stepss e.ops + 0 : Nat) : Int)), rfl, rfl⟩
    | false =>
      refine iteT ?_
      have hnd : ∃ (k : Kd) (os : List Ex), e = .nd k os := by
        cases e with
        | num c => exact absurd hown (by simp [Ex.own])
        | nd k os => exact ⟨k, os, rfl⟩
      obtain ⟨k, os, rfl⟩ := hnd
      have h3' := h3.keep (same_t s1)
      unfold InE at h3'
      obtain ⟨pn, wf, rfl, ios, na⟩ := h3'
      obtain ⟨tl, ht⟩ := na.tup
      refine ⟨_, rfl, pn, _, _, _, rfl, rfl, SqT.of ht, at0 _ _, rfl, _, rfl, ?_⟩
      by_cases hw : V.str k.word = V.str "step"
      · rw [decide_eq_true hw]
        exact iteF ⟨x, some (.int ((n + Ex.stepss (Ex.ops (.nd k os)) + 0 : Nat) : Int)), rfl, rfl⟩
      · rw [decide_eq_false hw]
        refine iteT ⟨_, rfl, _, rfl, _, rfl, rfl, by omega, _, _, rfl, rfl, ?_⟩
        exact ⟨_, some (.int ((n + Ex.stepss (Ex.ops (.nd k os)) + 0 : Nat) : Int)), rfl, rfl⟩
  rintro σ H2 ⟨x, o5, rfl, rfl⟩
  have h11 := s1 _ _ h1
  have h41 := s1 _ _ h4
  refine ⟨_, rfl, a0, CS, dx, fs, _, rfl, h11, T.cl, T.nB, hf.b, tb, ws, rfl, SqT.of h41, ?_⟩
  refine for_it walk_enumU (fun i σ H' => ∃ (x : Int) (o6 o7 : Option V), σ = [some vb, some (.ref a0), some (.bl b), some vf, some (.int x), o5, o6, o7] ∧ Same H H') ⟨x, none, none, rfl, s1⟩ (fun i σ H' _ ⟨_, _, _, _, z⟩ => SqT.of (z _ _ h4)) ?_ ?_
  · rintro i u σ H3 H4 hi ⟨x, o6, o7, rfl, s3⟩ ⟨T0, x', y', rfl, nT, rfl, hx, hy⟩
    have hx' : x' = .int (i : Int) := (Option.some.inj hx).symm
    subst hx'
    have hio : i < e.ops.length := by omega
    obtain ⟨v', hv', sv'⟩ := hbs.get i hio
    have : y' = v' := Option.some.inj (hy.symm.trans hv')
    subst this
    have sT := same_up (o := .tup [V.int (i : Int), y']) nT
    have s4 := s3.trans sT
    have hnd : ∃ (k : Kd) (os : List Ex), e = .nd k os := by
      cases e with
      | num c => exact absurd hio (by simp [Ex.ops])
      | nd k os => exact ⟨k, os, rfl⟩
    obtain ⟨k, os, rfl⟩ := hnd
    have hk : KdW ps fns k os.length := by unfold ExW at ew; exact ew.1
    have hdi := depth_ops hio
    have hch := stepss_child (Ex.ops (.nd k os)) i hio
    have hoo := opsteps_le (.nd k os)
    refine ⟨T0, _, rfl, SqT.of upd_same, rfl, _, _, rfl, _, _, rfl, rfl, ?_⟩
    refine ⟨_, rfl, _, rfl, _, rfl, _, rfl, _, rfl, _, rfl, _, rfl, vb, vf, i, b, ps, fns, k, os, rfl, hB.keep s4, kw, h3.keep (same_t s4), hk, fun c H5 s5 => ?_⟩
    have s45 := s4.trans s5
    refine ⟨vb, y', c, ps, fns, mk, (Ex.ops (.nd k os))[i], p ++ [0 + i], n + Ex.stepss ((Ex.ops (.nd k os)).take i), rfl, hB.keep s45, kw, sv'.keep (KI.same s45) _ _ _ _, ?_, by omega, by omega, fun z H6 s6 => ?_⟩
    · unfold ExW at ew
      exact ExWs.get ew.2 i hio
    exact ⟨_, _, rfl, rfl, _, some (.int (i : Int)), some y', rfl, s45.trans s6⟩
  · rintro σ H3 ⟨x, o6, o7, rfl, s3⟩
    exact ⟨_, rfl, q x H3 s3⟩
end
end Oo
namespace Oo
open PySem L2 PyProof.Rows LamX StX ClX
abbrev sLay : Stmt := top 57
abbrev sLInit : Stmt := inClass sLay 0
theorem pi_as {X : Cx} {tg e : Expr} {wi wi' : TI} (h : PI X tg e wi) (i : ∀ σ H R, wi' σ H R → wi σ H R) : PI X tg e wi' := ⟨fun pins s σ H R I q => h.run pins s σ H R I (i σ H R q)⟩
theorem BookAt.but {CF CB C p dx0 : Addr} {H H' : Hp} {v : V} {fns : List Fn} (h : BookAt CF CB H v fns) (hp : H p = some (.ins C dx0 [])) (b : But p H H') : BookAt CF CB H' v fns := by
  obtain ⟨b0, dx, fs, tf, rows, fns', e, h1, h2, h3, h4, h5⟩ := h
  refine ⟨b0, dx, fs, tf, rows, fns', e, b _ _ (fun w => ?_) h1, h2, b _ _ (fun w => by rw [w, hp] at h3; cases h3) h3, L2.Paired.mapP h4 fun x y z => z.but hp b, h5⟩
  rw [w, hp] at h1
  cases h1
  cases h2
theorem But.tup {CT p dx0 : Addr} {H H' : Hp} (b : But p H H') {fs : List (Str × V)} (hp : H p = some (.ins CT dx0 fs)) : ∀ q xs, H q = some (.tup xs) → H' q = some (.tup xs) := fun q xs z => b _ _ (fun w => by rw [w, hp] at z; cases z) z
structure TxL (K : PySem.W.Frag) (C : Addr) : Prop where
  cl : Cls K C
  nR : NoAttr K C "root"
  nS : NoAttr K C "spans"
  nO : NoAttr K C "owners"
  nT : NoAttr K C "steps"
  nB : NoAttr K C "befores"
  nE : NoAttr K C "besides"
  nG : NoAttr K C "guard"
  nH : NoAttr K C "stored"
  nU : NoAttr K C "unasked"
structure LayFs (fs : List (Str × V)) (vr : V) (tsp tow tst tb te : Addr) (vg : V) : Prop where
  r : fs.lookup ("root" : Str) = some vr
  s : fs.lookup ("spans" : Str) = some (.ref tsp)
  o : fs.lookup ("owners" : Str) = some (.ref tow)
  t : fs.lookup ("steps" : Str) = some (.ref tst)
  b : fs.lookup ("befores" : Str) = some (.ref tb)
  e : fs.lookup ("besides" : Str) = some (.ref te)
  g : fs.lookup ("guard" : Str) = some vg
def OwnRow (CS : Addr) (mk : List (List Nat)) (H : Hp) (row : List V) (e : Ex) : Prop := row.length = e.steps ∧ ∀ j, j < e.steps → ∃ v x, row[j]? = some v ∧ x ∈ e.spn [] 0 ∧ SpanR CS mk H v x ∧ j ∈ x.own
def GuardV (H : Hp) (vg : V) : List (List Nat) → Prop
  | [] => vg = .non
  | p :: _ => PathAt H vg p
structure LayO (CS : Addr) (H : Hp) (fs : List (Str × V)) (fns : List Fn) (e : Ex) (mk : List (List Nat)) (vr : V) (tsp tow tst tb te : Addr) (vg : V) (rsp row rst rb re : List V) : Prop where
  f : LayFs fs vr tsp tow tst tb te vg
  r : SpanAt CS mk H e [] 0 vr
  s : H tsp = some (.tup rsp)
  sp : Paired (SpanR CS mk H) rsp (e.spn [] 0)
  o : H tow = some (.tup row)
  oo : OwnRow CS mk H row e
  t : H tst = some (.tup rst)
  tp : Paired (StepAt H) rst (e.stepL fns [])
  b : H tb = some (.tup rb)
  bs : SetRow rb e.steps (e.prec mk [] 0)
  be : H te = some (.tup re)
  es : SetRow re e.steps (e.opn mk [] 0)
  g : GuardV H vg e.guards
def LayAt (CS CL : Addr) (H : Hp) (v : V) (fns : List Fn) (e : Ex) (mk : List (List Nat)) : Prop := ∃ (a dx : Addr) (fs : List (Str × V)) (vr : V) (tsp tow tst tb te : Addr) (vg : V) (rsp row rst rb re : List V), v = .ref a ∧ H a = some (.ins CL dx fs) ∧ LayO CS H fs fns e mk vr tsp tow tst tb te vg rsp row rst rb re
theorem LayO.keep {CS : Addr} {H H' : Hp} {fs : List (Str × V)} {fns : List Fn} {e : Ex} {mk : List (List Nat)} {vr : V} {tsp tow tst tb te : Addr} {vg : V} {rsp row rst rb re : List V} (h : LayO CS H fs fns e mk vr tsp tow tst tb te vg rsp row rst rb re) (k : KI CS H H') : LayO CS H' fs fns e mk vr tsp tow tst tb te vg rsp row rst rb re :=
  ⟨h.f, h.r.keep k _ _ _ _, k.1 _ _ h.s, L2.Paired.mapP h.sp fun a b z => z.keep k, k.1 _ _ h.o, ⟨h.oo.1, fun j hj => let ⟨v, x, h1, h2, h3, h4⟩ := h.oo.2 j hj; ⟨v, x, h1, h2, h3.keep k, h4⟩⟩, k.1 _ _ h.t, L2.Paired.mapP h.tp fun a b z => z.keep k.1, k.1 _ _ h.b, h.bs, k.1 _ _ h.be, h.es, by
    have := h.g
    generalize e.guards = gs at this ⊢
    cases gs with
    | nil => exact this
    | cons p r => exact PathAt.keep k.1 this⟩
/-- layouts stay -/
def KL (CL : Addr) (H H' : Hp) : Prop := ∀ q dx fs v, fs.lookup ("root" : Str) = some v → H q = some (.ins CL dx fs) → H' q = some (.ins CL dx fs)
theorem KL.but {CL C p dx0 : Addr} {fs0 : List (Str × V)} {H H' : Hp} (hp : H p = some (.ins C dx0 fs0)) (b : But p H H') (h0 : fs0.lookup ("root" : Str) = none := by rfl) : KL CL H H' :=
  fun q dx fs v y z => b _ _ (fun w => by rw [w, hp] at z; cases z; rw [h0] at y; cases y) z
theorem LayAt.keepN {CS CL : Addr} {H H' : Hp} {v : V} {fns : List Fn} {e : Ex} {mk : List (List Nat)} (h : LayAt CS CL H v fns e mk) (k : KI CS H H') (k2 : KL CL H H') : LayAt CS CL H' v fns e mk := by
  obtain ⟨a, dx, fs, vr, tsp, tow, tst, tb, te, vg, rsp, row, rst, rb, re, rfl, h1, h2⟩ := h
  exact ⟨a, dx, fs, vr, tsp, tow, tst, tb, te, vg, rsp, row, rst, rb, re, rfl, k2 _ _ _ _ h2.f.r h1, h2.keep k⟩
def iOwnS (CS : Addr) (mk : List (List Nat)) (K : PySem.W.Frag) : TI := fun σ H R => ∃ v x, σ[6]? = some (some v) ∧ SpanR CS mk H v x ∧ ∀ q, H q = some (.tup (nv_ x.own)) → R (Itt K q) H
def ttGd (CS : Addr) (mk : List (List Nat)) : TT := fun σ H Q => ∃ v x, σ[6]? = some (some v) ∧ SpanR CS mk H v x ∧ Q x.2.1.gd H
def tePath (CS : Addr) (mk : List (List Nat)) : TE := fun σ H Q => ∃ v x, σ[6]? = some (some v) ∧ SpanR CS mk H v x ∧ ∀ vp, PathAt H vp x.1 → Q vp H
def teOwner : TE := fun σ H Q => ∃ (d : Addr) (kvs : List (Key × V)) (j : Nat) (v : V), σ[5]? = some (some (.ref d)) ∧ σ[7]? = some (some (.int (0 + (j : Int)))) ∧ H d = some (.dK kvs) ∧ valV kvs (Sum.inl (j : Int)) = some v ∧ Q v H
def teStep (CF CB CS : Addr) (mk : List (List Nat)) (fns : List Fn) : TE := fun σ H Q => ∃ (vb v : V) (ps : List Str) (k : Kd) (os : List Ex) (p : List Nat) (n a : Nat) (r : StepR), σ[1]? = some (some vb) ∧ σ[6]? = some (some v) ∧ σ[7]? = some (some (.int ((n + Ex.stepss os + a : Nat) : Int))) ∧ BookAt CF CB H vb fns ∧ KitW ps fns ∧ SpanAt CS mk H (.nd k os) p n v ∧ ExW ps fns (.nd k os) ∧
  (ownSteps fns p k)[a]? = some r ∧ ∀ u H', StepAt H' u r → Same H H' → Q u H'
/-- the pairs that the comprehension has made so far -/
structure DictOk (CS : Addr) (mk : List (List Nat)) (H : Hp) (e : Ex) (kvs : List (Key × V)) (ks : List Nat) : Prop where
  k : kvs.map (·.1) = ks.map fun (k : Nat) => (Sum.inl (k : Int) : Key)
  v : ∀ q ∈ kvs, ∃ x ∈ e.spn [] 0, SpanR CS mk H q.2 x ∧ ∃ k ∈ x.own, q.1 = Sum.inl ((k : Nat) : Int)
theorem DictOk.fresh {CS : Addr} {mk : List (List Nat)} {H : Hp} {e : Ex} {kvs : List (Key × V)} {ks : List Nat} (d : DictOk CS mk H e kvs ks) {j : Nat} (h : j ∉ ks) : valV kvs (Sum.inl (j : Int)) = none := by
  unfold valV
  rw [Option.map_eq_none_iff, List.find?_eq_none]
  intro q hq hd
  have hd : q.1 = Sum.inl (j : Int) := of_decide_eq_true hd
  have : q.1 ∈ kvs.map (·.1) := List.mem_map.mpr ⟨q, hq, rfl⟩
  rw [d.k] at this
  obtain ⟨k, hk, e1⟩ := List.mem_map.mp this
  rw [hd] at e1
  injection e1 with e1
  have : k = j := by omega
  exact h (this ▸ hk)
theorem DictOk.get {CS : Addr} {mk : List (List Nat)} {H : Hp} {e : Ex} {kvs : List (Key × V)} {ks : List Nat} (d : DictOk CS mk H e kvs ks) {j : Nat} (h : j ∈ ks) : ∃ v x, valV kvs (Sum.inl (j : Int)) = some v ∧ x ∈ e.spn [] 0 ∧ SpanR CS mk H v x ∧ j ∈ x.own := by
  have h1 : (Sum.inl (j : Int) : Key) ∈ kvs.map (·.1) := by rw [d.k]; exact List.mem_map.mpr ⟨j, h, rfl⟩
  obtain ⟨q0, hq0, e0⟩ := List.mem_map.mp h1
  have h2 : (kvs.find? fun kv => decide (kv.1 = Sum.inl (j : Int))).isSome := by
    rw [List.find?_isSome]
    exact ⟨q0, hq0, decide_eq_true e0⟩
  obtain ⟨q, hq⟩ := Option.isSome_iff_exists.mp h2
  have hm := List.mem_of_find?_eq_some hq
  have hp : q.1 = Sum.inl (j : Int) := by
    have := List.find?_some hq
    exact of_decide_eq_true this
  obtain ⟨x, hx, hs, k, hk, e1⟩ := d.v q hm
  refine ⟨q.2, x, by unfold valV; rw [hq]; rfl, hx, hs, ?_⟩
  rw [hp] at e1
  injection e1 with e1
  have : j = k := by omega
  exact this ▸ hk
theorem DictOk.put {CS : Addr} {mk : List (List Nat)} {H : Hp} {e : Ex} {kvs : List (Key × V)} {ks : List Nat} (d : DictOk CS mk H e kvs ks) {j : Nat} (h : j ∉ ks) {v : V} {x : Trip} (hx : x ∈ e.spn [] 0) (hs : SpanR CS mk H v x) (hj : j ∈ x.own) : DictOk CS mk H e (putK kvs (Sum.inl (j : Int)) v) (ks ++ [j]) := by
  rw [putK_new v (d.fresh h)]
  refine ⟨by rw [List.map_append, List.map_append, d.k]; rfl, fun q hq => ?_⟩
  rcases List.mem_append.mp hq with hq | hq
  · exact d.v q hq
  · rw [List.mem_singleton.mp hq]
    exact ⟨x, hx, hs, j, hj, rfl⟩
theorem DictOk.len {CS : Addr} {mk : List (List Nat)} {H : Hp} {e : Ex} {kvs : List (Key × V)} {ks : List Nat} (d : DictOk CS mk H e kvs ks) : kvs.length = ks.length := by
  have := congrArg List.length d.k
  rwa [List.length_map, List.length_map] at this
def ttSto : TT := fun σ H Q => ∃ (v : V) (r : StepR), σ[9]? = some (some v) ∧ StepAt H v r ∧ ∀ b : Bool, Q b H
def teShl : TE := fun σ H Q => ∃ j : Nat, σ[7]? = some (some (.int (j : Int))) ∧ j ≤ 9000 ∧ Q (.int (2 ^ j)) H
def spLInit (K : PySem.W.Frag) (CF CB CS CL : Addr) (N : Nat) : Sp := fun vs H Q _ => ∃ (a dx : Addr) (vb ve : V) (tp : Addr) (rp : List V) (mk : List (List Nat)) (e : Ex) (ps : List Str) (fns : List Fn), vs = [.ref a, vb, ve, .ref tp] ∧ H a = some (.ins CL dx []) ∧ BookAt CF CB H vb fns ∧ KitW ps fns ∧ InE H e ve ∧ ExW ps fns e ∧ e.depth ≤ N ∧ e.depth ≤ 80 ∧ e.nodes ≤ 200 ∧ SqT K H tp rp ∧ Paired (PathAt H) rp mk ∧
  ∀ H', LayAt CS CL H' (.ref a) fns e mk → But a H H' → Q .non H'
section
variable {P : Program} {w : World} {K : PySem.W.Frag} {mg : Str → Option Value} {base : Heap} {X : Cx}
theorem scLInit : FnScope ["self", "book", "expression", "points", "spans", "owners", "span", "step", "guards", "row"] ["self", "book", "expression", "points"] (defScope sLInit) := ⟨rfl, rfl, rfl, by decide +kernel, rfl, by decide +kernel, by decide +kernel⟩
theorem ok_linit {N : Nat} {CF CB CS CL f fs_ fw fg ft fr : Addr} {fd fds fdw fdg fdt fdr fdu : FuncData} {fu : Addr} {dvs : List V} {kws : List (Str × V)} (F : FunD K "__init__" "Layout.__init__" (defArgs sLInit) (defBody sLInit) (defScope sLInit) dvs kws f fd) (T : TxS K CS) (L : TxL K CL) (ml : mg "len" = none) (mt : mg "tuple" = none) (mr : mg "range" = none) (men : mg "enumerate" = none)
    (GS : FnOk P w K mg base CX0 (N + 4) fs_ fds ["node", "path", "first", "points"] (spSpanOf K CS N)) (kS : PySem.W.keepIn K (.ref fs_) = true) (bS : Binds K fds ["node", "path", "first", "points"] []) (mS : mg "span_of" = some (.ref fs_))
    (GW : FnOk P w K mg base CX0 1 fw fdw ["root"] (spWithin CS)) (kW : PySem.W.keepIn K (.ref fw) = true) (bW : Binds K fdw ["root"] []) (mW : mg "spans_within" = some (.ref fw))
    (GG : FnOk P w K mg base CX0 2 fg fdg ["node"] spIsGuard) (kG : PySem.W.keepIn K (.ref fg) = true) (bG : Binds K fdg ["node"] []) (mG : mg "is_guard" = some (.ref fg))
    (GT : FnOk P w K mg base CX0 8 ft fdt ["book", "span", "step"] (spStepOf CF CB CS)) (kT : PySem.W.keepIn K (.ref ft) = true) (bT : Binds K fdt ["book", "span", "step"] []) (mT : mg "step_of" = some (.ref ft))
    (GR : FnOk P w K mg base CX0 4 fr fdr ["root"] (spRel CS)) (kR : PySem.W.keepIn K (.ref fr) = true) (bR : Binds K fdr ["root"] []) (mR : mg "relations" = some (.ref fr)) (msu : mg "sum" = none)
    (GU : FnOk P w K mg base CX0 (N + 8) fu fdu ["book", "span", "is_asked"] (spUnask CF CB CS N)) (kU : PySem.W.keepIn K (.ref fu) = true) (bU : Binds K fdu ["book", "span", "is_asked"] []) (mU : mg "unasked_within" = some (.ref fu)) :
    FnOk P w K mg base CX0 (N + 9) f fd ["self", "book", "expression", "points"] (spLInit K CF CB CS CL N) := by
  refine FunD.ok0 F scLInit (fun vs H Q E h => ?_) (fun cdv A outer s H vs Q E hr h => ?_)
  · obtain ⟨a, dx, vb, ve, tp, rp, mk, e, ps, fns, rfl, _⟩ := h
    rfl
  obtain ⟨a, dx, vb, ve, tp, rp, mk, e, ps, fns, rfl, ea, hB, kw, ie, ew, hd, hd80, hn, etp, pmk, q⟩ := h
  have hrS : Room (N + 4) _ := hr.mono (by omega)
  have hr8 : Room 8 _ := hr.mono (by omega)
  have hrU : Room (N + 8) _ := hr
  have hr4 : Room 4 _ := hr.mono (by omega)
  have hr2 : Room 2 _ := hr.mono (by omega)
  have hr1 : Room 1 _ := hr.mono (by omega)
  have hu := hu_of hr
  refine ⟨_, (pss_cons (ps_fld (pv 0) (pe_call GS hrS rfl mS kS bS .nil pass0 (pa_cons (pv 2) (pa_cons (pe_tup pa_nil) (pa_cons pe_int (pa_cons (pv 3) pa_nil))))) rfl)
    (pss_cons (ps_set (i := 4) scLInit.nd rfl (.inl rfl) (pe_call GW hr1 rfl mW kW bW .nil pass0 (pa_cons (pe_fld (pv 0) rfl) pa_nil)))
    (pss_cons (ps_set (i := 5) scLInit.nd rfl (.inr rfl) (pe_dc2 (own := [("span", 6), ("step", 7)]) (vs1 := [7]) (h0 := gName 6) (h1 := gName 7) (u0 := tYes) (u1 := tYes) (wi1 := iOwnS CS mk K) (tk := tVar 7) (tv := tVar 6) (by rfl) scLInit.nd (pi_list (pv 4)) (blkOk_by (own := [("span", 6), ("step", 7)]) (N := ["self", "book", "expression", "points", "spans", "owners", "span", "step", "guards", "row"]) (sc := defScope sLInit) (by decide +kernel)) (by decide) (fun _ _ _ _ _ => (pg_name (i := 6) scLInit.nd rfl (Or.inl rfl))) (fun _ _ _ _ _ => pts_nil) (fun _ _ _ _ _ => (pi_as (pi_tup (pe_fld (pv 6) rfl)) ?c1)) (fun _ _ _ _ _ => (pg_name (i := 7) scLInit.nd rfl (Or.inl rfl))) (fun _ _ _ _ _ => pts_nil) (fun _ _ _ _ _ => (pv 7)) (fun _ _ _ _ _ => (pv 6))))
    (pss_cons (ps_setLc (i := 8) (own := [("span", 6)]) (g := gName 6) (by rfl) scLInit.nd rfl rfl (sw_true rfl rfl rfl (by decide +kernel)) (pi_list (pv 4)) (blkOk_by (own := [("span", 6)]) (N := ["self", "book", "expression", "points", "spans", "owners", "span", "step", "guards", "row"]) (sc := defScope sLInit) (by decide +kernel)) (fun _ _ _ _ _ => (pg_name (i := 6) scLInit.nd rfl (Or.inl rfl))) (fun _ _ _ _ _ => (pts_one (pt_as (t' := ttGd CS mk) (pt_val (pe_call GG hr2 rfl mG kG bG .nil pass0 (pa_cons (pe_fld (pv 6) rfl) pa_nil))) ?c2))) (fun _ _ _ _ _ => (pe_as (t' := tePath CS mk) (pe_fld (pv 6) rfl) ?c3)))
    (pss_cons (ps_fld (pv 0) (pe_tupleOf (by rfl) mt (pv 4)) rfl)
    (pss_cons (ps_fld (pv 0) (pe_tupleOf (by rfl) mt (pe_lc (own := [("step", 7)]) (g := gName 7) (tt := tYes) (by rfl) scLInit.nd (pi_range1 (by rfl) mr (pa_cons (pe_callB call_lenD (by rfl) ml PySem.boot_len (pa_cons (pv 5) pa_nil)) pa_nil)) (blkOk_by (own := [("step", 7)]) (N := ["self", "book", "expression", "points", "spans", "owners", "span", "step", "guards", "row"]) (sc := defScope sLInit) (by decide +kernel)) (fun _ _ _ _ _ => (pg_name (i := 7) scLInit.nd rfl (Or.inl rfl))) (fun _ _ _ _ _ => pts_nil) (fun _ _ _ _ _ => (pe_as (t' := teOwner) (pe_dget hu (pv 5) (pv 7) (fun _ _ => rfl)) ?c4)))) rfl)
    (pss_cons (ps_fld (pv 0) (pe_tupleOf (by rfl) mt (pe_lc (own := [("step", 7), ("span", 6)]) (g := gTup K 2 (gCons (gName 7) (gCons (gName 6) gNil))) (tt := tYes) (by rfl) scLInit.nd (pi_enumT (by rfl) men (pa_cons (pe_fld (pv 0) rfl) pa_nil)) (blkOk_by (own := [("step", 7), ("span", 6)]) (N := ["self", "book", "expression", "points", "spans", "owners", "span", "step", "guards", "row"]) (sc := defScope sLInit) (by decide +kernel)) (fun _ _ _ _ _ => (pg_tup rfl (pgs_cons (pg_name (i := 7) scLInit.nd rfl (Or.inl rfl)) (pgs_cons (pg_name (i := 6) scLInit.nd rfl (Or.inl rfl)) pgs_nil)))) (fun _ _ _ _ _ => pts_nil) (fun _ _ _ _ _ => (pe_as (t' := teStep CF CB CS mk fns) (pe_call GT hr8 rfl mT kT bT .nil pass0 (pa_cons (pv 1) (pa_cons (pv 6) (pa_cons (pv 7) pa_nil)))) ?c5)))) rfl)
    (pss_cons (ps_asg (pe_call GR hr4 rfl mR kR bR .nil pass0 (pa_cons (pe_fld (pv 0) rfl) pa_nil)) (pg_tup rfl (pgs_cons (pg_fld (pv 0)) (pgs_cons (pg_fld (pv 0)) pgs_nil))))
    (pss_cons (ps_fld (pv 0) (pe_callB (cr_sum rfl) (by rfl) msu (by decide +kernel) (pa_cons (pe_lc (own := [("step", 7), ("row", 9)]) (g := gTup K 2 (gCons (gName 7) (gCons (gName 9) gNil))) (by rfl) scLInit.nd (pi_enumT (by rfl) men (pa_cons (pe_fld (pv 0) rfl) pa_nil)) (blkOk_by (own := [("step", 7), ("row", 9)]) (N := ["self", "book", "expression", "points", "spans", "owners", "span", "step", "guards", "row"]) (sc := defScope sLInit) (by decide +kernel)) (fun _ _ _ _ _ => (pg_tup rfl (pgs_cons (pg_name (i := 7) scLInit.nd rfl (Or.inl rfl)) (pgs_cons (pg_name (i := 9) scLInit.nd rfl (Or.inl rfl)) pgs_nil)))) (fun _ _ _ _ _ => (pts_one (pt_as (t' := ttSto) (pt_cmpR op_eq (pe_ix ix_tup (pv 9) pe_int (fun _ _ => rfl)) pe_str (nomark _)) ?c6))) (fun _ _ _ _ _ => (pe_as (t' := teShl) (pe_op op_oneShl pe_int (pv 7)) ?c7))) pa_nil)) rfl)
    (pss_cons (ps_fld (pv 0) (pe_op op_or (pe_fld (pv 0) rfl) (pe_call GU hrU rfl mU kU bU .nil pass0 (pa_cons (pv 1) (pa_cons (pe_fld (pv 0) rfl) (pa_cons pe_bl pa_nil))))) rfl)
    (pss_one (ps_fld (pv 0) (pe_ifExp (pt_cmpR op_gt (pe_callB call_len_seq (by rfl) ml PySem.boot_len (pa_cons (pv 8) pa_nil)) pe_int (nomark _)) (pe_ix ix_list (pv 8) pe_int (fun _ _ => rfl)) pe_non) rfl)))))))))))), ?_⟩
  case c1 =>
    rintro σ H R ⟨v, x, e6, hs, k⟩
    obtain ⟨ws, ⟨a1, dx1, fs, vp, vf, tb, to, rfl, h1, hf, _, _, _, h5⟩, _⟩ := SpanAt.obj hs
    exact ⟨_, e6, a1, CS, dx1, fs, _, rfl, h1, T.cl, T.nO, hf.o, to, rfl, ⟨_, SqT.of h5⟩, k to h5⟩
  case c2 =>
    rintro σ H Q ⟨v, x, e6, hs, k⟩
    obtain ⟨ws, ⟨a1, dx1, fs, vp, vf, tb, to, rfl, h1, hf, _, h3, _, _⟩, _⟩ := SpanAt.obj hs
    exact ⟨_, e6, a1, CS, dx1, fs, _, rfl, h1, T.cl, T.nF, hf.f, _, _, rfl, h3, _, rfl, k⟩
  case c3 =>
    rintro σ H Q ⟨v, x, e6, hs, k⟩
    obtain ⟨ws, ⟨a1, dx1, fs, vp, vf, tb, to, rfl, h1, hf, h2, _⟩, _⟩ := SpanAt.obj hs
    exact ⟨_, e6, a1, CS, dx1, fs, _, rfl, h1, T.cl, T.nP, hf.p, k vp h2⟩
  case c4 =>
    rintro σ H Q ⟨d, kvs, j, v, e5, e7, hd, hv, k⟩
    refine ⟨_, e5, _, e7, d, v, rfl, ?_, k⟩
    have := DGet.k (k := Sum.inl (0 + (j : Int))) hd
    rw [show (0 + (j : Int)) = (j : Int) by omega] at this ⊢
    rw [hv] at this
    exact this
  case c5 =>
    rintro σ H Q ⟨vb, v, ps, k, os, p, n, a, r, e1, e6, e7, hB, kw, hs, ew, hr, q⟩
    exact ⟨_, e1, _, e6, _, e7, vb, v, ps, fns, mk, k, os, p, n, a, r, rfl, hB, kw, hs, ew, hr, q⟩
  case c6 =>
    rintro σ H Q ⟨v, r, e9, hv, k⟩
    obtain ⟨qa, vp, vr, vs, rfl, h1, _⟩ := hv
    exact ⟨_, e9, qa, _, _, _, rfl, rfl, SqT.of h1, at0 _ _, rfl, _, rfl, k _⟩
  case c7 =>
    rintro σ H Q ⟨j, e7, hj, k⟩
    exact ⟨_, e7, j, rfl, rfl, by omega, k⟩
  have sh := ExW.shp _ ew
  have hst := steps_le e
  -- the root
  refine ⟨_, rfl, sz (by simp), fun t0 n0 => ⟨_, rfl, ve, .ref t0, 0, tp, rp, mk, e, [], rfl, ?_⟩⟩
  have s0 := same_up (o := .tup ([] : List V)) n0
  refine ⟨ie.keep (same_t s0), sh, ⟨t0, rfl, upd_same⟩, same_seqT s0 etp, L2.Paired.mapP pmk fun a b z => z.keep (same_t s0), hd, by simp; omega, by omega, by omega, fun vr H1 hv1 s1 => ?_⟩
  have s01 := s0.trans s1
  have ea1 := s01 _ _ ea
  refine ⟨_, rfl, a, CL, dx, _, rfl, ea1, L.cl, L.nR, by simp, ?_⟩
  have b1 : But a H1 (upd H1 a (.ins CL dx (putF "root" vr []))) := fun b o nb z => by rw [upd_ne nb]; exact z
  have k1 := KI.but (CS := CS) ea1 b1
  have hv2 := hv1.keep k1 _ _ _ _
  have ea2 : (upd H1 a (.ins CL dx (putF "root" vr []))) a = some (.ins CL dx (putF "root" vr [])) := upd_same
  generalize (upd H1 a (.ins CL dx (putF "root" vr []))) = H2 at b1 k1 hv2 ea2 ⊢
  -- the spans
  refine ⟨_, rfl, a, CL, dx, _, _, rfl, ea2, L.cl, L.nR, by ((repeat (first | (rw [lookup_putF, if_pos rfl]) | rw [lookup_putF, if_neg (by decide +kernel)]))), vr, e, [], 0, mk, rfl, hv2, by omega, fun l rows H3 nl el pr s3 => ?_⟩
  have hrl : rows.length = e.nodes := by rw [pr.length, spn_len]
  -- who owns a step
  refine ⟨_, rfl, l, rfl, ⟨_, SqL.of el⟩, fun D nD => ?_⟩
  have hok := okeys_nodup e [] 0
  have hkl := okeys_len e [] 0
  refine ⟨fun i m G => m = rows.length - i ∧ i ≤ rows.length ∧ Same H3 G ∧ ∃ kvs, G D = some (.dK kvs) ∧ DictOk CS mk H3 e kvs (okeys ((e.spn [] 0).take i)), ⟨_, rfl, Nat.zero_le _, same_up nD, [], upd_same, by simp [okeys], fun q hq => by cases hq⟩, ?_⟩
  rintro i m G ⟨rfl, hi, sG, kvs, eD, dk⟩
  have hS : SqL K G l rows := SqL.of (sG _ _ el)
  have hsub : ∀ i, ∃ z, okeys ((e.spn [] 0).take i) ++ z = okeys (e.spn [] 0) := fun i => ⟨okeys ((e.spn [] 0).drop i), by rw [← okeys_append, List.take_append_drop]⟩
  by_cases hlt : i < rows.length
  · refine .inr ⟨walk_list.goes i G hlt hS, fun G' => Same H3 G' ∧ ∃ kvs, G' D = some (.dK kvs) ∧ DictOk CS mk H3 e kvs (okeys ((e.spn [] 0).take (i + 1))), fun G' h => ⟨rows.length - (i + 1), by omega, rfl, hlt, h⟩, fun u G1 hy => ?_⟩
    obtain ⟨rfl, hu⟩ := walk_list.yields i G u G1 hlt hS hy
    obtain ⟨x, hx, rx⟩ := paired_get pr hu
    have hil : i < (e.spn [] 0).length := (List.getElem?_eq_some_iff.mp hx).1
    have ex : (e.spn [] 0)[i] = x := (List.getElem?_eq_some_iff.mp hx).2
    have hxm : x ∈ e.spn [] 0 := ex ▸ List.getElem_mem _
    have htk : okeys ((e.spn [] 0).take (i + 1)) = okeys ((e.spn [] 0).take i) ++ x.own := by
      rw [take_succ_get _ i hil, okeys_append, ex]
      simp [okeys]
    have hnod : (okeys ((e.spn [] 0).take i) ++ x.own).Nodup := by
      obtain ⟨z, hz⟩ := hsub (i + 1)
      rw [← hz, htk] at hok
      exact (List.nodup_append.mp hok).1
    have hll : (okeys ((e.spn [] 0).take i) ++ x.own).length ≤ e.steps := by
      obtain ⟨z, hz⟩ := hsub (i + 1)
      rw [← hkl, ← hz, htk, List.length_append (as := _ ++ _)]
      omega
    refine ⟨rfl, yes_i ⟨u, x, rfl, rx.keep (KI.same sG), fun qo eqo => ?_⟩⟩
    refine ⟨fun j k G' => k = x.own.length - j ∧ j ≤ x.own.length ∧ Same H3 G' ∧ G' qo = some (.tup (nv_ x.own)) ∧ ∃ kvs, G' D = some (.dK kvs) ∧ DictOk CS mk H3 e kvs (okeys ((e.spn [] 0).take i) ++ x.own.take j), ⟨_, rfl, Nat.zero_le _, sG, eqo, kvs, eD, by rw [List.take_zero, List.append_nil]; exact dk⟩, ?_⟩
    rintro j k G2 ⟨rfl, hj, sG2, eq2, kvs2, eD2, dk2⟩
    have hS2 : SqT K G2 qo (nv_ x.own) := SqT.of eq2
    have hnl : (nv_ x.own).length = x.own.length := by simp [nv_]
    by_cases hlj : j < x.own.length
    · refine .inr ⟨walk_tup.goes j G2 (by rw [hnl]; exact hlj) hS2, fun G' => Same H3 G' ∧ G' qo = some (.tup (nv_ x.own)) ∧ ∃ kvs, G' D = some (.dK kvs) ∧ DictOk CS mk H3 e kvs (okeys ((e.spn [] 0).take i) ++ x.own.take (j + 1)), fun G' h => ⟨x.own.length - (j + 1), by omega, rfl, hlj, h⟩, fun u2 G3 hy2 => ?_⟩
      obtain ⟨rfl, hu2⟩ := walk_tup.yields j G2 u2 G3 (by rw [hnl]; exact hlj) hS2 hy2
      have eu2 : u2 = .int ((x.own[j] : Nat) : Int) := by
        unfold nv_ at hu2
        rw [List.getElem?_map, List.getElem?_eq_getElem hlj] at hu2
        exact (Option.some.inj hu2).symm
      subst eu2
      have hno : x.own[j] ∉ okeys ((e.spn [] 0).take i) ++ x.own.take j := by
        intro hc
        rcases List.mem_append.mp hc with h | h
        · exact (List.nodup_append.mp hnod).2.2 _ h _ (List.getElem_mem hlj) rfl
        · obtain ⟨j', h1, h2⟩ := List.mem_take_iff_getElem.mp h
          have hnx := (List.nodup_append.mp hnod).2.1
          have := (List.nodup_iff_pairwise_ne.mp hnx)
          rw [List.pairwise_iff_getElem] at this
          exact this j' j (by omega) hlj (by omega) h2
      refine ⟨rfl, yes_i ⟨_, rfl, _, rfl, kvs2, Sum.inl ((x.own[j] : Nat) : Int), rfl, eD2, ?_, fun b o z => ?_, ?_, _, upd_same, ?_⟩⟩
      · rw [dk2.len, List.length_append, List.length_take]
        rw [List.length_append] at hll
        refine Nat.lt_of_le_of_lt (m := 900) (by omega) ?_
        rw [sizeLine_eq]; decide
      · rw [upd_ne (ne_of_none z nD)]; exact sG2 _ _ z
      · rw [upd_ne (fun w => by rw [w, eD2] at eq2; cases eq2)]; exact eq2
      · have := dk2.put hno hxm rx (List.getElem_mem hlj)
        rwa [List.append_assoc, ← take_succ_get _ j hlj] at this
    · have ej : j = x.own.length := by omega
      subst ej
      refine .inl ⟨?_, sG2, kvs2, eD2, ?_⟩
      · have := walk_tup.stops G2 hS2
        rwa [hnl] at this
      · rw [List.take_length] at dk2
        rw [htk]
        exact dk2
  have ei : i = rows.length := by omega
  subst ei
  refine .inl ⟨walk_list.stops G hS, ?_⟩
  rw [pr.length, List.take_length] at dk
  have prG := L2.Paired.mapP pr fun a b z => z.keep (KI.same sG)
  have elG := sG _ _ el
  -- the guards
  refine ⟨_, rfl, l, rfl, ⟨_, SqL.of elG⟩, fun Dg nDg => ?_⟩
  refine lc_list (K := K) (a := l) (xs := rows) (fun i H' => ∃ acc, H' Dg = some (.lst acc) ∧ Paired (PathAt H') acc ((((e.spn [] 0).take i).filter fun x => x.2.1.gd).map (·.1)) ∧ Same G H') ⟨[], upd_same, .nil, same_up nDg⟩ (fun i H' _ ⟨_, _, _, z⟩ => SqL.of (z _ _ elG)) ?_ ?_
  · rintro i u H4 hi ⟨acc, eA, pa, s4⟩
    obtain ⟨x, hx, rx⟩ := paired_get prG hi
    have hil : i < (e.spn [] 0).length := (List.getElem?_eq_some_iff.mp hx).1
    have ex : (e.spn [] 0)[i] = x := (List.getElem?_eq_some_iff.mp hx).2
    refine ⟨rfl, u, x, rfl, rx.keep (KI.same s4), ?_⟩
    rw [take_succ_get _ i hil, ex, List.filter_append, List.map_append]
    cases hg : x.2.1.gd with
    | false =>
      refine iteF ⟨acc, eA, ?_, s4⟩
      rw [List.filter_cons_of_neg (by simp [hg])]
      simpa using pa
    | true =>
      rw [List.filter_cons_of_pos (by simp [hg])]
      refine iteT ⟨u, x, rfl, rx.keep (KI.same s4), fun vp hvp => ?_⟩
      have hal : acc.length ≤ 200 := by
        rw [pa.length, List.length_map]
        refine Nat.le_trans (List.length_filter_le _ _) ?_
        rw [List.length_take, spn_len]
        omega
      have ku : ∀ q xs, H4 q = some (.tup xs) → (upd H4 Dg (.lst (acc ++ [vp]))) q = some (.tup xs) := fun q xs z => by
        rw [upd_ne (fun w => by rw [w, eA] at z; cases z)]; exact z
      exact ⟨acc, eA, small1000 (by omega), acc ++ [vp], upd_same, paired_append (L2.Paired.mapP pa fun a b z => z.keep ku) (.cons (hvp.keep ku) .nil), fun b o z => by rw [upd_ne (ne_of_none z nDg)]; exact s4 _ _ z⟩
  rintro H4 ⟨accg, eAg, pag, s4⟩
  rw [hrl, ← spn_len e [] 0, List.take_length] at pag
  have s24 := s3.trans (sG.trans s4)
  have ea4 := s24 _ _ ea2
  have el4 := s4 _ _ elG
  have pr4 := L2.Paired.mapP prG fun a b z => z.keep (KI.same s4)
  have eD4 := s4 _ _ eD
  have dk4 : DictOk CS mk H4 e kvs (okeys (e.spn [] 0)) := ⟨dk.k, fun q hq => let ⟨x, h1, h2, h3⟩ := dk.v q hq; ⟨x, h1, h2.keep (KI.same (sG.trans s4)), h3⟩⟩
  -- spans
  refine ⟨_, rfl, .inl ⟨l, rows, rfl, SqL.of el4, fun tsp nsp => ?_⟩⟩
  have sp5 := same_up (o := .tup rows) nsp
  refine ⟨_, rfl, a, CL, dx, _, rfl, sp5 _ _ ea4, L.cl, L.nS, by ((refine Nat.lt_of_le_of_lt (m := 40) ?_ (by decide); repeat (first | exact Nat.zero_le _ | refine putF_len _ _ _ ?_))), ?_⟩
  have b5 : But a H4 (upd (upd H4 tsp (.tup rows)) a (.ins CL dx (putF "spans" (.ref tsp) (putF "root" vr [])))) := fun b o nb z => by rw [upd_ne nb]; exact sp5 _ _ z
  have k5 := KI.but (CS := CS) ea4 b5
  have ea5 : (upd (upd H4 tsp (.tup rows)) a (.ins CL dx (putF "spans" (.ref tsp) (putF "root" vr [])))) a = some (.ins CL dx (putF "spans" (.ref tsp) (putF "root" vr []))) := upd_same
  have et5 : (upd (upd H4 tsp (.tup rows)) a (.ins CL dx (putF "spans" (.ref tsp) (putF "root" vr [])))) tsp = some (.tup rows) := by
    rw [upd_ne (fun w => by rw [← w, nsp] at ea4; cases ea4)]; exact upd_same
  generalize (upd (upd H4 tsp (.tup rows)) a (.ins CL dx (putF "spans" (.ref tsp) (putF "root" vr [])))) = H5 at b5 k5 ea5 et5 ⊢
  have nDa : D ≠ a := fun w => by rw [w, ea4] at eD4; cases eD4
  have nga : Dg ≠ a := fun w => by rw [w, ea4] at eAg; cases eAg
  have eD5 := b5 _ _ nDa eD4
  have eg5 := b5 _ _ nga eAg
  -- the owners
  refine ⟨_, rfl, D, kvs, rfl, eD5, ?_⟩
  refine ⟨_, rfl, by rw [dk.len]; omega, by rw [dk.len]; omega, fun D2 nD2 => ?_⟩
  have hkk : kvs.length = e.steps := by rw [dk.len, hkl]
  refine lc_range (lo := 0) (n := kvs.length) (fun i H' => Same H5 H' ∧ ∃ acc, H' D2 = some (.lst acc) ∧ acc.length = i ∧ ∀ j, j < i → ∃ v x, acc[j]? = some v ∧ x ∈ e.spn [] 0 ∧ SpanR CS mk H4 v x ∧ j ∈ x.own) ?_ ?_ ?_
  · exact ⟨same_up nD2, [], upd_same, rfl, fun j hj => by omega⟩
  · rintro i H6 hi ⟨s6, acc, eA, hal, hrow⟩
    obtain ⟨v, x, h1, h2, h3, h4⟩ := dk4.get ((okeys_mem e [] 0 i).mpr ⟨by omega, by omega⟩)
    refine ⟨rfl, yes_i ⟨D, kvs, i, v, rfl, rfl, s6 _ _ eD5, h1, acc, eA, small1000 (by omega), fun b o z => by rw [upd_ne (ne_of_none z nD2)]; exact s6 _ _ z, acc ++ [v], upd_same, by simp [hal], fun j hj => ?_⟩⟩
    by_cases hji : j < i
    · obtain ⟨v', x', g1, g2, g3, g4⟩ := hrow j hji
      exact ⟨v', x', by rw [List.getElem?_append_left (by omega)]; exact g1, g2, g3, g4⟩
    · have : j = i := by omega
      subst this
      exact ⟨v, x, by rw [List.getElem?_append_right (by omega), hal, Nat.sub_self]; rfl, h2, h3, h4⟩
  rintro H6 ⟨s6, acco, eA6, hal6, hrow6⟩
  refine .inl ⟨D2, acco, rfl, SqL.of eA6, fun tow now => ?_⟩
  have sp6 := same_up (o := .tup acco) now
  have s56 := s6.trans sp6
  have ea6 := s56 _ _ ea5
  refine ⟨_, rfl, a, CL, dx, _, rfl, ea6, L.cl, L.nO, by ((refine Nat.lt_of_le_of_lt (m := 40) ?_ (by decide); repeat (first | exact Nat.zero_le _ | refine putF_len _ _ _ ?_))), ?_⟩
  have b7 : But a H5 (upd (upd H6 tow (.tup acco)) a (.ins CL dx (putF "owners" (.ref tow) (putF "spans" (.ref tsp) (putF "root" vr []))))) := fun b o nb z => by rw [upd_ne nb]; exact s56 _ _ z
  have k7 := k5.trans (KI.but (CS := CS) ea5 b7)
  have ea7 : (upd (upd H6 tow (.tup acco)) a (.ins CL dx (putF "owners" (.ref tow) (putF "spans" (.ref tsp) (putF "root" vr []))))) a = some (.ins CL dx (putF "owners" (.ref tow) (putF "spans" (.ref tsp) (putF "root" vr [])))) := upd_same
  have et7 : (upd (upd H6 tow (.tup acco)) a (.ins CL dx (putF "owners" (.ref tow) (putF "spans" (.ref tsp) (putF "root" vr []))))) tow = some (.tup acco) := by
    rw [upd_ne (fun w => by rw [← w, upd_same] at ea6; cases ea6)]; exact upd_same
  have eg7 := b7 _ _ nga eg5
  have hrow7 : ∀ j, j < e.steps → ∃ v x, acco[j]? = some v ∧ x ∈ e.spn [] 0 ∧ SpanR CS mk (upd (upd H6 tow (.tup acco)) a (.ins CL dx (putF "owners" (.ref tow) (putF "spans" (.ref tsp) (putF "root" vr []))))) v x ∧ j ∈ x.own := fun j hj => let ⟨v, x, h1, h2, h3, h4⟩ := hrow6 j (by omega); ⟨v, x, h1, h2, h3.keep k7, h4⟩
  have b17 : But a H1 (upd (upd H6 tow (.tup acco)) a (.ins CL dx (putF "owners" (.ref tow) (putF "spans" (.ref tsp) (putF "root" vr []))))) := fun b o nb z => b7 b o nb (b5 b o nb (s24 _ _ (b1 b o nb z)))
  generalize (upd (upd H6 tow (.tup acco)) a (.ins CL dx (putF "owners" (.ref tow) (putF "spans" (.ref tsp) (putF "root" vr []))))) = H7 at b7 k7 ea7 et7 eg7 hrow7 b17 ⊢
  have hB7 : BookAt CF CB H7 vb fns := (hB.keep s01).but ea1 b17
  -- the steps
  refine ⟨_, rfl, a, CL, dx, _, _, rfl, ea7, L.cl, L.nO, by ((repeat (first | (rw [lookup_putF, if_pos rfl]) | rw [lookup_putF, if_neg (by decide +kernel)]))), tow, acco, rfl, SqT.of et7, fun D3 nD3 => ?_⟩
  have hsl := stepL_steps kw e [] ew
  refine lc_it walk_enumU (fun i H' => Same H7 H' ∧ ∃ acc, H' D3 = some (.lst acc) ∧ Paired (StepAt H') acc ((e.stepL fns []).take i)) ⟨same_up nD3, [], upd_same, .nil⟩ (fun i H' _ h => SqT.of (h.1 _ _ et7)) ?_ ?_
  · rintro i x H8 H9 hi ⟨s8, acc, eA, pa⟩ ⟨T0, x', y', rfl, nT, rfl, hx, hy⟩
    have hx' : x' = .int (i : Int) := (Option.some.inj hx).symm
    subst hx'
    have hie : i < e.steps := by omega
    obtain ⟨v, ⟨px, exx, nx⟩, h1, h2, h3, h4⟩ := hrow7 i hie
    have : y' = v := Option.some.inj (hy.symm.trans h1)
    subst this
    have sT := same_up (o := .tup [V.int (i : Int), y']) nT
    have s9 := s8.trans sT
    have h4' := mem_owns.mp h4
    cases exx with
    | num c => simp [Ex.ops, Ex.stepss, Ex.steps] at h4'; omega
    | nd k os =>
      simp only [Ex.ops, Ex.steps] at h4'
      obtain ⟨g1, g2, g3⟩ := stepL_at kw e [] 0 ew px k os nx (i - (nx + Ex.stepss os)) h2 (by omega)
      have ei : nx + Ex.stepss os + (i - (nx + Ex.stepss os)) = i := by omega
      rw [ei, Nat.sub_zero] at g3
      have hil : i < (e.stepL fns []).length := by omega
      rw [List.getElem?_eq_getElem hil] at g3
      refine ⟨T0, _, rfl, SqT.of upd_same, rfl, _, _, rfl, _, _, rfl, rfl, rfl, yes_i ⟨vb, y', ps, k, os, px, nx, i - (nx + Ex.stepss os), _, rfl, rfl, by rw [ei]; rfl, hB7.keep s9, kw, SpanAt.keep (KI.same s9) _ _ _ _ h3, g2, g3.symm, fun u H10 hu s10 => ?_⟩⟩
      have s79 := sT.trans s10
      have eA10 := s79 _ _ eA
      have hal : acc.length ≤ 900 := by rw [pa.length, List.length_take]; omega
      have ku : ∀ q xs, H10 q = some (.tup xs) → (upd H10 D3 (.lst (acc ++ [u]))) q = some (.tup xs) := fun q xs z => by
        rw [upd_ne (fun w => by rw [w, eA10] at z; cases z)]; exact z
      refine ⟨acc, eA10, small1000 (by omega), fun b o z => by rw [upd_ne (ne_of_none z nD3)]; exact s79 _ _ (s8 _ _ z), acc ++ [u], upd_same, ?_⟩
      rw [take_succ_get _ i hil]
      exact paired_append (L2.Paired.mapP pa fun a b z => (z.keep (same_t s79)).keep ku) (.cons (hu.keep ku) .nil)
  rintro H8 ⟨s8, accs, eA8, pa8⟩
  rw [hal6, hkk, ← hsl, List.take_length] at pa8
  refine .inl ⟨D3, accs, rfl, SqL.of eA8, fun tst nst => ?_⟩
  have sp8 := same_up (o := .tup accs) nst
  have s78 := s8.trans sp8
  have ea8 := s78 _ _ ea7
  refine ⟨_, rfl, a, CL, dx, _, rfl, ea8, L.cl, L.nT, by ((refine Nat.lt_of_le_of_lt (m := 40) ?_ (by decide); repeat (first | exact Nat.zero_le _ | refine putF_len _ _ _ ?_))), ?_⟩
  have b9 : But a H7 (upd (upd H8 tst (.tup accs)) a (.ins CL dx (putF "steps" (.ref tst) (putF "owners" (.ref tow) (putF "spans" (.ref tsp) (putF "root" vr [])))))) := fun b o nb z => by rw [upd_ne nb]; exact s78 _ _ z
  have ea9 : (upd (upd H8 tst (.tup accs)) a (.ins CL dx (putF "steps" (.ref tst) (putF "owners" (.ref tow) (putF "spans" (.ref tsp) (putF "root" vr [])))))) a = some (.ins CL dx (putF "steps" (.ref tst) (putF "owners" (.ref tow) (putF "spans" (.ref tsp) (putF "root" vr []))))) := upd_same
  have et9 : (upd (upd H8 tst (.tup accs)) a (.ins CL dx (putF "steps" (.ref tst) (putF "owners" (.ref tow) (putF "spans" (.ref tsp) (putF "root" vr [])))))) tst = some (.tup accs) := by
    rw [upd_ne (fun w => by rw [← w, upd_same] at ea8; cases ea8)]; exact upd_same
  have b19 : But a H1 (upd (upd H8 tst (.tup accs)) a (.ins CL dx (putF "steps" (.ref tst) (putF "owners" (.ref tow) (putF "spans" (.ref tsp) (putF "root" vr [])))))) := fun b o nb z => b9 b o nb (b17 b o nb z)
  have k9 := KI.but (CS := CS) ea7 b9
  have pa9 : Paired (StepAt (upd (upd H8 tst (.tup accs)) a (.ins CL dx (putF "steps" (.ref tst) (putF "owners" (.ref tow) (putF "spans" (.ref tsp) (putF "root" vr []))))))) accs (e.stepL fns []) := L2.Paired.mapP pa8 fun u r z => z.keep fun q xs y => by
    rw [upd_ne (fun w => by rw [w] at y; have := sp8 _ _ y; rw [this] at ea8; cases ea8)]
    exact sp8 _ _ y
  have eg9 := b9 _ _ nga eg7
  generalize (upd (upd H8 tst (.tup accs)) a (.ins CL dx (putF "steps" (.ref tst) (putF "owners" (.ref tow) (putF "spans" (.ref tsp) (putF "root" vr [])))))) = H9 at b9 ea9 et9 b19 k9 pa9 eg9 ⊢
  -- the relations
  have hv9 : SpanAt CS mk H9 e [] 0 vr := hv1.keep (KI.but (CS := CS) ea1 b19) _ _ _ _
  refine ⟨_, rfl, a, CL, dx, _, _, rfl, ea9, L.cl, L.nR, by ((repeat (first | (rw [lookup_putF, if_pos rfl]) | rw [lookup_putF, if_neg (by decide +kernel)]))), vr, e, [], mk, rfl, hv9, by omega, fun t tb te bl el H10 et etb ete hbl hel s10 => ?_⟩
  have ea10 := s10 _ _ ea9
  refine ⟨t, _, rfl, SqT.of et, rfl, _, _, rfl, _, rfl, a, CL, dx, _, rfl, ea10, L.cl, L.nB, by ((refine Nat.lt_of_le_of_lt (m := 40) ?_ (by decide); repeat (first | exact Nat.zero_le _ | refine putF_len _ _ _ ?_))), _, _, rfl, _, rfl, a, CL, dx, _, rfl, upd_same, L.cl, L.nE, by ((refine Nat.lt_of_le_of_lt (m := 40) ?_ (by decide); repeat (first | exact Nat.zero_le _ | refine putF_len _ _ _ ?_))), rfl, ?_⟩
  have nea : te ≠ a := fun w => by rw [w, ea10] at ete; cases ete
  have nba : tb ≠ a := fun w => by rw [w, ea10] at etb; cases etb
  have b11 : But a H9 (upd (upd H10 a (.ins CL dx (putF "befores" (.ref tb) (putF "steps" (.ref tst) (putF "owners" (.ref tow) (putF "spans" (.ref tsp) (putF "root" vr []))))))) a (.ins CL dx (putF "besides" (.ref te) (putF "befores" (.ref tb) (putF "steps" (.ref tst) (putF "owners" (.ref tow) (putF "spans" (.ref tsp) (putF "root" vr [])))))))) := fun b o nb z => by rw [upd_ne nb, upd_ne nb]; exact s10 _ _ z
  have ea11 : (upd (upd H10 a (.ins CL dx (putF "befores" (.ref tb) (putF "steps" (.ref tst) (putF "owners" (.ref tow) (putF "spans" (.ref tsp) (putF "root" vr []))))))) a (.ins CL dx (putF "besides" (.ref te) (putF "befores" (.ref tb) (putF "steps" (.ref tst) (putF "owners" (.ref tow) (putF "spans" (.ref tsp) (putF "root" vr [])))))))) a = some (.ins CL dx (putF "besides" (.ref te) (putF "befores" (.ref tb) (putF "steps" (.ref tst) (putF "owners" (.ref tow) (putF "spans" (.ref tsp) (putF "root" vr []))))))) := upd_same
  have etb11 : (upd (upd H10 a (.ins CL dx (putF "befores" (.ref tb) (putF "steps" (.ref tst) (putF "owners" (.ref tow) (putF "spans" (.ref tsp) (putF "root" vr []))))))) a (.ins CL dx (putF "besides" (.ref te) (putF "befores" (.ref tb) (putF "steps" (.ref tst) (putF "owners" (.ref tow) (putF "spans" (.ref tsp) (putF "root" vr [])))))))) tb = some (.tup bl) := by rw [upd_ne nba, upd_ne nba]; exact etb
  have ete11 : (upd (upd H10 a (.ins CL dx (putF "befores" (.ref tb) (putF "steps" (.ref tst) (putF "owners" (.ref tow) (putF "spans" (.ref tsp) (putF "root" vr []))))))) a (.ins CL dx (putF "besides" (.ref te) (putF "befores" (.ref tb) (putF "steps" (.ref tst) (putF "owners" (.ref tow) (putF "spans" (.ref tsp) (putF "root" vr [])))))))) te = some (.tup el) := by rw [upd_ne nea, upd_ne nea]; exact ete
  generalize (upd (upd H10 a (.ins CL dx (putF "befores" (.ref tb) (putF "steps" (.ref tst) (putF "owners" (.ref tow) (putF "spans" (.ref tsp) (putF "root" vr []))))))) a (.ins CL dx (putF "besides" (.ref te) (putF "befores" (.ref tb) (putF "steps" (.ref tst) (putF "owners" (.ref tow) (putF "spans" (.ref tsp) (putF "root" vr [])))))))) = H11 at b11 ea11 etb11 ete11 ⊢
  -- the steps that store
  have nta : tst ≠ a := fun w => by rw [w, ea9] at et9; cases et9
  have et11 := b11 _ _ nta et9
  have pa11 : Paired (StepAt H11) accs (e.stepL fns []) := L2.Paired.mapP pa9 fun u r z => z.keep fun q xs y => b11 _ _ (fun w => by rw [w, ea9] at y; cases y) y
  refine ⟨_, rfl, a, CL, dx, _, _, rfl, ea11, L.cl, L.nT, by ((repeat (first | (rw [lookup_putF, if_pos rfl]) | rw [lookup_putF, if_neg (by decide +kernel)]))), tst, accs, rfl, SqT.of et11, fun D4 nD4 => ?_⟩
  refine lc_it walk_enumU (fun i H' => Same H11 H' ∧ ∃ acc : List Int, H' D4 = some (.lst (acc.map V.int)) ∧ acc.length ≤ i) ⟨same_up nD4, [], upd_same, Nat.zero_le _⟩ (fun i H' _ h => SqT.of (h.1 _ _ et11)) ?_ ?_
  · rintro i x H12 H13 hi ⟨s12, acc, eA, hla⟩ ⟨T0, x', y', rfl, nT, rfl, hx, hy⟩
    have hx' : x' = .int (i : Int) := (Option.some.inj hx).symm
    subst hx'
    obtain ⟨r, hr0, hrow⟩ := paired_get pa11 hy
    have hie : i < (e.stepL fns []).length := (List.getElem?_eq_some_iff.mp hr0).1
    have sT := same_up (o := .tup [V.int (i : Int), y']) nT
    have s13 := s12.trans sT
    refine ⟨T0, _, rfl, SqT.of upd_same, rfl, _, _, rfl, _, _, rfl, rfl, rfl, y', r, rfl, hrow.keep (same_t s13), fun b => ?_⟩
    have eA13 := sT _ _ eA
    cases b with
    | false => exact iteF ⟨s13, acc, eA13, by omega⟩
    | true =>
      refine iteT ⟨i, rfl, by omega, acc.map V.int, eA13, small1000 (by rw [List.length_map]; omega), fun b o z => ?_, acc ++ [2 ^ i], ?_, ?_⟩
      · rw [upd_ne (ne_of_none z nD4)]
        exact s13 _ _ z
      · rw [List.map_append]
        exact upd_same
      · rw [List.length_append, List.length_singleton]
        omega
  rintro H12 ⟨s12, acc4, eA4, _⟩
  refine ⟨D4, acc4, rfl, SqL.of eA4, ?_⟩
  generalize acc4.sum = xs
  have ea12 := s12 _ _ ea11
  refine ⟨_, rfl, a, CL, dx, _, rfl, ea12, L.cl, L.nH, by ((refine Nat.lt_of_le_of_lt (m := 40) ?_ (by decide); repeat (first | exact Nat.zero_le _ | refine putF_len _ _ _ ?_))), ?_⟩
  have b13 : But a H11 (upd H12 a (.ins CL dx (putF "stored" (.int xs) (putF "besides" (.ref te) (putF "befores" (.ref tb) (putF "steps" (.ref tst) (putF "owners" (.ref tow) (putF "spans" (.ref tsp) (putF "root" vr []))))))))) := fun b o nb z => by rw [upd_ne nb]; exact s12 _ _ z
  have ea13 : (upd H12 a (.ins CL dx (putF "stored" (.int xs) (putF "besides" (.ref te) (putF "befores" (.ref tb) (putF "steps" (.ref tst) (putF "owners" (.ref tow) (putF "spans" (.ref tsp) (putF "root" vr []))))))))) a = some (.ins CL dx (putF "stored" (.int xs) (putF "besides" (.ref te) (putF "befores" (.ref tb) (putF "steps" (.ref tst) (putF "owners" (.ref tow) (putF "spans" (.ref tsp) (putF "root" vr [])))))))) := upd_same
  generalize (upd H12 a (.ins CL dx (putF "stored" (.int xs) (putF "besides" (.ref te) (putF "befores" (.ref tb) (putF "steps" (.ref tst) (putF "owners" (.ref tow) (putF "spans" (.ref tsp) (putF "root" vr []))))))))) = H13 at b13 ea13 ⊢
  have b113 : But a H1 H13 := fun b o nb z => b13 b o nb (b11 b o nb (b19 b o nb z))
  have hB13 : BookAt CF CB H13 vb fns := (hB.keep s01).but ea1 b113
  have hv13 : SpanAt CS mk H13 e [] 0 vr := hv1.keep (KI.but (CS := CS) ea1 b113) _ _ _ _
  refine ⟨_, rfl, a, CL, dx, _, _, rfl, ea13, L.cl, L.nH, by ((repeat (first | (rw [lookup_putF, if_pos rfl]) | rw [lookup_putF, if_neg (by decide +kernel)]))), _, rfl, _, rfl, a, CL, dx, _, _, rfl, ea13, L.cl, L.nR, by ((repeat (first | (rw [lookup_putF, if_pos rfl]) | rw [lookup_putF, if_neg (by decide +kernel)]))), vb, vr, false, ps, fns, mk, e, [], 0, rfl, hB13, kw, hv13, ew, hd, by omega, fun xu0 H14 s14 => ?_⟩
  have ea14 := s14 _ _ ea13
  refine ⟨_, _, rfl, rfl, _, rfl, a, CL, dx, _, rfl, ea14, L.cl, L.nU, by ((refine Nat.lt_of_le_of_lt (m := 40) ?_ (by decide); repeat (first | exact Nat.zero_le _ | refine putF_len _ _ _ ?_))), ?_⟩
  generalize hxu : (fun i j => V.int (Builtin.bitOr i j)) xs xu0 = vxu
  obtain ⟨xu, rfl⟩ : ∃ xu : Int, vxu = .int xu := ⟨_, hxu.symm⟩
  clear hxu
  have etb12 := b13 _ _ nba etb11
  have ete12 := b13 _ _ nea ete11
  have b15 : But a H13 (upd H14 a (.ins CL dx (putF "unasked" (.int xu) (putF "stored" (.int xs) (putF "besides" (.ref te) (putF "befores" (.ref tb) (putF "steps" (.ref tst) (putF "owners" (.ref tow) (putF "spans" (.ref tsp) (putF "root" vr [])))))))))) := fun b o nb z => by rw [upd_ne nb]; exact s14 _ _ z
  have etb15 := b15 _ _ nba etb12
  have ete15 := b15 _ _ nea ete12
  have b915 : But a H9 (upd H14 a (.ins CL dx (putF "unasked" (.int xu) (putF "stored" (.int xs) (putF "besides" (.ref te) (putF "befores" (.ref tb) (putF "steps" (.ref tst) (putF "owners" (.ref tow) (putF "spans" (.ref tsp) (putF "root" vr [])))))))))) := fun b o nb z => b15 b o nb (b13 b o nb (b11 b o nb z))
  have ea15 : (upd H14 a (.ins CL dx (putF "unasked" (.int xu) (putF "stored" (.int xs) (putF "besides" (.ref te) (putF "befores" (.ref tb) (putF "steps" (.ref tst) (putF "owners" (.ref tow) (putF "spans" (.ref tsp) (putF "root" vr [])))))))))) a = some (.ins CL dx (putF "unasked" (.int xu) (putF "stored" (.int xs) (putF "besides" (.ref te) (putF "befores" (.ref tb) (putF "steps" (.ref tst) (putF "owners" (.ref tow) (putF "spans" (.ref tsp) (putF "root" vr []))))))))) := upd_same
  generalize (upd H14 a (.ins CL dx (putF "unasked" (.int xu) (putF "stored" (.int xs) (putF "besides" (.ref te) (putF "befores" (.ref tb) (putF "steps" (.ref tst) (putF "owners" (.ref tow) (putF "spans" (.ref tsp) (putF "root" vr [])))))))))) = H15 at b915 ea15 etb15 ete15 ⊢
  clear etb12 ete12
  replace b11 := b915
  clear b915
  replace ea11 := ea15
  replace etb11 := etb15
  replace ete11 := ete15
  have eg11 := b11 _ _ nga eg9
  have k4b : KI CS H4 H15 := k7.trans (k9.trans (KI.but (CS := CS) ea9 b11))
  have b111 : But a H1 H15 := fun b o nb z => b11 b o nb (b19 b o nb z)
  have bH : But a H H15 := fun b o nb z => b111 b o nb (s01 _ _ z)
  have kt : ∀ (H' : Hp) q xs, H' q = some (.tup xs) → But a H' H15 → (∃ fs, H' a = some (.ins CL dx fs)) → H15 q = some (.tup xs) := fun H' q xs z b ⟨fs, y⟩ => b _ _ (fun w => by rw [w, y] at z; cases z) z
  have b511 : But a H5 H15 := fun b o nb z => b11 b o nb (b9 b o nb (b7 b o nb z))
  have b711 : But a H7 H15 := fun b o nb z => b11 b o nb (b9 b o nb z)
  have fin : ∀ vg, GuardV H15 vg e.guards → LayO CS (upd H15 a (.ins CL dx (putF "guard" vg (putF "unasked" (.int xu) (putF "stored" (.int xs) (putF "besides" (.ref te) (putF "befores" (.ref tb) (putF "steps" (.ref tst) (putF "owners" (.ref tow) (putF "spans" (.ref tsp) (putF "root" vr []))))))))))) (putF "guard" vg (putF "unasked" (.int xu) (putF "stored" (.int xs) (putF "besides" (.ref te) (putF "befores" (.ref tb) (putF "steps" (.ref tst) (putF "owners" (.ref tow) (putF "spans" (.ref tsp) (putF "root" vr []))))))))) fns e mk vr tsp tow tst tb te vg rows acco accs bl el := fun vg hg => by
    have b12 : But a H15 (upd H15 a (.ins CL dx (putF "guard" vg (putF "unasked" (.int xu) (putF "stored" (.int xs) (putF "besides" (.ref te) (putF "befores" (.ref tb) (putF "steps" (.ref tst) (putF "owners" (.ref tow) (putF "spans" (.ref tsp) (putF "root" vr []))))))))))) := fun b o nb z => by rw [upd_ne nb]; exact z
    have k12 := KI.but (CS := CS) ea11 b12
    have kt12 := k12.1
    refine ⟨⟨by ((repeat (first | (rw [lookup_putF, if_pos rfl]) | rw [lookup_putF, if_neg (by decide +kernel)]))), by ((repeat (first | (rw [lookup_putF, if_pos rfl]) | rw [lookup_putF, if_neg (by decide +kernel)]))), by ((repeat (first | (rw [lookup_putF, if_pos rfl]) | rw [lookup_putF, if_neg (by decide +kernel)]))), by ((repeat (first | (rw [lookup_putF, if_pos rfl]) | rw [lookup_putF, if_neg (by decide +kernel)]))), by ((repeat (first | (rw [lookup_putF, if_pos rfl]) | rw [lookup_putF, if_neg (by decide +kernel)]))), by ((repeat (first | (rw [lookup_putF, if_pos rfl]) | rw [lookup_putF, if_neg (by decide +kernel)]))), by ((repeat (first | (rw [lookup_putF, if_pos rfl]) | rw [lookup_putF, if_neg (by decide +kernel)])))⟩, hv1.keep (KI.but (CS := CS) ea1 fun b o nb z => b12 b o nb (b111 b o nb z)) _ _ _ _, kt12 _ _ (kt H5 _ _ et5 b511 ⟨_, ea5⟩), L2.Paired.mapP pr4 fun a b z => z.keep (k4b.trans k12), kt12 _ _ (kt H7 _ _ et7 b711 ⟨_, ea7⟩), ⟨by rw [hal6, hkk], fun j hj => ?_⟩, kt12 _ _ (kt H9 _ _ et9 b11 ⟨_, ea9⟩), L2.Paired.mapP pa9 fun u r z => (z.keep fun q xs y => kt H9 q xs y b11 ⟨_, ea9⟩).keep kt12, kt12 _ _ etb11, hbl, kt12 _ _ ete11, hel, ?_⟩
    · obtain ⟨v, x, h1, h2, h3, h4⟩ := hrow6 j (by omega)
      exact ⟨v, x, h1, h2, h3.keep (k4b.trans k12), h4⟩
    · generalize e.guards = gs at hg ⊢
      cases gs with
      | nil => exact hg
      | cons p r => exact PathAt.keep kt12 hg
  have pag11 : Paired (PathAt H15) accg e.guards := L2.Paired.mapP pag fun u p z => z.keep fun q xs y => kt H4 q xs y (fun b o nb z => b511 b o nb (b5 b o nb z)) ⟨_, ea4⟩
  refine ⟨_, rfl, Dg, _, rfl, .inl (SqL.of eg11), _, _, rfl, rfl, _, rfl, ?_⟩
  have endq : ∀ vg, GuardV H15 vg e.guards → Q .non (upd H15 a (.ins CL dx (putF "guard" vg (putF "unasked" (.int xu) (putF "stored" (.int xs) (putF "besides" (.ref te) (putF "befores" (.ref tb) (putF "steps" (.ref tst) (putF "owners" (.ref tow) (putF "spans" (.ref tsp) (putF "root" vr []))))))))))) := fun vg hg =>
    q _ ⟨a, dx, _, vr, tsp, tow, tst, tb, te, vg, rows, acco, accs, bl, el, rfl, upd_same, fin vg hg⟩ fun b o nb z => by rw [upd_ne nb]; exact bH b o nb z
  cases hgs : e.guards with
  | nil =>
    rw [hgs] at pag11
    cases pag11
    refine iteNo (by simp) ?_
    refine ⟨_, rfl, a, CL, dx, _, rfl, ea11, L.cl, L.nG, by ((refine Nat.lt_of_le_of_lt (m := 40) ?_ (by decide); repeat (first | exact Nat.zero_le _ | refine putF_len _ _ _ ?_))), ?_⟩
    exact endq .non (by rw [hgs]; rfl)
  | cons p r =>
    rw [hgs] at pag11
    cases pag11 with
    | cons hp hr' =>
      rename_i vp accr
      refine iteYes (by simp) ?_
      refine ⟨_, rfl, Dg, _, _, _, rfl, rfl, SqL.of eg11, at0 _ _, ?_⟩
      refine ⟨_, rfl, a, CL, dx, _, rfl, ea11, L.cl, L.nG, by ((refine Nat.lt_of_le_of_lt (m := 40) ?_ (by decide); repeat (first | exact Nat.zero_le _ | refine putF_len _ _ _ ?_))), ?_⟩
      exact endq vp (by rw [hgs]; exact hp)
end
end Oo
/-! sorted of tuples of ints, whatever their order -/
namespace Oo
open PySem PySem.SeqAt PySem.W PySem.Calls PyProof.Rows
section
variable {prog : Program} {w : World} {A : Around} {E : Value → Shared → Prop} {s : Shared}
theorem firsts_at2 : ∀ {vs : List Value} {ds : List (List PyData)} {Q : List (Option Value) → Shared → Prop}, EachIs (fun v d => ∃ as, Reads s.heap v (.tuple d) as) vs ds →
    (∀ fs : List (Option Value), fs.length = vs.length → (∀ i : Nat, ds[i]? = some [] → fs[i]? = some none) → (∀ (i : Nat) d r, ds[i]? = some (d :: r) → ∃ u, fs[i]? = some (some u)) → Q fs s) → wpAny (model prog w) A (vs.mapM firstOfTuple') Q E s
  | _, _, Q, .nil, h => by
    rw [List.mapM_nil]
    exact wpAny_pure (h [] rfl (fun i z => by simp at z) fun i d r z => by simp at z)
  | v :: vs, d :: ds, Q, .cons ⟨as, r⟩ t, h => by
    rw [List.mapM_cons]
    cases r with
    | @tuple a o xs n _ _ ho hc hd hr =>
      refine wpAny_bind ?_
      rw [kas_first_eq]
      refine wpAny_bind (Looks.here (show Looks (model prog w) s.heap (typeOf (.ref a)) o.cls from (Looks.ld ho).andThen .now) ?_)
      rw [hc, if_neg (by first | decide | simp)]
      refine wpAny_bind (listItems_at ho hd (wpAny_pure (wpAny_bind (firsts_at2 t (Q := fun bs s' => wpAny (model prog w) A (pure (xs[0]? :: bs)) Q E s') fun fs hl hf hg => wpAny_pure (h _ (by simp [hl]) (fun i hi => ?_) fun i d' r' hi => ?_)))))
      · cases i with
        | zero =>
          have e : d = [] := by simpa using hi
          subst e
          have hz := ReadsAll.length _ _ _ hr
          have : xs.size = 0 := by simpa using hz
          simp [this]
        | succ i => simpa using hf i (by simpa using hi)
      · cases i with
        | zero =>
          have e : d = d' :: r' := by simpa using hi
          subst e
          have hz := ReadsAll.length _ _ _ hr
          have : 0 < xs.size := by
            have h2 : xs.size = r'.length + 1 := by simpa using hz
            omega
          exact ⟨xs[0], by simp [this]⟩
        | succ i => simpa using hg i d' r' (by simpa using hi)
theorem kind_mid {vs : List Value} {ds : List (List PyData)} {Q : SortKind → Shared → Prop} (e : EachIs (fun v d => ∃ as, Reads s.heap v (.tuple d) as) vs ds) (h0 : ∃ d r, ds[0]? = some (d :: r)) (h1 : ∃ i : Nat, ds[i]? = some []) (h : Q general' s) : wpAny (model prog w) A (keyKind' vs.toArray) Q E s := by
  rw [kat_kind_eq, List.mapM_toArray, map_eq_pure_bind]
  refine wpAny_bind (wpAny_bind (firsts_at2 e fun fs hlen hf hg => wpAny_pure ?_))
  obtain ⟨i, hi⟩ := h1
  obtain ⟨d, r, hd⟩ := h0
  have hn := hf i hi
  obtain ⟨u, hu⟩ := hg 0 d r hd
  have hno : ¬ ((fs.toArray.all fun x => x.isSome) = true) := by
    simp only [List.all_toArray, List.all_eq_true]
    intro z
    have := z none (List.mem_of_getElem? hn)
    cases this
  have hf0 : (fs.toArray[0]?.bind id).isSome = true := by
    rw [List.getElem?_toArray, hu]
    rfl
  rw [if_neg hno, if_pos hf0]
  exact wpAny_pure h
theorem keyLt'_general (x y : Value) : keyLt' general' x y = oneLt' false x y := rfl
theorem sorts_mid {vs : List Value} {ds : List (List PyData)} (e : EachIs (fun v d => ∃ as, Reads s.heap v (.tuple d) as) vs ds) (e2 : EachIs (fun v d => ∃ as, Reads s.heap v d as) vs (ds.map PyData.tuple)) (h0 : ∃ d r, ds[0]? = some (d :: r)) (h1 : ∃ i : Nat, ds[i]? = some []) (hal : AllAlike (ds.map PyData.tuple))
    (hu : ∀ d, d ∈ ds.map PyData.tuple → A.units + d.depth < cLine) : SortsAt prog w A s (dataKind s.heap (ds.map PyData.tuple)) vs := by
  refine ⟨fun v hv => ?_, general', ?_, fun _ E Q hq => kind_mid e h0 h1 hq⟩
  · obtain ⟨d, hd, as, r⟩ := e2.left v hv
    exact ⟨_, dataKind_some hal hd r⟩
  · intro E x y a b Q ha hb hq
    obtain ⟨d, as, hd, ra, rfl⟩ := dataKind_inv ha
    obtain ⟨d', as', hd', rb, rfl⟩ := dataKind_inv hb
    obtain ⟨xs, _, rfl⟩ := List.mem_map.mp hd
    obtain ⟨ys, _, rfl⟩ := List.mem_map.mp hd'
    rw [keyLt'_general]
    exact kat_one _ _ (lt_data ra rb (hal _ hd _ hd') (fun z => by cases z) (Nat.lt_of_le_of_lt (Nat.add_le_add_left (Nat.min_le_left _ _) _) (hu _ hd)) hq)
end
end Oo
namespace Oo
open PySem L2 PyProof.Rows
def rSortedP2 (K : PySem.W.Frag) : List V → Hp → VK → Prop := fun vs H Q => ∃ (a : Addr) (rows : List V) (ps : List (List Nat)), vs = [.ref a] ∧ SqL K H a rows ∧ Paired (PathAt H) rows ps ∧ ps.length ≤ 1000 ∧
  ∀ (q : Addr) (bs : List (V × List Nat)), H q = none → bs.Perm (rows.zip ps) → bs.Pairwise (fun x y => ¬ pathLt y.2 x.2) → Q (.ref q) (upd H q (.lst (bs.map (·.1))))
theorem cr_sortedP2 {X : Cx} (hu : X.A.units + 64 < cLine) : CallR X (.builtin "sorted") (rSortedP2 X.K) := by
  intro pins s σ H vs us Q I r h
  obtain ⟨a, rows, ps, rfl, hs, pr, hlen, q⟩ := h
  obtain ⟨its, rv, hl, _⟩ := I.list hs
  rw [Vals.ref1 r]
  have hrl : rows.length = ps.length := pr.length
  have hil : its.length = ps.length := by rw [← rv.length]; exact hrl
  let bs := rows.zip ps
  have ebs2 : bs.map (·.2) = ps := zip_snd hrl
  have ebs1 : bs.map (·.1) = rows := zip_fst hrl
  have bl : bs.length = ps.length := by rw [← ebs2, List.length_map]
  let enc : V × List Nat → PyData := fun b => dP b.2
  have emap : bs.map enc = ps.map dP := by rw [← ebs2, List.map_map]; rfl
  have e : PySem.W.EachIs (fun u (b : V × List Nat) => RelV b.1 u) its bs := each_zip (fun u v p x _ => x) rv pr
  have er : PySem.W.EachIs (fun u (b : V × List Nat) => ∃ as, Reads s.heap u (enc b) as) its bs := each_zip (F := PathAt H) (fun u v p x y => Dp.reads I (dP p) v u y.dp x) rv pr
  have hal : PySem.W.AllAlike (bs.map enc) := by rw [emap]; exact alike_paths ps
  have hd1 : ∀ b ∈ bs, X.A.units + 2 + (enc b).depth < cLine := fun b _ => by
    show X.A.units + 2 + (dP b.2).depth < cLine
    rw [depth_path]
    omega
  have hL : its.length ≤ sizeLine := sz (by omega)
  have er' : PySem.W.EachIs (fun v b => ∃ as, Reads (PySem.W.sortingHeap (PySem.W.copyHeap s.heap its) (s.heap.objs.size + 1) its) v (enc b) as) its bs := er.mono fun _ _ ⟨as, r⟩ => ⟨as, PyProof.Rows.Reads.keeps (fun _ _ => PySem.W.sorting_copy_old) r⟩
  let hS := PySem.W.sortingHeap (PySem.W.copyHeap s.heap its) (s.heap.objs.size + 1) its
  have hd2 : ∀ d, d ∈ bs.map enc → X.A.in1.in1.units + d.depth < cLine := fun d hd => by
    obtain ⟨b, hb, rfl⟩ := List.mem_map.mp hd
    have := hd1 b hb
    show X.A.units + 1 + 1 + (enc b).depth < cLine
    omega
  have S : PySem.W.SortsAt X.prog X.w X.A.in1.in1 { s with heap := hS } (PySem.W.dataKind hS (bs.map enc)) its := by
    by_cases hz : ∀ p ∈ ps, p ≠ []
    · refine PySem.W.SortsAt.data (s := { s with heap := hS }) (PySem.W.each_map (R := fun v d => ∃ as, Reads hS v d as) enc er') hal (.inl fun d hd => ?_) hd2
      rw [emap] at hd
      obtain ⟨p, hp, rfl⟩ := List.mem_map.mp hd
      cases p with
      | nil => exact absurd rfl (hz _ hp)
      | cons i p => exact ⟨_, _, rfl⟩
    · have hex : ∃ p, p ∈ ps ∧ p = [] := Classical.byContradiction fun z => hz fun p hp e => z ⟨p, hp, e⟩
      have er2 := PySem.W.each_map (R := fun v d => ∃ as, Reads hS v d as) enc er'
      cases hps : ps with
      | nil => rw [hps] at hex; obtain ⟨p, h, _⟩ := hex; cases h
      | cons p0 t =>
        cases p0 with
        | nil =>
          have em2 : bs.map enc = (([] : List PyData) :: t.map dI).map PyData.tuple := by
            rw [emap, hps]
            simp [dP, dI]
          rw [em2] at er2 hal hd2 ⊢
          exact sorts_first (s := { s with heap := hS }) (each_unmap er2) er2 hal hd2
        | cons i0 r0 =>
          have em2 : bs.map enc = ((dI (i0 :: r0)) :: t.map dI).map PyData.tuple := by
            rw [emap, hps]
            simp [dP, dI]
          rw [em2] at er2 hal hd2 ⊢
          refine sorts_mid (s := { s with heap := hS }) (each_unmap er2) er2 ⟨_, _, rfl⟩ ?_ hal hd2
          obtain ⟨p, hp, rfl⟩ := hex
          rw [hps] at hp
          rcases List.mem_cons.mp hp with h | h
          · cases h
          · obtain ⟨j, hj, ej⟩ := List.getElem_of_mem h
            refine ⟨j + 1, ?_⟩
            rw [List.getElem?_cons_succ, List.getElem?_map, List.getElem?_eq_getElem hj, ej]
            rfl
  have eo := PySem.W.sortVals_data (h' := hS) false e er' hal
  have hv := vals_of_each (fun u b x => x) eo
  have perm := List.mergeSort_perm bs (PySem.W.dataLe false enc)
  have TL := PySem.W.sortLe_total (listOrd itemOrd) false (fun b => PySem.W.keyToks (enc b))
  have pw := List.pairwise_mergeSort (le := PySem.W.dataLe false enc) (fun a b c h1 h2 => TL.trans a b c h1 h2) (fun a b => by
    rcases TL.total a b with h | h
    · exact Bool.or_eq_true_iff.mpr (.inl h)
    · exact Bool.or_eq_true_iff.mpr (.inr h)) bs
  refine PySem.W.sorted_vals hl.isList S hL ?_
  obtain ⟨ep, he'⟩ := PyProof.Rows.sortedAll_at s.heap its (PySem.W.sortVals (PySem.W.dataKind hS (bs.map enc)) false its its).toArray
  refine ⟨.ref _, upd H (s.heap.objs.size + 1) (.lst _), I.laid (t' := s.toks) (fun _ _ => PyProof.Rows.sortedAll_old) (Nat.le_succ _) ⟨?_, _, ep, by simpa using hv, he'⟩, rfl, q _ _ (I.hok.fresh (Nat.le_succ _)) perm ?_⟩
  · rw [List.length_map, perm.length_eq, bl]
    exact sz (by omega)
  · refine pw.imp fun {x y} hxy => ?_
    have h2 : (!PySem.W.dataLt (dP y.2) (dP x.2)) = true := hxy
    intro z
    have z' : PySem.W.dataLt (dP y.2) (dP x.2) = true := z
    rw [z'] at h2
    cases h2
end Oo
namespace Oo
open PySem L2 PyProof.Rows LamX StX ClX
abbrev sTask : Stmt := top 59
abbrev sTInit : Stmt := inClass sTask 2
abbrev sTOpen : Stmt := inClass sTask 5
abbrev sTWith : Stmt := inClass sTask 6
abbrev sTLen : Stmt := inClass sTask 8
abbrev sTStr : Stmt := inClass sTask 9
abbrev sTRepr : Stmt := inClass sTask 10
structure TxT (K : PySem.W.Frag) (C : Addr) (mc : Value) : Prop where
  cl : Cls K C
  nB : NoAttr K C "book"
  nE : NoAttr K C "expression"
  nP : NoAttr K C "points"
  nR : NoAttr K C "rows"
  nL : NoAttr K C "layout"
  rd : CRead K C mc
/-- a task as an object -/
structure TaskFs (fs : List (Str × V)) (vb ve : V) (tp tr : Addr) : Prop where
  b : fs.lookup ("book" : Str) = some vb
  e : fs.lookup ("expression" : Str) = some ve
  p : fs.lookup ("points" : Str) = some (.ref tp)
  r : fs.lookup ("rows" : Str) = some (.ref tr)
  n1 : fs.lookup ("open_nodes" : Str) = none
  n2 : fs.lookup ("with_points" : Str) = none
  n3 : fs.lookup ("nodes" : Str) = none
  n4 : fs.lookup ("node" : Str) = none
  n5 : fs.lookup ("put" : Str) = none
theorem seqT_ext {K : PySem.W.Frag} {H H' : Hp} {a : Addr} {xs : List V} (h : SqT K H a xs) (e : ExtN H H') : SqT K H' a xs := by
  rcases h with (h | ⟨o, h⟩) | h
  · exact .inl (.inl (e _ _ h not_tbl_tup))
  · exact .inl (.inr ⟨o, e _ _ h fun ps z => by cases z⟩)
  · exact .inr h
theorem seqT_but {K : PySem.W.Frag} {CT p dx0 : Addr} {H H' : Hp} (b : But p H H') {fs : List (Str × V)} (hp : H p = some (.ins CT dx0 fs)) {a : Addr} {xs : List V} (h : SqT K H a xs) : SqT K H' a xs := by
  rcases h with (h | ⟨o, h⟩) | h
  · exact .inl (.inl (b _ _ (fun w => by rw [w, hp] at h; cases h) h))
  · exact .inl (.inr ⟨o, b _ _ (fun w => by rw [w, hp] at h; cases h) h⟩)
  · exact .inr h
def TaskAt (K : PySem.W.Frag) (CF CB CT CS CL : Addr) (H : Hp) (v : V) (fns : List Fn) (e : Ex) (mk : List (List Nat)) : Prop := ∃ (p dx : Addr) (fs : List (Str × V)) (vb ve : V) (tp tr : Addr) (rp rr : List V), v = .ref p ∧ H p = some (.ins CT dx fs) ∧ TaskFs fs vb ve tp tr ∧ BookAt CF CB H vb fns ∧ InE H e ve ∧ SqT K H tp rp ∧ Paired (PathAt H) rp mk ∧ H tr = some (.tup rr) ∧ Paired (RowN H) rr (e.pre []) ∧ ∃ vl, fs.lookup ("layout" : Str) = some vl ∧ LayAt CS CL H vl fns e mk
theorem InE.keepN {H H' : Hp} {e : Ex} {v : V} (h : InE H e v) (s : ExtN H H') : InE H' e v := h.keep (fun p xs z => s _ _ z not_tbl_tup) e v
theorem TaskAt.keepN {K : PySem.W.Frag} {CF CB CT CS CL : Addr} {H H' : Hp} {v : V} {fns : List Fn} {e : Ex} {mk : List (List Nat)} (h : TaskAt K CF CB CT CS CL H v fns e mk) (s : ExtN H H') : TaskAt K CF CB CT CS CL H' v fns e mk := by
  obtain ⟨p, dx, fs, vb, ve, tp, tr, rp, rr, e1, h1, hf, h2, h3, h4, h5, h6, h7, hL⟩ := h
  have kt : ∀ q xs, H q = some (.tup xs) → H' q = some (.tup xs) := fun q xs z => s _ _ z not_tbl_tup
  exact ⟨p, dx, fs, vb, ve, tp, tr, rp, rr, e1, s _ _ h1 not_tbl_ins, hf, h2.keepN s, h3.keepN s, seqT_ext h4 s, L2.Paired.mapP h5 fun a b z => z.keep kt, kt _ _ h6, L2.Paired.mapP h7 fun a b z => z.keep kt, let ⟨vl, l1, l2⟩ := hL; ⟨vl, l1, l2.keepN ⟨kt, fun q dx fs v _ z => s _ _ z not_tbl_ins⟩ fun q dx fs v _ z => s _ _ z not_tbl_ins⟩⟩
theorem TaskAt.keep {K : PySem.W.Frag} {CF CB CT CS CL : Addr} {H H' : Hp} {v : V} {fns : List Fn} {e : Ex} {mk : List (List Nat)} (h : TaskAt K CF CB CT CS CL H v fns e mk) (s : Same H H') : TaskAt K CF CB CT CS CL H' v fns e mk := h.keepN (same_extN s)
def teLen1 (i : Nat) : TE := fun σ H Q => ∃ (vp : V) (p : List Nat), σ[i]? = some (some vp) ∧ PathAt H vp p ∧ Q (.int ((p.length + 1 : Nat) : Int)) H
structure PtsOk (K : PySem.W.Frag) (H : Hp) (e : Ex) (tp : Addr) (rp : List V) (mk : List (List Nat)) : Prop where
  tp : SqT K H tp rp
  pr : Paired (PathAt H) rp mk
  op : ∀ p ∈ mk, p ∈ e.opens []
  asc : mk.Pairwise pathLt
def spTInit (K : PySem.W.Frag) (CF CB CT CS CL : Addr) : Sp := fun vs H Q _ => ∃ (p dx : Addr) (vb ve : V) (tp : Addr) (rp : List V) (mk : List (List Nat)) (e : Ex) (ps : List Str) (fns : List Fn), vs = [.ref p, vb, ve, .ref tp] ∧ H p = some (.ins CT dx []) ∧ BookAt CF CB H vb fns ∧ KitW ps fns ∧ InE H e ve ∧ ExW ps fns e ∧ e.depth ≤ 25 ∧ e.nodes ≤ 200 ∧ PtsOk K H e tp rp mk ∧
  ∀ H', TaskAt K CF CB CT CS CL H' (.ref p) fns e mk → But p H H' → Q .non H'
theorem pairwise_nodup {ps : List (List Nat)} (h : ps.Pairwise pathLt) : ps.Nodup := by
  refine List.nodup_iff_pairwise_ne.mpr (h.imp fun {a b} z w => ?_)
  subst w
  have z' : PySem.W.dataLt (dP a) (dP a) = true := z
  have h1 : (listOrd itemOrd).blt (PySem.W.keyToks (dP a)) (PySem.W.keyToks (dP a)) = true := z'
  rw [(listOrd itemOrd).irrefl] at h1
  cases h1
theorem nodup_le {α : Type} [DecidableEq α] : ∀ (l l' : List α), l.Nodup → (∀ a ∈ l, a ∈ l') → l.length ≤ l'.length
  | [], _, _, _ => Nat.zero_le _
  | a :: r, l', nd, h => by
    rw [List.nodup_cons] at nd
    have ha := h a List.mem_cons_self
    have := nodup_le r (l'.erase a) nd.2 fun b hb => (List.mem_erase_of_ne (fun z => nd.1 (by rw [← z]; exact hb))).mpr (h b (List.mem_cons_of_mem _ hb))
    rw [List.length_erase_of_mem ha] at this
    have : 0 < l'.length := List.length_pos_of_mem ha
    rw [List.length_cons]
    omega
theorem opens_le (e : Ex) {mk : List (List Nat)} (nd : mk.Nodup) (h : ∀ p ∈ mk, p ∈ e.opens []) : mk.length ≤ e.nodes :=
  Nat.le_trans (nodup_le mk _ nd h) (opens_len e)
section
variable {P : Program} {w : World} {K : PySem.W.Frag} {mg : Str → Option Value} {base : Heap} {X : Cx}
theorem scTInit : FnScope ["self", "book", "expression", "points", "rows", "path", "node"] ["self", "book", "expression", "points"] (defScope sTInit) := ⟨rfl, rfl, rfl, by decide +kernel, rfl, by decide +kernel, by decide +kernel⟩
theorem ok_tinit {CF CB CT CS CL f fn fp fl : Addr} {fd fdn fdp fdl : FuncData} {mc u200 u30 : Value} {dvs : List V} {kws : List (Str × V)} (F : FunD K "__init__" "Task.__init__" (defArgs sTInit) (defBody sTInit) (defScope sTInit) dvs kws f fd) (T : TxT K CT mc) (mT : mg "Task" = some (.ref CT))
    (cN : CVal K CT mc "MOST_NODES" (.int 200) u200) (cD : CVal K CT mc "MOST_DEPTH" (.int 30) u30) (ml : mg "len" = none) (mx : mg "max" = none) (mt : mg "tuple" = none)
    (GN : FnOk P w K mg base CX0 10 fn fdn ["book", "value"] (spNodesOf CF CB)) (kN : PySem.W.keepIn K (.ref fn) = true) (bN : Binds K fdn ["book", "value"] []) (mN : mg "nodes_of" = some (.ref fn))
    (GP : FnOk P w K mg base CX0 5 fp fdp ["expression", "value"] (spArePoints K)) (kP : PySem.W.keepIn K (.ref fp) = true) (bP : Binds K fdp ["expression", "value"] []) (mP : mg "are_points" = some (.ref fp))
    (ML : Mk K CL fl) (mL : mg "Layout" = some (.ref CL)) (GL : FnOk P w K mg base CX0 34 fl fdl ["self", "book", "expression", "points"] (spLInit K CF CB CS CL 25)) (bL : Binds K fdl ["self", "book", "expression", "points"] []) :
    FnOk P w K mg base CX0 36 f fd ["self", "book", "expression", "points"] (spTInit K CF CB CT CS CL) := by
  refine FunD.ok0 F scTInit (fun vs H Q E h => ?_) (fun cdv A outer s H vs Q E hr h => ?_)
  · obtain ⟨p, dx, vb, ve, tp, rp, mk, e, ps, fns, rfl, _⟩ := h
    rfl
  obtain ⟨p, dx, vb, ve, tp, rp, mk, e, ps, fns, rfl, ep, hB, kw, ie, ew, hd, hn, ⟨etp, pmk, hop, asc⟩, q⟩ := h
  have hr5 : Room 5 _ := hr.mono (by decide)
  have hr10 : Room 10 _ := hr.mono (by decide)
  refine ⟨_, (pss_cons (ps_set (i := 4) scTInit.nd rfl (.inl rfl) (pe_call GN hr10 rfl mN kN bN .nil pass0 (pa_cons (pv 1) (pa_cons (pv 2) pa_nil))))
    (pss_cons (ps_if (pt_cmpR op_gt (pe_callB call_len_seq (by rfl) ml PySem.boot_len (pa_cons (pv 4) pa_nil)) (pe_cval (pe_globD rfl mT)) (nomark _)) (pss_one ps_never) pss_nil)
    (pss_cons (ps_if (pt_cmpR op_gt (pe_callB (cr_max rfl) (by rfl) mx PyProof.Rows.boot_max (pa_cons (pe_lc (own := [("path", 5), ("node", 6)]) (g := gTup K 2 (gCons (gName 5) (gCons (gName 6) gNil))) (tt := tYes) (by rfl) scTInit.nd (pi_list (pv 4)) (blkOk_by (own := [("path", 5), ("node", 6)]) (N := ["self", "book", "expression", "points", "rows", "path", "node"]) (sc := defScope sTInit) (by decide +kernel)) (fun _ _ _ _ _ => (pg_tup rfl (pgs_cons (pg_name (i := 5) scTInit.nd rfl (Or.inl rfl)) (pgs_cons (pg_name (i := 6) scTInit.nd rfl (Or.inl rfl)) pgs_nil)))) (fun _ _ _ _ _ => pts_nil) (fun _ _ _ _ _ => (pe_as (t' := teLen1 5) (pe_op op_add (pe_callB call_len_seq (by rfl) ml PySem.boot_len (pa_cons (pv 5) pa_nil)) pe_int) ?c1))) pa_nil)) (pe_cval (pe_globD rfl mT)) (nomark _)) (pss_one ps_never) pss_nil)
    (pss_cons (ps_if (pt_not (pt_val (pe_call GP hr5 rfl mP kP bP .nil pass0 (pa_cons (pv 2) (pa_cons (pv 3) pa_nil))))) (pss_one ps_never) pss_nil)
    (pss_cons (ps_fld (pv 0) (pv 1) rfl)
    (pss_cons (ps_fld (pv 0) (pv 2) rfl)
    (pss_cons (ps_fld (pv 0) (pv 3) rfl)
    (pss_cons (ps_fld (pv 0) (pe_tupleOf (by rfl) mt (pv 4)) rfl)
    (pss_one (ps_fld (pv 0) (pe_make ML GL hr rfl mL bL .nil pass0 (pa_cons (pv 1) (pa_cons (pv 2) (pa_cons (pv 3) pa_nil)))) rfl)))))))))), ?_⟩
  case c1 =>
    rintro σ H Q ⟨vp, p, e5, ⟨pa, rfl, epa⟩, q⟩
    refine ⟨_, e5, pa, _, rfl, .inr (SqT.of epa), _, _, rfl, rfl, ?_⟩
    have : ((pv_ p).length : Int) + 1 = ((p.length + 1 : Nat) : Int) := by simp [pv_]
    show Q (V.int (((pv_ p).length : Int) + 1)) H
    rw [this]
    exact q
  refine ⟨_, rfl, _, rfl, vb, ve, e, ps, fns, rfl, hB, kw, ie, ew, by omega, by omega, fun lr rr H1 nlr er pr s1 => ?_⟩
  have hrl : rr.length = e.nodes := by rw [pr.length, pre_len]
  refine ⟨_, rfl, lr, _, rfl, .inl (SqL.of er), CT, mc, _, u200, rfl, T.rd, cN, _, _, rfl, rfl, _, rfl, iteNo (by omega) ?_⟩
  refine ⟨_, rfl, lr, rfl, ⟨_, SqL.of er⟩, fun D nD => ?_⟩
  have sD := same_up (o := .lst []) nD
  refine lc_list (K := K) (a := lr) (xs := rr) (fun i H' => H' D = some (.lst ((((e.pre []).take i).map fun x => ((x.1.length + 1 : Nat) : Int)).map V.int)) ∧ Same H1 H') ⟨upd_same, sD⟩ (fun i H' _ h => SqL.of (h.2 _ _ er)) ?_ ?_
  · rintro i u H2 hi ⟨eD, s2⟩
    obtain ⟨x, hx, rx⟩ := paired_get pr hi
    have hil : i < (e.pre []).length := (List.getElem?_eq_some_iff.mp hx).1
    have ex : (e.pre [])[i] = x := (List.getElem?_eq_some_iff.mp hx).2
    obtain ⟨qd, vp, ve', rfl, eq, hp', ie'⟩ := rx.keep (same_t s2)
    refine ⟨qd, _, rfl, SqT.of eq, rfl, _, _, rfl, _, _, rfl, rfl, rfl, yes_i ⟨vp, x.1, rfl, hp', _, eD, small1000 ?_, ?_, fun b o z => by rw [upd_ne (ne_of_none z nD)]; exact s2 b o z⟩⟩
    · rw [List.length_map, List.length_map, List.length_take]
      rw [pre_len] at hil ⊢
      omega
    · rw [take_succ_get _ i hil, List.map_append, List.map_append, ex]
      exact upd_same
  · rintro H2 ⟨eD, s2⟩
    rw [hrl, ← pre_len e [], List.take_length] at eD
    refine ⟨D, _, rfl, SqL.of eD, ?_, fun m hm hle => ?_⟩
    · rw [List.length_map, pre_len]
      exact nodes_pos e
    · obtain ⟨x, hx, rfl⟩ := List.mem_map.mp hm
      have hsh := pre_short e [] x hx
      rw [List.length_nil] at hsh
      refine ⟨CT, mc, _, u30, rfl, T.rd, cD, _, _, rfl, rfl, _, rfl, iteNo (by omega) ?_⟩
      have s12 := s1.trans s2
      refine ⟨_, rfl, _, rfl, ve, e, tp, rp, mk, rfl, ie.keep (same_t s12), ExW.shp _ ew, by omega, same_seqT s12 etp, L2.Paired.mapP pmk fun a b z => z.keep (same_t s12), ?_, hop, asc, fun H3 s3 => ⟨true, rfl, iteF ?_⟩⟩
      · exact Nat.le_trans (opens_le e (pairwise_nodup asc) hop) (by omega)
      have s13 := s12.trans s3
      have ep3 := s13 _ _ ep
      refine ⟨_, rfl, _, rfl, p, CT, dx, _, rfl, ep3, T.cl, T.nB, by simp, ?_⟩
      refine ⟨_, rfl, _, rfl, p, CT, dx, _, rfl, upd_same, T.cl, T.nE, by simp [putF], ?_⟩
      refine ⟨_, rfl, _, rfl, p, CT, dx, _, rfl, upd_same, T.cl, T.nP, Nat.lt_of_le_of_lt (plen2 _ _ _ _) (by decide), ?_⟩
      have nlp : lr ≠ p := fun z => by rw [z, ep] at nlr; cases nlr
      have er3 : H3 lr = some (.lst rr) := s3 _ _ (s2 _ _ er)
      refine ⟨_, rfl, .inl ⟨lr, rr, rfl, SqL.of (by rw [upd_ne nlp, upd_ne nlp, upd_ne nlp]; exact er3), fun tr ntr => ?_⟩⟩
      have npt : p ≠ tr := ne_of_none (o := .ins CT dx (putF "points" (.ref tp) (putF "expression" ve (putF "book" vb [])))) upd_same ntr
      refine ⟨_, rfl, p, CT, dx, _, rfl, by rw [upd_ne npt]; exact upd_same, T.cl, T.nR, Nat.lt_of_le_of_lt (plen3 _ _ _ _ _ _) (by decide), ?_⟩
      have e4 : (upd (upd (upd (upd (upd H3 p (.ins CT dx (putF "book" vb []))) p (.ins CT dx (putF "expression" ve (putF "book" vb [])))) p (.ins CT dx (putF "points" (.ref tp) (putF "expression" ve (putF "book" vb []))))) tr (.tup rr)) p (.ins CT dx (putF "rows" (.ref tr) (putF "points" (.ref tp) (putF "expression" ve (putF "book" vb [])))))) p = some (.ins CT dx (putF "rows" (.ref tr) (putF "points" (.ref tp) (putF "expression" ve (putF "book" vb []))))) := upd_same
      have bB : But p H3 (upd (upd (upd (upd (upd H3 p (.ins CT dx (putF "book" vb []))) p (.ins CT dx (putF "expression" ve (putF "book" vb [])))) p (.ins CT dx (putF "points" (.ref tp) (putF "expression" ve (putF "book" vb []))))) tr (.tup rr)) p (.ins CT dx (putF "rows" (.ref tr) (putF "points" (.ref tp) (putF "expression" ve (putF "book" vb [])))))) := fun b o n z => by
        have nt : b ≠ tr := fun w => by
          rw [upd_ne npt.symm, upd_ne npt.symm, upd_ne npt.symm] at ntr
          rw [w, ntr] at z
          cases z
        rw [upd_ne n, upd_ne nt, upd_ne n, upd_ne n, upd_ne n]
        exact z
      have etr : (upd (upd (upd (upd (upd H3 p (.ins CT dx (putF "book" vb []))) p (.ins CT dx (putF "expression" ve (putF "book" vb [])))) p (.ins CT dx (putF "points" (.ref tp) (putF "expression" ve (putF "book" vb []))))) tr (.tup rr)) p (.ins CT dx (putF "rows" (.ref tr) (putF "points" (.ref tp) (putF "expression" ve (putF "book" vb [])))))) tr = some (.tup rr) := by rw [upd_ne npt.symm]; exact upd_same
      generalize (upd (upd (upd (upd (upd H3 p (.ins CT dx (putF "book" vb []))) p (.ins CT dx (putF "expression" ve (putF "book" vb [])))) p (.ins CT dx (putF "points" (.ref tp) (putF "expression" ve (putF "book" vb []))))) tr (.tup rr)) p (.ins CT dx (putF "rows" (.ref tr) (putF "points" (.ref tp) (putF "expression" ve (putF "book" vb [])))))) = H4 at e4 bB etr ⊢
      have kt := bB.tup ep3
      -- the layout
      refine ⟨_, rfl, _, rfl, _, rfl, fun x dxl hx hdx hne => ?_⟩
      have sm := made_same (C := CL) hx hdx
      have hB4 := (hB.keep s13).but ep3 bB
      have ie4 := (ie.keep (same_t s13)).keep kt
      have et4 := seqT_but bB ep3 (same_seqT s13 etp)
      have pm4 : Paired (PathAt H4) rp mk := L2.Paired.mapP pmk fun a b z => (z.keep (same_t s13)).keep kt
      refine ⟨x, dxl, vb, ve, tp, rp, mk, e, ps, fns, rfl, upd_same, hB4.keep sm, kw, ie4.keep (same_t sm), ew, hd, by omega, hn, same_seqT sm et4, L2.Paired.mapP pm4 fun a b z => z.keep (same_t sm), fun H5 hL hBx => ⟨rfl, ?_⟩⟩
      have s45 := but_same sm hx hBx
      have e5 := s45 _ _ e4
      refine ⟨_, rfl, p, CT, dx, _, rfl, e5, T.cl, T.nL, by ((refine Nat.lt_of_le_of_lt (m := 40) ?_ (by decide); repeat (first | exact Nat.zero_le _ | refine putF_len _ _ _ ?_))), ?_⟩
      have b56 : But p H5 (upd H5 p (.ins CT dx (putF "layout" (.ref x) (putF "rows" (.ref tr) (putF "points" (.ref tp) (putF "expression" ve (putF "book" vb []))))))) := fun b o n z => by rw [upd_ne n]; exact z
      have b36 : But p H3 (upd H5 p (.ins CT dx (putF "layout" (.ref x) (putF "rows" (.ref tr) (putF "points" (.ref tp) (putF "expression" ve (putF "book" vb []))))))) := fun b o n z => b56 b o n (s45 _ _ (bB b o n z))
      have kt6 := b36.tup ep3
      refine q _ ⟨p, dx, _, vb, ve, tp, tr, rp, rr, rfl, upd_same, ?_, (hB.keep s13).but ep3 b36, (ie.keep (same_t s13)).keep kt6, seqT_but b36 ep3 (same_seqT s13 etp), L2.Paired.mapP pmk fun a b z => (z.keep (same_t s13)).keep kt6, ?_, L2.Paired.mapP pr fun a b z => (z.keep (same_t (s2.trans s3))).keep kt6, .ref x, by ((repeat (first | (rw [lookup_putF, if_pos rfl]) | rw [lookup_putF, if_neg (by decide +kernel)]))), hL.keepN (KI.but e5 b56 (by ((repeat (first | (rw [lookup_putF, if_pos rfl]) | rw [lookup_putF, if_neg (by decide +kernel)]))); rfl)) (KL.but e5 b56 (by ((repeat (first | (rw [lookup_putF, if_pos rfl]) | rw [lookup_putF, if_neg (by decide +kernel)]))); rfl))⟩ (fun b o n z => b36 b o n (s13 _ _ z))
      · exact ⟨by ((repeat (first | (rw [lookup_putF, if_pos rfl]) | rw [lookup_putF, if_neg (by decide +kernel)]))), by ((repeat (first | (rw [lookup_putF, if_pos rfl]) | rw [lookup_putF, if_neg (by decide +kernel)]))), by ((repeat (first | (rw [lookup_putF, if_pos rfl]) | rw [lookup_putF, if_neg (by decide +kernel)]))), by ((repeat (first | (rw [lookup_putF, if_pos rfl]) | rw [lookup_putF, if_neg (by decide +kernel)]))), by ((repeat (first | (rw [lookup_putF, if_pos rfl]) | rw [lookup_putF, if_neg (by decide +kernel)]))); rfl, by ((repeat (first | (rw [lookup_putF, if_pos rfl]) | rw [lookup_putF, if_neg (by decide +kernel)]))); rfl, by ((repeat (first | (rw [lookup_putF, if_pos rfl]) | rw [lookup_putF, if_neg (by decide +kernel)]))); rfl, by ((repeat (first | (rw [lookup_putF, if_pos rfl]) | rw [lookup_putF, if_neg (by decide +kernel)]))); rfl, by ((repeat (first | (rw [lookup_putF, if_pos rfl]) | rw [lookup_putF, if_neg (by decide +kernel)]))); rfl⟩
      · rw [upd_ne npt.symm]; exact s45 _ _ etr
end
end Oo
namespace Oo
open PySem L2 PyProof.Rows LamX StX ClX
def ttOpenN (K : PySem.W.Frag) (CF CB CT CS CL : Addr) : TT := fun σ H Q => ∃ (t vp ve : V) (fns : List Fn) (e e' : Ex) (mk : List (List Nat)) (p : List Nat), σ[0]? = some (some t) ∧ σ[1]? = some (some vp) ∧ σ[2]? = some (some ve) ∧ TaskAt K CF CB CT CS CL H t fns e mk ∧ PathAt H vp p ∧ InE H e' ve ∧ Q (isOpenE e' && !decide (p ∈ mk)) H
def spTOpen (K : PySem.W.Frag) (CF CB CT CS CL : Addr) : Sp := fun vs H Q _ => ∃ v fns e mk, vs = [v] ∧ TaskAt K CF CB CT CS CL H v fns e mk ∧ e.nodes ≤ 900 ∧ ∀ (l : Addr) (rows : List V) (H' : Hp), H' l = some (.lst rows) → Paired (PathAt H') rows ((e.opens []).filter fun p => !decide (p ∈ mk)) → H l = none → Same H H' → Q (.ref l) H'
def spTLen (K : PySem.W.Frag) (CF CB CT CS CL : Addr) : Sp := fun vs H Q _ => ∃ v fns e mk ps, vs = [v] ∧ TaskAt K CF CB CT CS CL H v fns e mk ∧ KitW ps fns ∧ ExW ps fns e ∧ Q (.int (e.steps : Int)) H
mutual
theorem own_sum : ∀ (e : Ex) (p : List Nat), ((e.pre p).map fun x => x.2.own).sum = e.steps
  | .num n, p => by simp [Ex.pre, Ex.own, Ex.steps]
  | .nd k os, p => by
    have := owns_sum os p 0
    simp only [Ex.pre, List.map_cons, List.sum_cons, this, Ex.steps]
    rfl
theorem owns_sum : ∀ (os : List Ex) (p : List Nat) (j : Nat), ((Ex.pres os p j).map fun x => x.2.own).sum = Ex.stepss os
  | [], p, j => by simp [Ex.pres, Ex.stepss]
  | e :: r, p, j => by
    have h1 := own_sum e (p ++ [j])
    have h2 := owns_sum r p (j + 1)
    simp only [Ex.pres, List.map_append, List.sum_append, h1, h2, Ex.stepss]
end
end Oo
namespace Oo
open PySem L2 PyProof.Rows LamX StX ClX
section
variable {P : Program} {w : World} {K : PySem.W.Frag} {mg : Str → Option Value} {base : Heap} {X : Cx}
theorem scTLen : FnScope ["self"] ["self"] (defScope sTLen) := ⟨rfl, rfl, rfl, by decide +kernel, rfl, by decide +kernel, by decide +kernel⟩
theorem ok_tlen {CF CB CT CS CL f : Addr} {fd : FuncData} {mc : Value} (F : Fun K "__len__" "Task.__len__" sTLen f fd) (T : TxT K CT mc) (L : TxL K CL) (ml : mg "len" = none) : FnOk P w K mg base CX0 1 f fd ["self"] (spTLen K CF CB CT CS CL) := by
  refine F.ok scTLen (fun vs H Q E h => ?_) (fun cdv A outer s H vs Q E hr h => ?_)
  · obtain ⟨v, fns, e, mk, ps, rfl, _⟩ := h
    rfl
  obtain ⟨v, fns, e, mk, ps, rfl, hT, kw, ew, q⟩ := h
  refine ⟨_, (pss_one (ps_ret (pe_callB call_len_seq (by rfl) ml PySem.boot_len (pa_cons (pe_fld (pe_fld (pv 0) rfl) rfl) pa_nil)))), ?_⟩
  obtain ⟨pt, dx, fs, vb, ve0, tp, tr, rp, rr, rfl, h1, hf, h2, h3, h4, h5, h6, h7, vl, l1, l2⟩ := id hT
  obtain ⟨a, dxl, fsl, vr, tsp, tow, tst, tb, te, vg, rsp, row, rst, rb, re, rfl, g1, g2⟩ := l2
  refine ⟨_, rfl, pt, CT, dx, fs, _, rfl, h1, T.cl, T.nL, l1, a, CL, dxl, fsl, _, rfl, g1, L.cl, L.nT, g2.f.t, tst, rst, rfl, .inr (SqT.of g2.t), ?_⟩
  have : rst.length = e.steps := by rw [g2.tp.length, stepL_steps kw e [] ew]
  show Q (V.int (rst.length : Int)) H
  rw [this]
  exact q
end
end Oo
namespace Oo
open PySem L2 PyProof.Rows LamX StX ClX
abbrev sLBook : Stmt := top 66
/-- xs == [], a list -/
def rEqNil (K : PySem.W.Frag) : R2 := fun x y H Q => ∃ a b xs, x = .ref a ∧ y = .ref b ∧ SqL K H a xs ∧ SqL K H b [] ∧ Q (.bl xs.isEmpty) H
theorem op_eqNil {X : Cx} (hu : X.A.units < cLine) : OpR X (compareOp .Eq) (rEqNil X.K) := by
  intro pins s σ H x y v u Q I rx ry h
  obtain ⟨a, b, xs, rfl, rfl, ha, hb, q⟩ := h
  cases rx
  cases ry
  obtain ⟨its, rv, l1, _⟩ := I.list ha
  obtain ⟨its2, rv2, l2, _⟩ := I.list hb
  have e2 : its2 = [] := List.eq_nil_of_length_eq_zero (by rw [← rv2.length]; rfl)
  subst e2
  cases xs with
  | nil =>
    have e1 : its = [] := List.eq_nil_of_length_eq_zero (by rw [← rv.length]; rfl)
    subst e1
    exact SeqAt.eq_listAt (e := fun _ => true) l1.isList l2.isList rfl hu (fun j h1 h2 => absurd h1 (by simp)) ⟨.bl true, H, I, rfl, q⟩
  | cons z r =>
    have hl := rv.length
    refine SeqAt.eq_list_lengthsAt l1.isList l2.isList ?_ hu ⟨.bl false, H, I, rfl, q⟩
    have : its.toArray.size ≠ (([] : List Value).toArray).size := by
      rw [List.size_toArray, ← hl]
      simp
    simpa using this
theorem pe_makeR0 {X : Cx} {CX : CXT} {k : Nat} {f C : Addr} {sp : Sp} {E : XK} {x : Str} {p pos : Pos} (M : Mk X.K C f) (F : FnR X.prog X.w X.K X.mg X.base CX k f sp) (hr : Room (k + 1) X.A) (hg : Gl X x) (hm : X.mg x = some (.ref C)) (hx : Passes CX X E) (hdb : (x == ("__debug__" : Str)) = false := by decide) :
    PE X (.Call (.Name x p) [] [] pos) (tMakeR C sp E tNil) := by
  refine ⟨fun pins s σ H Q I h => ?_⟩
  refine wpAny_Call_Name_kw (ld_glob I hg hm ?_ hdb)
  exact PySem.W.callWith_K0 I.kIn M.kp (run_makeR (us := []) (vs := []) M F hr hx I .nil h)
def teMkFn (CF : Addr) : TE := fun σ H Q => ∃ v fn, σ[2]? = some (some v) ∧ RowAt H v fn ∧ FnW fn ∧ ∀ v' H', FunAt CF H' v' fn → Same H H' → Q v' H'
def spLBook (K : PySem.W.Frag) (T : List (Addr × Str)) (CF CB : Addr) : Sp := fun vs H Q _ => ∃ (fl : Addr) (fns : List Fn), vs = [.ref fl] ∧ FnsAt K H fl fns ∧ BkW fns ∧ Tabs T H ∧ ∀ v H', BookAt CF CB H' v fns → Tabs T H' → ExtN H H' → Q v H'
theorem made_book {T : List (Addr × Str)} {CF CB : Addr} {H1 : Hp} {rs : List V} {fns : List Fn} {Q : VK} {E : XK} (pr : Paired (FunAt CF H1) rs fns) (hW : BkW fns) (hT : Tabs T H1) (q : ∀ v H', BookAt CF CB H' v fns → Tabs T H' → ExtN H1 H' → Q v H') :
    ∀ x dx, H1 x = Option.none → H1 dx = Option.none → dx ≠ x → spStar1 (spBInit T CF CB) (V.ref x :: rs) (upd (upd H1 dx (.own x)) x (.ins CB dx [])) (fun v H2 => v = .non ∧ Q (.ref x) H2) E := by
  intro x dx hx hdx hne
  have s1 := made_same (C := CB) hx hdx
  have hl : rs.length ≤ 3 := by rw [pr.length]; exact hW.l
  refine ⟨[.ref x], rs, rfl, rfl, sz (by omega), fun t ht => ?_⟩
  have s2 := s1.trans (same_up (o := .tup rs) ht)
  have nxt : x ≠ t := ne_of_none (o := .ins CB dx []) upd_same ht
  refine ⟨x, dx, t, rs, fns, rfl, by rw [upd_ne nxt]; exact upd_same, upd_same, L2.Paired.mapP pr fun a b z => z.keep s2, hW.ok, hW.nd, Nat.le_trans hW.l (by decide), Tabs.ext hT s2, fun H' hB hT' hk => ⟨rfl, ?_⟩⟩
  exact q _ _ hB hT' fun b o z nt => hk b o (fun w => by rw [w, hx] at z; cases z) (s2 _ _ z) nt
section
variable {P : Program} {w : World} {K : PySem.W.Frag} {mg : Str → Option Value} {base : Heap} {X : Cx}
theorem scLBook : FnScope ["_law_functions", "_law_made", "_law_row"] ["_law_functions"] (defScope sLBook) := ⟨rfl, rfl, rfl, by decide +kernel, rfl, by decide +kernel, by decide +kernel⟩
theorem ok_lbook {T : List (Addr × Str)} {CF CB f fI fB : Addr} {fd fdI : FuncData} (F : Fun K "_law_book" "_law_book" sLBook f fd) (TF' : TxF K CF) (MF : Mk K CF fI) (mF : mg "Function" = some (.ref CF)) (MB : Mk K CB fB) (mB : mg "Book" = some (.ref CB)) (ml : mg "len" = none)
    (GI : FnOk P w K mg base CX0 3 fI fdI pF (spFInit CF)) (bI : KBn K fdI pF 3 kF2 (fun us ws => us ++ ws) (fun vs zs => vs ++ zs))
    (GB : FnR P w K mg base CX0 6 fB (spStar1 (spBInit T CF CB))) : FnOk P w K mg base CX0 8 f fd ["_law_functions"] (spLBook K T CF CB) := by
  refine F.ok scLBook (fun vs H Q E h => ?_) (fun cdv A outer s H vs Q E hr h => ?_)
  · obtain ⟨fl, fns, rfl, _⟩ := h
    rfl
  obtain ⟨fl, fns, rfl, ⟨rows, hfl, pr⟩, hW, hT, q⟩ := h
  have hr4 : Room 4 _ := hr.mono (by decide)
  refine ⟨_, (pss_cons (ps_setLc (i := 1) (own := [("_law_row", 2)]) (g := gName 2) (tt := tYes) (by rfl) scLBook.nd rfl rfl (sw_true rfl rfl rfl (by decide +kernel)) (pi_list (pv 0)) (blkOk_by (own := [("_law_row", 2)]) (N := ["_law_functions", "_law_made", "_law_row"]) (sc := defScope sLBook) (by decide +kernel)) (fun _ _ _ _ _ => (pg_name (i := 2) scLBook.nd rfl (Or.inl rfl))) (fun _ _ _ _ _ => pts_nil) (fun _ _ _ _ _ => (pe_as (t' := teMkFn CF) (pe_makeK MF GI hr4 rfl mF bI pass0 (pa_cons (pe_ix ix_tup (pv 2) pe_int (fun _ _ => rfl)) (pa_cons (pe_ix ix_tup (pv 2) pe_int (fun _ _ => rfl)) pa_nil)) (pk_cons (pe_ix ix_tup (pv 2) pe_int (fun _ _ => rfl)) (pk_cons (pe_ix ix_tup (pv 2) pe_int (fun _ _ => rfl)) pk_nil))) ?c1)))
    (pss_cons (ps_if (pt_cmpR op_lt (pe_callB call_len_seq (by rfl) ml PySem.boot_len (pa_cons (pv 1) pa_nil)) pe_int (nomark _)) (pss_one (ps_ret (pe_ifExp (pt_cmpR (op_eqNil hr.units0) (pv 1) (pe_lst pa_nil) (nomark _)) (pe_makeR0 MB GB hr (by rfl) mB pass0) (pe_makeR MB GB hr (by rfl) mB pass0 (pa_cons (pe_ix ix_list (pv 1) pe_int (fun _ _ => rfl)) pa_nil))))) pss_nil)
    (pss_one (ps_ret (pe_ifExp (pt_cmpR op_eq (pe_callB call_len_seq (by rfl) ml PySem.boot_len (pa_cons (pv 1) pa_nil)) pe_int (nomark _)) (pe_makeR MB GB hr (by rfl) mB pass0 (pa_cons (pe_ix ix_list (pv 1) pe_int (fun _ _ => rfl)) (pa_cons (pe_ix ix_list (pv 1) pe_int (fun _ _ => rfl)) pa_nil))) (pe_makeR MB GB hr (by rfl) mB pass0 (pa_cons (pe_ix ix_list (pv 1) pe_int (fun _ _ => rfl)) (pa_cons (pe_ix ix_list (pv 1) pe_int (fun _ _ => rfl)) (pa_cons (pe_ix ix_list (pv 1) pe_int (fun _ _ => rfl)) pa_nil))))))))), ?_⟩
  case c1 =>
    rintro σ H Q ⟨v, fn, e2, ⟨p, r, st, rfl, h1, h2, h3⟩, hw, q⟩
    refine ⟨_, e2, p, _, _, _, rfl, rfl, SqT.of h1, (rfl : atI [V.str fn.name, .int fn.ar, .ref r, .ref st] 0 = some (.str fn.name)), _, e2, p, _, _, _, rfl, rfl, SqT.of h1, (rfl : atI [V.str fn.name, .int fn.ar, .ref r, .ref st] 1 = some (.int fn.ar)),
      _, e2, p, _, _, _, rfl, rfl, SqT.of h1, (rfl : atI [V.str fn.name, .int fn.ar, .ref r, .ref st] 2 = some (.ref r)), _, e2, p, _, _, _, rfl, rfl, SqT.of h1, (rfl : atI [V.str fn.name, .int fn.ar, .ref r, .ref st] 3 = some (.ref st)), rfl, rfl, fun x dx hx hdx hne => ?_⟩
    have s1 := made_same (C := CF) hx hdx
    exact ⟨x, dx, fn, _, _, rfl, upd_same, ⟨r, rfl, s1 _ _ h2⟩, ⟨st, rfl, s1 _ _ h3⟩, hw, fun H' hF hB => ⟨rfl, q _ _ hF (but_same s1 hx hB)⟩⟩
  have hrl : rows.length = fns.length := pr.length
  have hf3 := hW.l
  refine ⟨_, rfl, fl, rfl, ⟨_, hfl⟩, fun D nD => ?_⟩
  refine lc_list (K := K) (a := fl) (xs := rows) (fun i H' => ∃ acc, H' D = some (.lst acc) ∧ Paired (FunAt CF H') acc (fns.take i) ∧ Same H H') ⟨[], upd_same, .nil, same_up nD⟩ (fun i H' _ ⟨_, _, _, z⟩ => z.seq hfl) ?_ ?_
  · rintro i u H1 hi ⟨acc, eD, pa, s1⟩
    obtain ⟨fn, hfn, ru⟩ := paired_get pr hi
    have hil : i < fns.length := (List.getElem?_eq_some_iff.mp hfn).1
    have efn : fns[i] = fn := (List.getElem?_eq_some_iff.mp hfn).2
    refine ⟨rfl, yes_i ⟨u, fn, rfl, ru.keep (same_t s1), hW.ok fn (List.mem_of_getElem? hfn), fun v' H2 hF s2 => ?_⟩⟩
    have hacc : acc.length ≤ 3 := by rw [pa.length, List.length_take]; omega
    have eD2 := s2 _ _ eD
    have kf : ∀ u g, FunAt CF H2 u g → FunAt CF (upd H2 D (.lst (acc ++ [v']))) u g := fun u g z => z.keepB (fun b o e n1 => by
      rw [upd_ne (fun w => by rw [w, eD2] at e; exact n1 _ (Option.some.inj e).symm)]; exact e)
    refine ⟨acc, eD2, small1000 (by omega), acc ++ [v'], upd_same, ?_, fun b o z => by rw [upd_ne (ne_of_none z nD)]; exact s2 _ _ (s1 _ _ z)⟩
    rw [take_succ_get fns i hil, efn]
    exact paired_append (L2.Paired.mapP pa fun a b z => kf a b (z.keep s2)) (.cons (kf _ _ hF) .nil)
  · rintro H1 ⟨acc, eD, pa, s1⟩
    rw [hrl, List.take_length] at pa
    have hal : acc.length = fns.length := pa.length
    have hT1 := Tabs.ext hT s1
    have q1 : ∀ v H', BookAt CF CB H' v fns → Tabs T H' → ExtN H1 H' → Q v H' := fun v H' a b c => q v H' a b ((same_extN s1).trans c)
    refine ⟨_, rfl, D, _, rfl, .inl (SqL.of eD), _, _, rfl, rfl, _, rfl, ?_⟩
    match acc, fns, eD, pa, hal, hW, q1 with
    | [], [], eD, pa, hal, hW, q1 =>
      refine iteYes (by show ((0:Nat):Int) < 2; decide) ⟨_, rfl, sz (by show 0 ≤ 1000; decide), fun l nl => ?_⟩
      have s2 := same_up (o := .lst []) nl
      refine ⟨D, l, [], rfl, rfl, SqL.of (s2 _ _ eD), SqL.of upd_same, _, rfl, iteT ?_⟩
      exact made_book (Q := Q) .nil hW (Tabs.ext hT1 s2) fun v H' a b c => q1 v H' a b ((same_extN s2).trans c)
    | [u], [f1], eD, pa, hal, hW, q1 =>
      refine iteYes (by show ((1:Nat):Int) < 2; decide) ⟨_, rfl, sz (by show 0 ≤ 1000; decide), fun l nl => ?_⟩
      have s2 := same_up (o := .lst []) nl
      refine ⟨D, l, [u], rfl, rfl, SqL.of (s2 _ _ eD), SqL.of upd_same, _, rfl, iteF ?_⟩
      refine ⟨_, rfl, D, _, _, _, rfl, rfl, SqL.of (s2 _ _ eD), (rfl : atI [u] 0 = some u), ?_⟩
      exact made_book (Q := Q) (L2.Paired.mapP pa fun a b z => z.keep s2) hW (Tabs.ext hT1 s2) fun v H' a b c => q1 v H' a b ((same_extN s2).trans c)
    | [u, v], [f1, f2], eD, pa, hal, hW, q1 =>
      refine iteNo (by show ¬ (((2:Nat):Int) < 2); decide) ⟨_, rfl, D, _, rfl, .inl (SqL.of eD), rfl, _, rfl, iteYes rfl ?_⟩
      refine ⟨_, rfl, D, _, _, _, rfl, rfl, SqL.of eD, (rfl : atI [u, v] 0 = some u), _, rfl, D, _, _, _, rfl, rfl, SqL.of eD, (rfl : atI [u, v] 1 = some v), ?_⟩
      exact made_book (Q := Q) pa hW hT1 q1
    | [u, v, z], [f1, f2, f3], eD, pa, hal, hW, q1 =>
      refine iteNo (by show ¬ (((3:Nat):Int) < 2); decide) ⟨_, rfl, D, _, rfl, .inl (SqL.of eD), rfl, _, rfl, iteNo (fun z => absurd (V.int.inj z) (by show ¬ (((3:Nat):Int) = 2); decide)) ?_⟩
      refine ⟨_, rfl, D, _, _, _, rfl, rfl, SqL.of eD, (rfl : atI [u, v, z] 0 = some u), _, rfl, D, _, _, _, rfl, rfl, SqL.of eD, (rfl : atI [u, v, z] 1 = some v), _, rfl, D, _, _, _, rfl, rfl, SqL.of eD, (rfl : atI [u, v, z] 2 = some z), ?_⟩
      exact made_book (Q := Q) pa hW hT1 q1
    | _ :: _ :: _ :: _ :: _, fns, eD, pa, hal, hW, q1 =>
      have := hW.l
      rw [← hal] at this
      simp at this
end
end Oo
namespace Oo
open PySem L2 PyProof.Rows LamX StX ClX
/-! ### the script beside the bag -/
def Scr (K : PySem.W.Frag) (a : Addr) (xs : List V) (p : Addr) (H : Hp) : Prop := (∀ H1, SqL K H1 a xs) ∨ (p ≠ a ∧ SqL K H a xs)
section
variable {K : PySem.W.Frag} {a p : Addr} {xs : List V} {H H' : Hp}
theorem seq_ext (h : SqL K H a xs) (e : ExtN H H') : SqL K H' a xs := by
  rcases h with (h | ⟨o, h⟩) | h
  · exact .inl (.inl (e _ _ h not_tbl_lst))
  · exact .inl (.inr ⟨o, e _ _ h fun ps z => by cases z⟩)
  · exact .inr h
theorem Scr.seq (h : Scr K a xs p H) : SqL K H a xs := h.elim (fun z => z H) fun z => z.2
theorem Scr.mk_ (h : SqL K H a xs) (np : H p = none) (s : Same H H') : Scr K a xs p H' := by
  rcases h with (h | ⟨o, h⟩) | h
  · exact .inr ⟨fun z => (by rw [z, h] at np; cases np), .inl (.inl (s _ _ h))⟩
  · exact .inr ⟨fun z => (by rw [z, h] at np; cases np), .inl (.inr ⟨o, s _ _ h⟩)⟩
  · exact .inl fun _ => .inr h
theorem Scr.kq (h : Scr K a xs p H) (q : Kq [p] H H') : Scr K a xs p H' := h.elim .inl fun ⟨n, z⟩ => .inr ⟨n, q.seqL (by simp [n.symm]) z⟩
theorem Scr.ext (h : Scr K a xs p H) (e : ExtN H H') : Scr K a xs p H' := h.elim .inl fun ⟨n, z⟩ => .inr ⟨n, seq_ext z e⟩
theorem bag_ext {n : Nat} (b : BagAt H p n) (e : ExtN H H') : BagAt H' p n := by
  obtain ⟨d, x, c, z, r⟩ := b
  exact ⟨d, x, c, e _ _ z not_tbl_lst, r⟩
theorem tabs_kq {T : List (Addr × Str)} {S : List Addr} (t : Tabs T H) (q : Kq S H H') (m : Mut H S) : Tabs T H' := fun r hr => by
  obtain ⟨ps, h1, h2, h3⟩ := t r hr
  have no : ∀ b o, H b = some o → (∀ ys, o ≠ .lst ys) → H' b = some o := fun b o z n => q b o (fun hb => by
    obtain ⟨ys, e⟩ := m b hb
    rw [e] at z
    exact n ys (Option.some.inj z).symm) z
  refine ⟨ps, no _ _ h1 (fun ys z => by cases z), h2, fun pos cv hc => ?_⟩
  obtain ⟨c, e1, e2⟩ := h3 pos cv hc
  exact ⟨c, e1, no _ _ e2 fun ys z => by unfold CodeO at z; cases z⟩
theorem KitAt.ext {kd pl fl : Addr} {ps : List Str} {fns : List Fn} {g : Bool} (k : KitAt H kd pl fl ps fns g) (e : ExtN H H') : KitAt H' kd pl fl ps fns g := by
  obtain ⟨h1, h2, rows, h3, h4⟩ := k
  exact ⟨e _ _ h1 (fun ps z => by cases z), e _ _ h2 not_tbl_lst, rows, e _ _ h3 not_tbl_lst, L2.Paired.mapP h4 fun a b r => r.keep fun p xs z => e _ _ z not_tbl_tup⟩
theorem KitAt.fns {kd pl fl : Addr} {ps : List Str} {fns : List Fn} {g : Bool} (k : KitAt H kd pl fl ps fns g) : FnsAt K H fl fns := by
  obtain ⟨h1, h2, rows, h3, h4⟩ := k
  exact ⟨rows, SqL.of h3, h4⟩
end
theorem opens_asc (e : Ex) : (e.opens []).Pairwise pathLt := by
  unfold Ex.opens
  rw [List.pairwise_map]
  exact List.Pairwise.sublist (by first | exact List.filter_sublist | exact List.filter_sublist _) (pre_asc e [])
theorem TaskAt.ins_ {K : PySem.W.Frag} {CF CB CT CS CL x : Addr} {H : Hp} {fns : List Fn} {e : Ex} {mk : List (List Nat)} (h : TaskAt K CF CB CT CS CL H (.ref x) fns e mk) : ∃ dx fs, H x = some (.ins CT dx fs) ∧ fs.lookup ("open_nodes" : Str) = none ∧ fs.lookup ("with_points" : Str) = none := by
  obtain ⟨p, dx, fs, vb, ve, tp, tr, rp, rr, e1, h1, hf, _⟩ := h
  cases e1
  exact ⟨dx, fs, h1, hf.n1, hf.n2⟩
theorem TaskAt.ref_ {K : PySem.W.Frag} {CF CB CT CS CL : Addr} {H : Hp} {v : V} {fns : List Fn} {e : Ex} {mk : List (List Nat)} (h : TaskAt K CF CB CT CS CL H v fns e mk) : ∃ x, v = .ref x := by
  obtain ⟨p, dx, fs, vb, ve, tp, tr, rp, rr, e1, _⟩ := h
  exact ⟨p, e1⟩
theorem cat_rows {K : PySem.W.Frag} {H : Hp} {a b : Addr} {xs : List V} {y : V} {Q : VK} (ha : H a = some (.tup xs)) (hb : H b = some (.tup [y])) (hl : xs.length ≤ 900) (q : ∀ t H', H' t = some (.tup (xs ++ [y])) → Same H H' → Q (.ref t) H') : rCatA K (.ref a) (.ref b) H Q := by
  refine ⟨a, b, _, _, rfl, rfl, SqT.of ha, SqT.of hb, sz (by simp; omega), fun z => ?_, fun _ z => by simp at z, fun _ _ t ht => ?_⟩
  · subst z
    exact q b H hb (Same.refl _)
  · exact q t _ upd_same (same_up ht)
theorem cut3_mem {xs : List V} {i : Nat} {y : V} (h : (cutV xs none (some 3))[i]? = some y) : y ∈ xs := (cutV_sub xs none (some 3)).subset (List.mem_of_getElem? h)
/-- what a turn has at hand -/
structure Hand (K : PySem.W.Frag) (CF CB CT CS CL : Addr) (H : Hp) (kd pl fl x t : Addr) (ps : List Str) (fns : List Fn) (e : Ex) (mk : List (List Nat)) (rows : List V) (ve : V) : Prop where
  kit : KitAt H kd pl fl ps fns true
  ie : InE H e ve
  et : H t = some (.tup rows)
  pm : Paired (PathAt H) rows mk
  ta : TaskAt K CF CB CT CS CL H (.ref x) fns e mk
theorem Hand.keep {K : PySem.W.Frag} {CF CB CT CS CL : Addr} {H H' : Hp} {kd pl fl x t : Addr} {ps : List Str} {fns : List Fn} {e : Ex} {mk : List (List Nat)} {rows : List V} {ve : V} (h : Hand K CF CB CT CS CL H kd pl fl x t ps fns e mk rows ve) (s : Same H H') : Hand K CF CB CT CS CL H' kd pl fl x t ps fns e mk rows ve :=
  ⟨h.kit.ext (same_extN s), h.ie.keep (same_t s), s _ _ h.et, L2.Paired.mapP h.pm fun a b z => z.keep (same_t s), h.ta.keep s⟩
theorem BookAt.kq {CF CB : Addr} {S : List Addr} {H H' : Hp} {v : V} {fns : List Fn} (h : BookAt CF CB H v fns) (q : Kq S H H') (m : Mut H S) : BookAt CF CB H' v fns := by
  have no : ∀ b o, H b = some o → (∀ ys, o ≠ .lst ys) → H' b = some o := fun b o z n => q b o (fun hb => by
    obtain ⟨ys, e⟩ := m b hb
    rw [e] at z
    exact n ys (Option.some.inj z).symm) z
  obtain ⟨b, dx, fs, tf, rows, fns', e, h1, h2, h3, h4, h5⟩ := h
  exact ⟨b, dx, fs, tf, rows, fns', e, no _ _ h1 (fun ys z => by cases z), h2, no _ _ h3 (fun ys z => by cases z), L2.Paired.mapP h4 fun a b z => z.keepB no, h5⟩
theorem pv_len (p : List Nat) : (pv_ p).length = p.length := by unfold pv_; rw [List.length_map]
theorem cut_path {K : PySem.W.Frag} {H : Hp} {q : Addr} {p : List Nat} {m : Nat} {Q : VK} (h : H q = some (.tup (pv_ p))) (k : ∀ x H', PathAt H' x (p.take m) → Same H H' → Q x H') : rSlA K (.ref q) none (some (m : Int)) H Q := by
  refine ⟨q, _, rfl, SqT.of h, fun hw => ?_, fun hw p' np => ?_⟩
  · have h2 := hw.2
    rw [HT.sIx_nat, pv_len] at h2
    refine k _ _ ⟨q, rfl, ?_⟩ (Same.refl _)
    rw [List.take_of_length_le (by omega)]
    exact h
  · refine k _ _ ⟨p', rfl, ?_⟩ (same_up np)
    rw [upd_same]
    unfold cutV
    rw [HT.sIx_nat, HT.sIx_none, pv_len, List.drop_zero, Nat.sub_zero]
    unfold pv_
    rw [List.map_take, List.take_eq_take_iff.mpr]
    rw [List.length_map]
    omega
end Oo
/-! repr of lists and tuples; the rows of steps as data -/
namespace Oo
open PySem PySem.Spec L2 PyProof.Rows LamX StX ClX
def rRepr (K : PySem.W.Frag) : List V → Hp → VK → Prop := fun xs H Q => ∃ (a : Addr) (d : PyData), xs = [.ref a] ∧ Dp K H (.ref a) d ∧ d.showable = true ∧ d.hasDict = false ∧ d.depth ≤ 60 ∧ d.shown.length ≤ sizeLine ∧ Q (.str d.shown) H
theorem call_repr_quiet {X : Cx} (hg : X.A.guards = some []) (hu : X.A.units + 64 < cLine) : CallR X (.builtin "repr") (rRepr X.K) := by
  intro pins s σ H xs us Q I r h
  obtain ⟨a, d, rfl, hd, hs, hn, hdp, hsz, q⟩ := h
  obtain ⟨u, rfl, rx⟩ := vals1 r
  cases rx
  obtain ⟨as, rd⟩ := Dp.reads I d _ _ hd rfl
  refine repr_of_reads' rd hs (PyData.noDict_hsm hn) hg (by omega) (fun _ _ e => e) (fun h' u tk hk => ?_) hsz
  exact ⟨.str d.shown, H, I.kept (t' := tk) hk, ⟨u, rfl⟩, q⟩
/-- what repr asks of data, but its size -/
structure Nice (d : PyData) : Prop where
  lay : d.canLay0 = true
  sht : d.intsShort 13 = true
  shw : d.showable = true
  nod : d.hasDict = false
structure NiceL (ds : List PyData) : Prop where
  lay : PyData.canLayAll0 ds = true
  sht : PyData.intsShortAll 13 ds = true
  shw : PyData.showableAll ds = true
  nod : PyData.hasDictAll ds = false
theorem NiceL.nil : NiceL [] := ⟨by simp [PyData.canLayAll0], by simp [PyData.intsShortAll], by simp [PyData.showableAll], by simp [PyData.hasDictAll]⟩
theorem NiceL.cons {d : PyData} {ds : List PyData} (h : Nice d) (t : NiceL ds) : NiceL (d :: ds) := by
  refine ⟨?_, ?_, ?_, ?_⟩
  · simp only [PyData.canLayAll0, h.lay, t.lay, Bool.and_self]
  · simp only [PyData.intsShortAll, h.sht, t.sht, Bool.and_self]
  · simp only [PyData.showableAll, h.shw, t.shw, Bool.and_self]
  · simp only [PyData.hasDictAll, h.nod, t.nod, Bool.or_self]
theorem NiceL.all : ∀ {ds : List PyData}, (∀ d ∈ ds, Nice d) → NiceL ds
  | [], _ => .nil
  | d :: r, h => .cons (h d List.mem_cons_self) (NiceL.all fun e he => h e (List.mem_cons_of_mem _ he))
theorem NiceL.tup {ds : List PyData} (h : NiceL ds) : Nice (.tuple ds) :=
  ⟨by simp only [PyData.canLay0]; exact h.lay, by simp only [PyData.intsShort]; exact h.sht, by simp only [PyData.showable]; exact h.shw, by simp only [PyData.hasDict]; exact h.nod⟩
theorem NiceL.lst {ds : List PyData} (h : NiceL ds) : Nice (.list ds) :=
  ⟨by simp only [PyData.canLay0]; exact h.lay, by simp only [PyData.intsShort]; exact h.sht, by simp only [PyData.showable]; exact h.shw, by simp only [PyData.hasDict]; exact h.nod⟩
theorem nice_int {n : Nat} (h : n ≤ 1000) : Nice (.int (n : Int)) :=
  ⟨by simp only [PyData.canLay0], by simp only [PyData.intsShort]; exact decide_eq_true (PyData.shown_int_le (by omega)), by simp only [PyData.showable]; exact decide_eq_true (log_small (by omega) (by omega)), by simp only [PyData.hasDict]⟩
theorem nice_str {x : Str} (h : okName x = true) : Nice (.str x) :=
  ⟨by simp only [PyData.canLay0]; exact okName_str h, by simp only [PyData.intsShort], by simp only [PyData.showable], by simp only [PyData.hasDict]⟩
theorem nice_non : Nice .none := ⟨by simp only [PyData.canLay0], by simp only [PyData.intsShort], by simp only [PyData.showable], by simp only [PyData.hasDict]⟩
theorem nice_strs {xs : List Str} (h : ∀ x ∈ xs, okName x = true) : Nice (dStrs xs) := (NiceL.all fun d hd => by
  obtain ⟨x, hx, rfl⟩ := List.mem_map.mp hd
  exact nice_str (h x hx)).tup
theorem nice_path {p : List Nat} (h : ∀ x ∈ p, x ≤ 1000) : Nice (dP p) := (NiceL.all fun d hd => by
  obtain ⟨x, hx, rfl⟩ := List.mem_map.mp hd
  exact nice_int (h x hx)).tup
theorem wAll_le {B : Nat} : ∀ {ds : List PyData}, (∀ d ∈ ds, d.weight ≤ B) → PyData.weightAll ds ≤ (B + 1) * ds.length
  | [], _ => by simp [PyData.weightAll]
  | d :: r, h => by
    have h1 := h d List.mem_cons_self
    have h2 := wAll_le (B := B) (ds := r) fun e he => h e (List.mem_cons_of_mem _ he)
    simp only [PyData.weightAll, List.length_cons, Nat.mul_succ]
    omega
theorem dAll_le {B : Nat} : ∀ {ds : List PyData}, (∀ d ∈ ds, d.depth ≤ B) → PyData.depthAll ds ≤ B
  | [], _ => by simp [PyData.depthAll]
  | d :: r, h => by
    have h1 := h d List.mem_cons_self
    have h2 := dAll_le (B := B) (ds := r) fun e he => h e (List.mem_cons_of_mem _ he)
    simp only [PyData.depthAll]
    omega
theorem w_int {n : Nat} (h : n ≤ 1000) : (PyData.int (n : Int)).weight ≤ 10 := by
  simp only [PyData.weight]
  split
  · omega
  · have e : ((n : Int)).natAbs = n := by omega
    rw [e]
    have : n.log2 < 10 := by
      by_cases hz : n = 0
      · subst hz; decide
      · exact (Nat.log2_lt hz).mpr (by omega)
    omega
theorem w_name {x : Str} (h : okName x = true) : (PyData.str x).weight ≤ 8 := by
  unfold okName at h
  simp only [Bool.and_eq_true, decide_eq_true_eq] at h
  simp only [PyData.weight]
  exact h.1.2
theorem w_strs {xs : List Str} (h : ∀ x ∈ xs, okName x = true) (hl : xs.length ≤ 4) : (dStrs xs).weight ≤ 36 := by
  unfold dStrs
  simp only [PyData.weight]
  have := wAll_le (B := 8) (ds := xs.map PyData.str) fun d hd => by
    obtain ⟨x, hx, rfl⟩ := List.mem_map.mp hd
    exact w_name (h x hx)
  rw [List.length_map] at this
  omega
theorem w_path {p : List Nat} (h : ∀ x ∈ p, x ≤ 1000) (hl : p.length ≤ 90) : (dP p).weight ≤ 990 := by
  unfold dP
  simp only [PyData.weight]
  have := wAll_le (B := 10) (ds := dI p) fun d hd => by
    obtain ⟨x, hx, rfl⟩ := List.mem_map.mp hd
    exact w_int (h x hx)
  unfold dI at this ⊢
  rw [List.length_map] at this
  omega
/-! steps -/
def dStep (r : StepR) : PyData := .tuple [.str r.kind, dP r.path, dStrs r.rd, dStrs r.st]
theorem StepAt.dp {K : PySem.W.Frag} {H : Hp} {v : V} {r : StepR} (h : StepAt H v r) : Dp K H v (dStep r) := by
  obtain ⟨q, vp, vr, vs, rfl, h1, h2, ⟨a, rfl, h3⟩, ⟨b, rfl, h4⟩⟩ := h
  exact .tup (SqT.of h1) (.cons (.str _) (.cons h2.dp (.cons (.tup (SqT.of h3) (dpAll_strs _)) (.cons (.tup (SqT.of h4) (dpAll_strs _)) .nil))))
theorem stepAll_dp {K : PySem.W.Frag} {H : Hp} : ∀ {rows : List V} {rs : List StepR}, Paired (StepAt H) rows rs → DpAll K H rows (rs.map dStep)
  | _, _, .nil => .nil
  | _, _, .cons r t => .cons r.dp (stepAll_dp t)
structure StepW (r : StepR) : Prop where
  kind : okName r.kind = true
  len : r.path.length ≤ 90
  path : ∀ x ∈ r.path, x ≤ 1000
  rl : r.rd.length ≤ 4
  rd : ∀ x ∈ r.rd, okName x = true
  sl : r.st.length ≤ 4
  st : ∀ x ∈ r.st, okName x = true
theorem StepW.nice {r : StepR} (h : StepW r) : Nice (dStep r) := (NiceL.cons (nice_str h.kind) (.cons (nice_path h.path) (.cons (nice_strs h.rd) (.cons (nice_strs h.st) .nil)))).tup
theorem StepW.w {r : StepR} (h : StepW r) : (dStep r).weight ≤ 1100 := by
  have h1 := w_name h.kind
  have h2 := w_path h.path h.len
  have h3 := w_strs h.rd h.rl
  have h4 := w_strs h.st h.sl
  unfold dStep
  rw [PyData.weight]
  simp only [PyData.weightAll]
  omega
theorem d_strs (xs : List Str) : (dStrs xs).depth = 1 := by
  unfold dStrs
  rw [PyData.depth, depth_strs]
theorem StepW.d {r : StepR} : (dStep r).depth = 2 := by
  unfold dStep
  rw [PyData.depth]
  simp only [PyData.depthAll, depth_path, d_strs, PyData.depth]
  rfl
/-- a list of such rows, perhaps None behind them -/
structure Fine (ds : List PyData) : Prop where
  nice : ∀ d ∈ ds, Nice d
  w : ∀ d ∈ ds, d.weight ≤ 1100
  d : ∀ d ∈ ds, d.depth ≤ 2
  len : ds.length ≤ 900
theorem Fine.all {ds : List PyData} (f : Fine ds) : (PyData.list ds).showable = true ∧ (PyData.list ds).hasDict = false ∧ (PyData.list ds).depth ≤ 60 ∧ (PyData.list ds).shown.length ≤ sizeLine := by
  have hn := NiceL.lst (NiceL.all f.nice)
  have hw := wAll_le f.w
  have hdp := dAll_le f.d
  have hlen := f.len
  have hm : 1101 * ds.length ≤ 1101 * 900 := Nat.mul_le_mul_left _ hlen
  have hw2 : (PyData.list ds).weight ≤ 2 ^ 20 := by
    rw [PyData.weight]
    omega
  have hd2 : (PyData.list ds).depth ≤ 3 := by
    rw [PyData.depth]
    omega
  refine ⟨hn.shw, hn.nod, by omega, PyData.shown_fits_of_layable0 (B := 13) (by decide) (by decide) ?_ hn.sht⟩
  unfold PyData.layable0
  rw [hn.lay, decide_eq_true (show (PyData.list ds).depth ≤ 64 by omega), decide_eq_true hw2]
  rfl
theorem fine_steps {rs : List StepR} (h : ∀ r ∈ rs, StepW r) (hl : rs.length ≤ 900) : Fine (rs.map dStep) := by
  refine ⟨fun d hd => ?_, fun d hd => ?_, fun d hd => ?_, by rw [List.length_map]; exact hl⟩
  all_goals
    obtain ⟨r, hr, rfl⟩ := List.mem_map.mp hd
  · exact (h r hr).nice
  · exact (h r hr).w
  · exact Nat.le_of_eq StepW.d
theorem Fine.non {ds : List PyData} (h : Fine ds) (hl : ds.length < 900) : Fine (ds ++ [.none]) := by
  refine ⟨fun d hd => ?_, fun d hd => ?_, fun d hd => ?_, by rw [List.length_append]; simp; omega⟩
  all_goals
    rcases List.mem_append.mp hd with hd | hd
  · exact h.nice d hd
  · rw [List.mem_singleton.mp hd]; exact nice_non
  · exact h.w d hd
  · rw [List.mem_singleton.mp hd]; simp [PyData.weight]
  · exact h.d d hd
  · rw [List.mem_singleton.mp hd]; simp [PyData.depth]
/-! steps of a well-formed expression -/
mutual
theorem stepL_ix (fns : List Fn) (B : Nat) : ∀ (e : Ex) (p : List Nat), (∀ x ∈ p, x < B) → e.nodes ≤ B → ∀ r ∈ e.stepL fns p, ∀ x ∈ r.path, x < B
  | .num _, p, hp, hn, r, hr => by simp [Ex.stepL] at hr
  | .nd k os, p, hp, hn, r, hr => by
    simp only [Ex.stepL] at hr
    simp only [Ex.nodes] at hn
    rcases List.mem_append.mp hr with hr | hr
    · exact stepLs_ix fns B os p 0 hp (by have := nodess_len os; omega) (by omega) r hr
    · rw [own_path' fns p k r hr]
      exact hp
theorem stepLs_ix (fns : List Fn) (B : Nat) : ∀ (os : List Ex) (p : List Nat) (j : Nat), (∀ x ∈ p, x < B) → j + os.length ≤ B → Ex.nodess os ≤ B → ∀ r ∈ Ex.stepLs fns os p j, ∀ x ∈ r.path, x < B
  | [], p, j, hp, hj, hn, r, hr => by simp [Ex.stepLs] at hr
  | e :: t, p, j, hp, hj, hn, r, hr => by
    simp only [Ex.stepLs] at hr
    simp only [Ex.nodess] at hn
    simp only [List.length_cons] at hj
    rcases List.mem_append.mp hr with hr | hr
    · refine stepL_ix fns B e (p ++ [j]) (fun x hx => ?_) (by omega) r hr
      rcases List.mem_append.mp hx with hx | hx
      · exact hp x hx
      · rw [List.mem_singleton.mp hx]; omega
    · exact stepLs_ix fns B t p (j + 1) hp (by omega) (by omega) r hr
theorem own_path' (fns : List Fn) (p : List Nat) (k : Kd) (r : StepR) (h : r ∈ ownSteps fns p k) : r.path = p := by
  cases k with
  | call f =>
    simp only [ownSteps, List.mem_map] at h
    obtain ⟨fn, _, rfl⟩ := h
    rfl
  | read x => simp only [ownSteps, List.mem_singleton] at h; rw [h]
  | store x => simp only [ownSteps, List.mem_singleton] at h; rw [h]
  | step x b wh =>
    simp only [ownSteps, List.mem_cons, List.not_mem_nil, or_false] at h
    rcases h with h | h <;> rw [h]
  | _ => simp [ownSteps] at h
theorem nodess_len : ∀ os : List Ex, os.length ≤ Ex.nodess os
  | [] => by simp [Ex.nodess]
  | e :: t => by
    have h1 := nodess_len t
    have h2 : 1 ≤ e.nodes := by cases e <;> simp [Ex.nodes]
    simp only [Ex.nodess, List.length_cons]
    omega
end
end Oo
/-! displays of data; texts of paths tell what they are of; nodes found by any value -/
namespace Oo
open PySem PySem.Spec L2 PyProof.Rows LamX StX ClX
/-! ### displays of data -/
section
variable {K : PySem.W.Frag} {b : Addr} {H0 : Hp} {te tf : TE} {ta : TA} {d : PyData} {ds es : List PyData} {σ : L2.St}
/-- a heap without b -/
def hid (b : Addr) (H : Hp) : Hp := fun c => if c = b then none else H c
theorem hid_ne {b c : Addr} {H : Hp} (h : c ≠ b) : hid b H c = H c := by
  unfold hid
  rw [if_neg h]
theorem hid_sub {b : Addr} {H : Hp} : Same (hid b H) H := fun c o z => by
  by_cases h : c = b
  · unfold hid at z
    rw [if_pos h] at z
    cases z
  · rwa [hid_ne h] at z
theorem hid_kp {b : Addr} {H H' : Hp} (k : Kp b H H') : Same (hid b H) (hid b H') := fun c o z => by
  by_cases h : c = b
  · unfold hid at z
    rw [if_pos h] at z
    cases z
  · rw [hid_ne h] at z ⊢
    exact k c o h z
theorem hid_same {b : Addr} {H H' : Hp} (s : Same H H') : Same (hid b H) (hid b H') := hid_kp fun c o _ z => s c o z
theorem hid_new {b p : Addr} {H : Hp} {o : HO} (h : p ≠ b) : hid b (upd H p o) p = some o := by
  rw [hid_ne h]
  exact upd_same
theorem there_ne {b p : Addr} {H0 H : Hp} (s : Same H0 H) (hb : ∃ o, H0 b = some o) (np : H p = none) : p ≠ b := fun w => by
  obtain ⟨o, z⟩ := hb
  rw [w, s _ _ z] at np
  cases np
/-- what a reading makes, wherever H0 stands; it does not lean on what stands at b -/
def Gives (K : PySem.W.Frag) (b : Addr) (H0 : Hp) (σ : L2.St) (te : TE) (d : PyData) : Prop := ∀ H Q, Same H0 H → (∀ v H', Dp K (hid b H') v d → Same H H' → Q v H') → te σ H Q
def GivesA (K : PySem.W.Frag) (b : Addr) (H0 : Hp) (σ : L2.St) (ta : TA) (ds : List PyData) : Prop := ∀ H Q, Same H0 H → (∀ vs H', DpAll K (hid b H') vs ds → Same H H' → Q vs H') → ta σ H Q
theorem gv_int (i : Int) : Gives K b H0 σ (tC (.int i)) (.int i) := fun H Q _ q => q _ H (.int i) (Same.refl _)
theorem gv_bl (t : Bool) : Gives K b H0 σ (tC (.bl t)) (.bool t) := fun H Q _ q => q _ H (.bl t) (Same.refl _)
theorem gv_non : Gives K b H0 σ (tC .non) .none := fun H Q _ q => q _ H .non (Same.refl _)
theorem gv_str (x : Str) : Gives K b H0 σ (tC (.str x)) (.str x) := fun H Q _ q => q _ H (.str x) (Same.refl _)
theorem gv_neg (i : Int) : Gives K b H0 σ (tUn (rU fun i => .int (-i)) (tC (.int i))) (.int (-i)) := fun H Q _ q => ⟨i, rfl, q _ H (.int _) (Same.refl _)⟩
theorem gv_pow {i j : Int} (h : CPow i j) : Gives K b H0 σ (tOp (rI CPow fun i j => .int (i ^ j.toNat)) (tC (.int i)) (tC (.int j))) (.int (i ^ j.toNat)) := fun H Q _ q => ⟨i, j, rfl, rfl, h, q _ H (.int _) (Same.refl _)⟩
theorem gv_var {i : Nat} {v : V} (h : σ[i]? = some (some v)) (e : Dp K (hid b H0) v d) : Gives K b H0 σ (tVar i) d := fun H Q s q => ⟨v, h, q v H (dp_ext (hid_same s) e) (Same.refl _)⟩
theorem gv_nil : GivesA K b H0 σ tNil [] := fun H Q _ q => q _ H .nil (Same.refl _)
theorem gv_cons (h : Gives K b H0 σ te d) (t : GivesA K b H0 σ ta ds) : GivesA K b H0 σ (tCons te ta) (d :: ds) := fun H Q s q =>
  h H _ s fun v H1 e1 s1 => t H1 _ (s.trans s1) fun vs H2 e2 s2 => q _ H2 (.cons (dp_ext (hid_same s2) e1) e2) (s1.trans s2)
theorem gv_tup (hb : ∃ o, H0 b = some o) (t : GivesA K b H0 σ ta ds) (hl : ds.length ≤ 1000) : Gives K b H0 σ (tTup ta) (.tuple ds) := fun H Q s q =>
  t H _ s fun vs H1 e1 s1 => ⟨sz (by rw [dpAll_len e1]; exact hl), fun p np => q _ _ (.tup (SqT.of (hid_new (there_ne (s.trans s1) hb np))) (dpAll_ext (hid_same (same_up np)) e1)) (s1.trans (same_up np))⟩
theorem gv_lst (hb : ∃ o, H0 b = some o) (t : GivesA K b H0 σ ta ds) (hl : ds.length ≤ 1000) : Gives K b H0 σ (tLst ta) (.list ds) := fun H Q s q =>
  t H _ s fun vs H1 e1 s1 => ⟨sz (by rw [dpAll_len e1]; exact hl), fun p np => q _ _ (.lst (SqL.of (hid_new (there_ne (s.trans s1) hb np))) (dpAll_ext (hid_same (same_up np)) e1)) (s1.trans (same_up np))⟩
theorem dpAll_cat {K : PySem.W.Frag} {H : Hp} : ∀ {vs us : List V} {ds es : List PyData}, DpAll K H vs ds → DpAll K H us es → DpAll K H (vs ++ us) (ds ++ es)
  | _, _, _, _, .nil, h => h
  | _, _, _, _, .cons a t, h => .cons a (dpAll_cat t h)
theorem dp_tup {H : Hp} {v : V} (h : Dp K H v (.tuple ds)) : ∃ a xs, v = .ref a ∧ SqT K H a xs ∧ DpAll K H xs ds := by
  cases h with
  | tup hs ha => exact ⟨_, _, rfl, hs, ha⟩
theorem dp_lst {H : Hp} {v : V} (h : Dp K H v (.list ds)) : ∃ a xs, v = .ref a ∧ SqL K H a xs ∧ DpAll K H xs ds := by
  cases h with
  | lst hs ha => exact ⟨_, _, rfl, hs, ha⟩
theorem dpAll_nil {H : Hp} {xs : List V} (h : DpAll K H xs ds) (e : xs = []) : ds = [] := by
  subst e
  cases h
  rfl
theorem gv_cat (hb : ∃ o, H0 b = some o) (h1 : Gives K b H0 σ te (.tuple ds)) (h2 : Gives K b H0 σ tf (.tuple es)) (hl : ds.length + es.length ≤ 1000) : Gives K b H0 σ (tOp (rCatA K) te tf) (.tuple (ds ++ es)) := fun H Q s q =>
  h1 H _ s fun v H1 e1 s1 => h2 H1 _ (s.trans s1) fun u H2 e2 s2 => by
    obtain ⟨a, xs, rfl, ha, da⟩ := dp_tup (dp_ext (hid_same s2) e1)
    obtain ⟨c, ys, rfl, hc, db⟩ := dp_tup e2
    refine ⟨a, c, xs, ys, rfl, rfl, same_seqT hid_sub ha, same_seqT hid_sub hc, sz (by rw [dpAll_len da, dpAll_len db]; exact hl), fun z => ?_, fun _ z => ?_, fun _ _ p np => ?_⟩
    · have e' : Dp K (hid b H2) (V.ref c) (.tuple (ds ++ es)) := by
        rw [dpAll_nil da z, List.nil_append]
        exact e2
      exact q _ _ e' (s1.trans s2)
    · have e' : Dp K (hid b H2) (V.ref a) (.tuple (ds ++ es)) := by
        rw [dpAll_nil db z, List.append_nil]
        exact dp_ext (hid_same s2) e1
      exact q _ _ e' (s1.trans s2)
    · exact q _ _ (.tup (SqT.of (hid_new (there_ne ((s.trans s1).trans s2) hb np))) (dpAll_ext (hid_same (same_up np)) (dpAll_cat da db))) ((s1.trans s2).trans (same_up np))
theorem lst_T (hb : ∃ o, H0 b = some o) (t : GivesA K b H0 σ ta ds) (hl : ds.length ≤ 1000) {H : Hp} {Q : VK} (s : Same H0 H) (q : ∀ p xs H', H' p = some (.lst xs) → H p = none → DpAll K (hid b H') xs ds → Same H H' → Q (.ref p) H') : tLst ta σ H Q :=
  t H _ s fun vs H1 e1 s1 => ⟨sz (by rw [dpAll_len e1]; exact hl), fun p np => q p _ _ upd_same (s1.free np) (dpAll_ext (hid_same (same_up np)) e1) (s1.trans (same_up np))⟩
theorem dpAll_take {H : Hp} : ∀ {xs : List V} {ds : List PyData} (n : Nat), DpAll K H xs ds → DpAll K H (xs.take n) (ds.take n)
  | _, _, 0, _ => by rw [List.take_zero, List.take_zero]; exact .nil
  | _, _, n + 1, .nil => .nil
  | _, _, n + 1, .cons a t => .cons a (dpAll_take n t)
theorem cut_init (xs : List V) : cutV xs none (some (-1)) = xs.take (xs.length - 1) := by
  unfold cutV
  rw [HT.sIx_none, List.drop_zero, Nat.sub_zero]
  have : HT.sIx xs.length xs.length (some (-1)) = xs.length - 1 := by
    simp only [HT.sIx]
    rw [if_pos (by decide)]
    omega
  rw [this]
theorem gv_init (hb : ∃ o, H0 b = some o) (h : Gives K b H0 σ te (.tuple ds)) : Gives K b H0 σ (tSl (rSlA K) te tNoPart (tPart (tUn (rU fun i => .int (-i)) (tC (.int 1))))) (.tuple (ds.take (ds.length - 1))) := fun H Q s q =>
  h H _ s fun v H1 e1 s1 => by
    obtain ⟨a, xs, rfl, ha, da⟩ := dp_tup e1
    have hl := dpAll_len da
    refine ⟨1, rfl, -1, rfl, a, xs, rfl, same_seqT hid_sub ha, fun hw => ?_, fun hw p np => ?_⟩
    · have h2 : HT.sIx xs.length xs.length (some (-1)) = xs.length := hw.2
      simp only [HT.sIx] at h2
      rw [if_pos (by decide)] at h2
      have e0 : ds.take (ds.length - 1) = ds := List.take_of_length_le (by omega)
      rw [e0] at q
      exact q _ _ e1 s1
    · refine q _ _ (.tup (SqT.of (hid_new (there_ne (s.trans s1) hb np))) ?_) (s1.trans (same_up np))
      show DpAll K _ (cutV xs none (some (-1))) _
      rw [cut_init, hl]
      exact dpAll_take _ (dpAll_ext (hid_same (same_up np)) da)
theorem gv_listOf (hb : ∃ o, H0 b = some o) (h : Gives K b H0 σ te (.tuple ds)) : Gives K b H0 σ (tCB (fun xs H Q => ∃ p ys, xs = [.ref p] ∧ (SqL K H p ys ∨ SqT K H p ys) ∧ ∀ l, H l = none → Q (.ref l) (upd H l (.lst ys))) (tCons te tNil)) (.list ds) := fun H Q s q =>
  h H _ s fun v H1 e1 s1 => by
    obtain ⟨a, xs, rfl, ha, da⟩ := dp_tup e1
    exact ⟨a, xs, rfl, .inr (same_seqT hid_sub ha), fun l nl => q _ _ (.lst (SqL.of (hid_new (there_ne (s.trans s1) hb nl))) (dpAll_ext (hid_same (same_up nl)) da)) (s1.trans (same_up nl))⟩
end
/-! ### codes of data -/
def cd (d : PyData) : List Nat := lc_ d.shown
theorem lc_lit (s : String) : lc_ (s : Str) = s.toList.map Char.toNat := by
  unfold lc_
  rw [Str.ofString_eq_toList]
theorem join_cs : ∀ ts : List Str, lc_ (Str.join ", " ts) = jn (ts.map lc_)
  | [] => rfl
  | [x] => rfl
  | x :: y :: r => by
    have ih := join_cs (y :: r)
    show lc_ (x ++ ", " ++ Str.join ", " (y :: r)) = _
    have e2 : lc_ (", " : String) = [44, 32] := by decide +kernel
    rw [lc_app, lc_app, ih, e2, List.append_assoc]
    rfl
theorem cd_tup (ds : List PyData) : cd (.tuple ds) = 40 :: (jn (ds.map cd) ++ (if ds.length = 1 then [44, 41] else [41])) := by
  unfold cd
  rw [PyData.shown, PyProof.Rows.shownAll_eq_map]
  unfold tupleText
  have e1 : lc_ ("(" : String) = [40] := by decide +kernel
  have e2 : lc_ (",)" : String) = [44, 41] := by decide +kernel
  have e3 : lc_ (")" : String) = [41] := by decide +kernel
  rw [lc_app, lc_app, join_cs, List.map_map, List.length_map, e1]
  by_cases h : ds.length = 1
  · rw [if_pos h, if_pos (by rw [h]; rfl), e2]
    rfl
  · rw [if_neg h, if_neg (by simpa using h), e3]
    rfl
theorem cd_int (n : Nat) : cd (.int (n : Int)) = dg n := rfl
/-- a text without commas and closing signs -/
def Plain (c : List Nat) : Prop := ∀ x ∈ c, x ≠ 44 ∧ x ≠ 41
theorem plain_not {c : List Nat} (h : Plain c) : ∀ x ∈ c, (!(decide (x = 44) || decide (x = 41))) = true := fun x hx => by
  obtain ⟨h1, h2⟩ := h x hx
  simp [h1, h2]
theorem jn_zero : jn [] = [] := by simp only [jn]
theorem jn_one (a : List Nat) : jn [a] = a := by simp only [jn]
theorem jn_two (a b : List Nat) (r : List (List Nat)) : jn (a :: b :: r) = a ++ 44 :: 32 :: jn (b :: r) := rfl
theorem jn_eq : ∀ (xs ys : List (List Nat)), (∀ c ∈ xs, Plain c) → (∀ c ∈ ys, Plain c) → xs ≠ [] → ys ≠ [] → ∀ r r' : List Nat, jn xs ++ 41 :: r = jn ys ++ 41 :: r' → xs = ys
  | [], _, _, _, h, _, _, _, _ => absurd rfl h
  | _ :: _, [], _, _, _, h, _, _, _ => absurd rfl h
  | [a], [b], hx, hy, _, _, r, r', e => by
    obtain ⟨e1, _⟩ := span_eq (p := fun x => !(decide (x = 44) || decide (x = 41))) (plain_not (hx a List.mem_cons_self)) (plain_not (hy b List.mem_cons_self)) (fun c l z => by injection z with z; subst z; rfl) (fun c l z => by injection z with z; subst z; rfl) e
    rw [e1]
  | [a], b :: c :: t, hx, hy, _, _, r, r', e => by
    rw [jn_two, List.append_assoc] at e
    obtain ⟨_, e2⟩ := span_eq (p := fun x => !(decide (x = 44) || decide (x = 41))) (plain_not (hx a List.mem_cons_self)) (plain_not (hy b List.mem_cons_self)) (fun c l z => by injection z with z; subst z; rfl) (fun c l z => by injection z with z; subst z; rfl) e
    injection e2 with e3
    cases e3
  | a :: c :: t, [b], hx, hy, _, _, r, r', e => by
    rw [jn_two, List.append_assoc] at e
    obtain ⟨_, e2⟩ := span_eq (p := fun x => !(decide (x = 44) || decide (x = 41))) (plain_not (hx a List.mem_cons_self)) (plain_not (hy b List.mem_cons_self)) (fun c l z => by injection z with z; subst z; rfl) (fun c l z => by injection z with z; subst z; rfl) e
    injection e2 with e3
    cases e3
  | a :: a2 :: t, b :: b2 :: t', hx, hy, _, _, r, r', e => by
    rw [jn_two, jn_two, List.append_assoc, List.append_assoc] at e
    obtain ⟨e1, e2⟩ := span_eq (p := fun x => !(decide (x = 44) || decide (x = 41))) (plain_not (hx a List.mem_cons_self)) (plain_not (hy b List.mem_cons_self)) (fun c l z => by injection z with z; subst z; rfl) (fun c l z => by injection z with z; subst z; rfl) e
    injection e2 with _ e3
    injection e3 with _ e4
    have := jn_eq (a2 :: t) (b2 :: t') (fun c hc => hx c (List.mem_cons_of_mem _ hc)) (fun c hc => hy c (List.mem_cons_of_mem _ hc)) (by simp) (by simp) r r' e4
    rw [e1, this]
theorem one_two {xs ys : List (List Nat)} (hx : ∀ c ∈ xs, Plain c) (hy : ∀ c ∈ ys, Plain c) (h1 : xs.length = 1) (h2 : ys.length ≠ 1) (h3 : ys ≠ []) (e : jn xs ++ [44, 41] = jn ys ++ [41]) : False := by
  match xs, h1, ys, h2, h3, hx, hy, e with
  | [a], _, b :: b2 :: t, _, _, hx, hy, e =>
    rw [jn_one, jn_two, List.append_assoc] at e
    obtain ⟨_, e2⟩ := span_eq (p := fun x => !(decide (x = 44) || decide (x = 41))) (plain_not (hx a List.mem_cons_self)) (plain_not (hy b List.mem_cons_self)) (fun c l z => by injection z with z; subst z; rfl) (fun c l z => by injection z with z; subst z; rfl) e
    injection e2 with _ e3
    injection e3 with e4
    cases e4
  | [_], _, [_], h, _, _, _, _ => exact h rfl
/-- data whose text is plain -/
def Flat (d : PyData) : Prop := Plain (cd d) ∧ cd d ≠ [] ∧ ∀ n : Nat, dg n = cd d → d = .int (n : Int)
theorem dg_plain (n : Nat) : Plain (dg n) := fun x hx => by
  have := dg_all n x hx
  unfold isDg at this
  simp only [Bool.and_eq_true, decide_eq_true_eq] at this
  omega
theorem flat_nat (n : Nat) : Flat (.int (n : Int)) := ⟨dg_plain n, dg_ne n, fun m h => by rw [dg_inj h]⟩
theorem flat_no {d : PyData} (h1 : Plain (cd d)) {c : Nat} {l : List Nat} (h2 : cd d = c :: l) (h3 : isDg c = false) : Flat d := ⟨h1, by rw [h2]; simp, fun n h => by
  rw [h2] at h
  have := dg_all n c (by rw [h]; exact List.mem_cons_self)
  rw [h3] at this
  cases this⟩
theorem cd_none : cd .none = [78, 111, 110, 101] := by decide +kernel
theorem cd_true : cd (.bool true) = [84, 114, 117, 101] := by decide +kernel
theorem cd_false : cd (.bool false) = [70, 97, 108, 115, 101] := by decide +kernel
theorem cd_neg : cd (.int (-1)) = [45, 49] := by decide +kernel
theorem cd_s0 : cd (.str "0") = [39, 48, 39] := by decide +kernel
theorem cd_s : cd (.str "") = [39, 39] := by decide +kernel
theorem flat_of {d : PyData} {c : Nat} {l : List Nat} (e : cd d = c :: l) (h : (c :: l).all (fun x => !(decide (x = 44) || decide (x = 41))) = true) (h3 : isDg c = false) : Flat d := flat_no (by
  rw [e]
  intro x hx
  have := List.all_eq_true.mp h x hx
  simpa using this) e h3
theorem flat_none : Flat .none := flat_of cd_none (by decide) (by decide)
theorem flat_true : Flat (.bool true) := flat_of cd_true (by decide) (by decide)
theorem flat_false : Flat (.bool false) := flat_of cd_false (by decide) (by decide)
theorem flat_neg : Flat (.int (-1)) := flat_of cd_neg (by decide) (by decide)
theorem flat_s0 : Flat (.str "0") := flat_of cd_s0 (by decide) (by decide)
/-- its text is a path's only if it is that path -/
def Told (d : PyData) : Prop := ∀ p : List Nat, (dP p).shown = d.shown → d = dP p
theorem cd_path (p : List Nat) : cd (dP p) = 40 :: (jn (p.map dg) ++ (if p.length = 1 then [44, 41] else [41])) := by
  unfold dP
  rw [cd_tup]
  unfold dI
  rw [List.map_map, List.length_map]
  rfl
theorem told_first {d : PyData} {c : Nat} {l : List Nat} (e : cd d = c :: l) (h : c ≠ 40) : Told d := fun p z => by
  have : cd (dP p) = cd d := congrArg lc_ z
  rw [cd_path, e] at this
  injection this with z1
  exact absurd z1.symm h
theorem jn_nil {xs : List (List Nat)} (h : ∀ c ∈ xs, c ≠ []) (hp : ∀ c ∈ xs, Plain c) (z : xs ≠ []) : ∃ c l, jn xs = c :: l ∧ c ≠ 44 ∧ c ≠ 41 := by
  match xs, z with
  | a :: r, _ =>
    match a, h a List.mem_cons_self, hp a List.mem_cons_self with
    | c :: l, _, hp => 
      have hc := hp c List.mem_cons_self
      cases r with
      | nil => exact ⟨c, l, rfl, hc⟩
      | cons b t => exact ⟨c, _, rfl, hc⟩
theorem flats_eq {ds : List PyData} (h : ∀ d ∈ ds, Flat d) : ∀ {p : List Nat}, p.map dg = ds.map cd → ds = dI p := by
  induction ds with
  | nil => intro p e; cases p with
    | nil => rfl
    | cons a r => cases e
  | cons d r ih =>
    intro p e
    cases p with
    | nil => cases e
    | cons n q =>
      injection e with e1 e2
      have := (h d List.mem_cons_self).2.2 n e1
      rw [this, ih (fun x hx => h x (List.mem_cons_of_mem _ hx)) e2]
      rfl
theorem told_flat {ds : List PyData} (h : ∀ d ∈ ds, Flat d) : Told (.tuple ds) := fun p z => by
  have e : cd (dP p) = cd (.tuple ds) := congrArg lc_ z
  rw [cd_path, cd_tup] at e
  injection e with _ e
  have px : ∀ c ∈ p.map dg, Plain c := fun c hc => by
    obtain ⟨n, _, rfl⟩ := List.mem_map.mp hc
    exact dg_plain n
  have nx : ∀ c ∈ p.map dg, c ≠ [] := fun c hc => by
    obtain ⟨n, _, rfl⟩ := List.mem_map.mp hc
    exact dg_ne n
  have py : ∀ c ∈ ds.map cd, Plain c := fun c hc => by
    obtain ⟨d, hd, rfl⟩ := List.mem_map.mp hc
    exact (h d hd).1
  have ny : ∀ c ∈ ds.map cd, c ≠ [] := fun c hc => by
    obtain ⟨d, hd, rfl⟩ := List.mem_map.mp hc
    exact (h d hd).2.1
  have key : p.map dg = ds.map cd := by
    by_cases hp : p = []
    · subst hp
      by_cases hd : ds = []
      · rw [hd]
        rfl
      · obtain ⟨c, l, e1, e2, e3⟩ := jn_nil ny py (fun z => hd (List.map_eq_nil_iff.mp z))
        rw [e1, List.map_nil, jn_zero, List.nil_append, List.length_nil, if_neg (show ¬ (0 = 1) by decide), List.cons_append] at e
        injection e with e5
        exact absurd e5.symm e3
    · by_cases hd : ds = []
      · subst hd
        obtain ⟨c, l, e1, e2, e3⟩ := jn_nil nx px (fun z => hp (List.map_eq_nil_iff.mp z))
        rw [e1, List.map_nil, jn_zero, List.nil_append, List.length_nil, if_neg (show ¬ (0 = 1) by decide), List.cons_append] at e
        injection e with e5
        exact absurd e5 e3
      · have hp' : p.map dg ≠ [] := fun z => hp (List.map_eq_nil_iff.mp z)
        have hd' : ds.map cd ≠ [] := fun z => hd (List.map_eq_nil_iff.mp z)
        by_cases h1 : p.length = 1 <;> by_cases h2 : ds.length = 1
        · rw [if_pos h1, if_pos h2] at e
          have e' := List.append_cancel_right e
          exact jn_eq _ _ px py hp' hd' [] [] (by rw [e'])
        · rw [if_pos h1, if_neg h2] at e
          exact (one_two px py (by rw [List.length_map]; exact h1) (by rw [List.length_map]; exact h2) hd' e).elim
        · rw [if_neg h1, if_pos h2] at e
          exact (one_two py px (by rw [List.length_map]; exact h2) (by rw [List.length_map]; exact h1) hp' e.symm).elim
        · rw [if_neg h1, if_neg h2] at e
          exact jn_eq _ _ px py hp' hd' [] [] e
  rw [flats_eq h key]
  rfl
theorem told_deep {ds r : List PyData} : Told (.tuple (.tuple ds :: r)) := fun p z => by
  exfalso
  have e : cd (dP p) = cd (.tuple (.tuple ds :: r)) := congrArg lc_ z
  rw [cd_path, cd_tup] at e
  injection e with _ e
  have hd : ∃ w, jn ((.tuple ds :: r).map cd) = 40 :: w := by
    have h0 := cd_tup ds
    cases r with
    | nil => exact ⟨_, h0⟩
    | cons b t =>
      have h1 : jn ((PyData.tuple ds :: b :: t).map cd) = cd (.tuple ds) ++ 44 :: 32 :: jn ((b :: t).map cd) := rfl
      rw [h0] at h1
      exact ⟨_, h1⟩
  obtain ⟨w, hw⟩ := hd
  rw [hw] at e
  cases p with
  | nil =>
    have e1 : [41] = 40 :: (w ++ _) := e
    injection e1 with e2
    cases e2
  | cons a q =>
    have hh : ∃ c l, jn ((a :: q).map dg) = c :: l ∧ isDg c = true := by
      obtain ⟨c, l, hz⟩ := List.exists_cons_of_ne_nil (dg_ne a)
      have hc : isDg c = true := dg_all a c (by rw [hz]; exact List.mem_cons_self)
      cases q with
      | nil => exact ⟨c, l, hz, hc⟩
      | cons b t =>
        have h1 : jn ((a :: b :: t).map dg) = dg a ++ 44 :: 32 :: jn ((b :: t).map dg) := rfl
        rw [hz] at h1
        exact ⟨c, _, h1, hc⟩
    obtain ⟨c, l, e1, e2⟩ := hh
    rw [e1] at e
    have e3 : c :: (l ++ _) = 40 :: (w ++ _) := e
    injection e3 with e4
    subst e4
    cases e2
theorem told_path (q : List Nat) : Told (dP q) := told_flat fun d hd => by
  obtain ⟨n, _, rfl⟩ := List.mem_map.mp hd
  exact flat_nat n
theorem from_pre : ∀ (ts : List Str) (i : Nat) (acc : Str), ∃ l, lc_ (textFrom i acc ts) = lc_ acc ++ l
  | [], i, acc => ⟨[], by rw [List.append_nil]; rfl⟩
  | t :: r, i, acc => by
    obtain ⟨l, e⟩ := from_pre r (i + 1) (acc ++ (if i > 0 then ", " else "" : String) ++ t)
    exact ⟨lc_ (if i > 0 then ", " else "" : String) ++ (lc_ t ++ l), by
      show lc_ (textFrom (i + 1) _ r) = _
      rw [e, lc_app, lc_app, List.append_assoc, List.append_assoc]⟩
theorem cd_list (ds : List PyData) : ∃ l, cd (.list ds) = 91 :: l := by
  unfold cd
  rw [PyData.shown]
  unfold listText
  rw [lc_app]
  obtain ⟨l, e⟩ := from_pre (PyData.shownAll ds) 0 "["
  rw [e]
  exact ⟨_, rfl⟩
theorem told_list (ds : List PyData) : Told (.list ds) := by
  obtain ⟨l, e⟩ := cd_list ds
  exact told_first e (by decide)
/-! ### the node at any value -/
def walk : Ex → List PyData → Option Ex
  | e, [] => some e
  | e, .int i :: r => if h : 0 ≤ i ∧ i.toNat < e.ops.length then walk (e.ops[i.toNat]'h.2) r else none
  | _, _ => none
def look (e : Ex) : PyData → Option Ex
  | .tuple ds => walk e ds
  | _ => none
theorem walk_path : ∀ (p : List Nat) (e : Ex), walk e (dI p) = e.at_ p
  | [], e => rfl
  | n :: p, e => by
    show walk e (.int (n : Int) :: dI p) = (e.ops[n]?).bind fun x => x.at_ p
    unfold walk
    by_cases h : n < e.ops.length
    · rw [dif_pos ⟨by omega, by simpa using h⟩, List.getElem?_eq_getElem h]
      exact walk_path p _
    · rw [dif_neg (fun z => h (by simpa using z.2)), List.getElem?_eq_none (by omega)]
      rfl
theorem walk_some : ∀ {ds : List PyData} {e e' : Ex}, walk e ds = some e' → ∃ p, ds = dI p
  | [], e, e', h => ⟨[], rfl⟩
  | d :: r, e, e', h => by
    cases d with
    | int i =>
      unfold walk at h
      by_cases hi : 0 ≤ i ∧ i.toNat < e.ops.length
      · rw [dif_pos hi] at h
        obtain ⟨p, rfl⟩ := walk_some h
        refine ⟨i.toNat :: p, ?_⟩
        show _ = .int ((i.toNat : Nat) : Int) :: dI p
        rw [Int.toNat_of_nonneg hi.1]
      · rw [dif_neg hi] at h
        cases h
    | _ => exact absurd h (by unfold walk; simp)
theorem look_path (e : Ex) (p : List Nat) : look e (dP p) = e.at_ p := walk_path p e
theorem look_some {e e' : Ex} {d : PyData} (h : look e d = some e') : ∃ p, d = dP p ∧ e.at_ p = some e' := by
  cases d with
  | tuple ds =>
    obtain ⟨p, rfl⟩ := walk_some (show walk e ds = some e' from h)
    exact ⟨p, rfl, (look_path e p).symm.trans h⟩
  | _ => cases h
end Oo
namespace Oo
open PySem L2 PyProof.Rows LamX StX ClX
section
variable {P : Program} {w : World} {K : PySem.W.Frag} {mg : Str → Option Value} {base : Heap} {X : Cx}
theorem scTOpen : FnScope ["self", "path", "node"] ["self"] (defScope sTOpen) := ⟨rfl, rfl, rfl, by decide +kernel, rfl, by decide +kernel, by decide +kernel⟩
theorem ok_topen {CF CB CT CS CL f fo : Addr} {fd fdo : FuncData} {mc : Value} (F : Fun K "open_nodes" "Task.open_nodes" sTOpen f fd) (T : TxT K CT mc)
    (GO : FnOk P w K mg base CX0 2 fo fdo ["node"] spIsOpen) (kO : PySem.W.keepIn K (.ref fo) = true) (bO : Binds K fdo ["node"] []) (mO : mg "is_open" = some (.ref fo)) : FnOk P w K mg base CX0 3 f fd ["self"] (spTOpen K CF CB CT CS CL) := by
  refine F.ok scTOpen (fun vs H Q E h => ?_) (fun cdv A outer s H vs Q E hr h => ?_)
  · obtain ⟨v, fns, e, mk, rfl, _⟩ := h
    rfl
  obtain ⟨v, fns, e, mk, rfl, hT, hn, q⟩ := h
  refine ⟨_, (pss_one (ps_ret (pe_lc (own := [("path", 1), ("node", 2)]) (g := gTup K 2 (gCons (gName 1) (gCons (gName 2) gNil))) (by rfl) scTOpen.nd (pi_tup (pe_fld (pv 0) rfl)) (blkOk_by (own := [("path", 1), ("node", 2)]) (N := ["self", "path", "node"]) (sc := defScope sTOpen) (by decide +kernel)) (fun _ _ _ _ _ => (pg_tup rfl (pgs_cons (pg_name (i := 1) scTOpen.nd rfl (Or.inl rfl)) (pgs_cons (pg_name (i := 2) scTOpen.nd rfl (Or.inl rfl)) pgs_nil)))) (fun _ _ _ _ _ => (pts_one (pt_as (t' := ttOpenN K CF CB CT CS CL) (PW.pt (pw_and (pt_val (pe_call GO hr rfl mO kO bO .nil pass0 (pa_cons (pv 2) pa_nil))) (pw_and1 (pt_cmpR (op_notInP hr.units) (pv 1) (pe_fld (pv 0) rfl) (by rfl))))) ?c1))) (fun _ _ _ _ _ => (pv 1))))), ?_⟩
  case c1 =>
    rintro σ H Q ⟨t, vp, ve, fns, e, e', mk, p, e0, e1, e2, ⟨pt, dx, fs, vb, ve0, tp, tr, rp, rr, rfl, h1, hf, _, _, h4, h5, _, _⟩, hp, ie, q⟩
    refine ⟨_, e2, ve, e', rfl, ie, _, rfl, ?_⟩
    cases ho : isOpenE e' with
    | false =>
      rw [ho] at q
      exact iteF q
    | true =>
      rw [ho] at q
      exact iteT ⟨_, e1, _, e0, pt, CT, dx, fs, _, rfl, h1, T.cl, T.nP, hf.p, p, tp, rp, mk, hp, rfl, h4, h5, _, rfl, q⟩
  obtain ⟨pt, dx, fs, vb, ve0, tp, tr, rp, rr, rfl, h1, hf, h2, h3, h4, h5, h6, h7, hL⟩ := id hT
  refine ⟨_, rfl, pt, CT, dx, fs, _, rfl, h1, T.cl, T.nR, hf.r, tr, rfl, ⟨_, SqT.of h6⟩, fun D nD => ?_⟩
  have hrl : rr.length = (e.pre []).length := h7.length
  refine lc_tup (K := K) (a := tr) (xs := rr) (fun i H' => ∃ acc, H' D = some (.lst acc) ∧ Paired (PathAt H') acc (((((e.pre []).take i).filter fun x => isOpenE x.2).map (·.1)).filter fun p => !decide (p ∈ mk)) ∧ Same H H') ⟨[], upd_same, .nil, same_up nD⟩ (fun i H' _ ⟨_, _, _, z⟩ => SqT.of (z _ _ h6)) ?_ ?_
  · rintro i u H2 hi ⟨acc, eD, pa, s2⟩
    obtain ⟨x, hx, rx⟩ := paired_get h7 hi
    have hil := (List.getElem?_eq_some_iff.mp hx).1
    have ex := (List.getElem?_eq_some_iff.mp hx).2
    obtain ⟨qd, vp, ve', rfl, eq, hp', ie'⟩ := rx.keep (same_t s2)
    have hacc : acc.length ≤ 900 := by
      rw [pa.length]
      refine Nat.le_trans (List.length_filter_le _ _) ?_
      rw [List.length_map]
      refine Nat.le_trans (List.length_filter_le _ _) ?_
      rw [List.length_take, pre_len]
      omega
    refine ⟨qd, _, rfl, SqT.of eq, rfl, _, _, rfl, _, _, rfl, rfl, rfl, _, vp, ve', fns, e, x.2, mk, x.1, rfl, rfl, rfl, hT.keep s2, hp', ie', ?_⟩
    rw [take_succ_get _ i hil, ex, List.filter_append, List.map_append, List.filter_append]
    have ku : ∀ q xs, H2 q = some (.tup xs) → (upd H2 D (.lst (acc ++ [vp]))) q = some (.tup xs) := fun q xs z => by
      rw [upd_ne (fun w => by rw [w, eD] at z; cases z)]; exact z
    cases ho : isOpenE x.2 with
    | false =>
      refine iteF ⟨acc, eD, ?_, s2⟩
      rw [List.filter_cons_of_neg (by simp [ho])]
      simpa using pa
    | true =>
      rw [List.filter_cons_of_pos (by simp [ho])]
      by_cases hm : x.1 ∈ mk
      · rw [decide_eq_true hm]
        refine iteF ⟨acc, eD, ?_, s2⟩
        simpa [hm] using pa
      · rw [decide_eq_false hm]
        refine iteT ⟨_, rfl, acc, eD, small1000 (by omega), acc ++ [vp], upd_same, ?_, fun b o z => by rw [upd_ne (ne_of_none z nD)]; exact s2 _ _ z⟩
        have : (List.filter (fun p => !decide (p ∈ mk)) (List.map (fun x => x.1) [x])) = [x.1] := by simp [hm]
        simp only [List.filter_nil]
        rw [this]
        exact paired_append (L2.Paired.mapP pa fun a b z => z.keep ku) (.cons (hp'.keep ku) .nil)
  · rintro H2 ⟨acc, eD, pa, s2⟩
    rw [hrl, List.take_length] at pa
    exact q D acc H2 eD pa nD s2
end
end Oo
/-! the __init__ of NoNode -/
namespace Oo
open PySem PySem.Spec L2 PyProof.Rows
section
variable {P : Program} {w : World} {K : PySem.W.Frag} {mg : Str → Option Value} {base : Heap}
abbrev sNoNodeI : Stmt := inClass (top 12) 0
theorem scNoNodeI : ScS ["self", "path"] (defScope sNoNodeI) := ⟨rfl, rfl, rfl, by decide +kernel, by decide +kernel, by decide +kernel, by
  intro x hx
  have := PySem.mem_of_lookup hx
  simp only [show (defScope sNoNodeI).names = [(("self" : Str), NameKind.local), ("path", .local), ("__class__", .free), ("super", .globalImplicit), ("copied", .globalImplicit)] from rfl, List.mem_cons, List.not_mem_nil, Prod.mk.injEq, or_false, reduceCtorEq, and_false, false_or, and_true] at this
  exact this, rfl, rfl⟩
theorem ok_nonode {f fc cda cc C : Addr} {fd fdc : FuncData} {N L : Nat} (F : FunS K "__init__" "NoNode.__init__" sNoNodeI f fd cda cc) (T : ExB K "LookupError" "LookupError.__new__" "LookupError.__init__" upLE C)
    (SP : SupF P K mg C f cda cc fd "self") (free : PySem.W.takerIn K C "path" = some none)
    (GC : FnOk P w K mg base CX0 L fc fdc ["value"] (spCopied K N)) (kC : PySem.W.keepIn K (.ref fc) = true) (bC : Binds K fdc ["value"] []) (mC : mg "copied" = some (.ref fc)) :
    FnQ P w K mg base (L2.CX P w) (L + 1) f fd ["self", "path"] (spErr K C "path" N) := by
  obtain ⟨oc, od, dV, kV, doc, pm, an, ct, osl, rfl, lk, hcd⟩ := F.ex
  obtain ⟨z1, z2, z3, lcc⟩ := SP.cell
  refine fn_super lk hcd scNoNodeI ⟨_, _, _, _, lcc⟩ err_many fun A outer s H vs Q E quiet hr h => ?_
  obtain ⟨a, y, d, rfl, ea, hd, er, q⟩ := h
  have h1 := er.dep
  have h2 := er.sixty
  have h3 := er.len
  refine ⟨fun H1 => H1 = H, _, fun s1 I => ?_, pss_one (ps_one base_LE (pv 0) (pe_call GC hr rfl mC kC bC .nil pass0 (pa_cons (pv 1) pa_nil))), ?_⟩
  · refine super_said (i := 0) (a := a) base_LE T SP rfl rfl rfl rfl rfl rfl rfl I rfl ea (pe_joined (.cons pe_str (.cons (pe_shown quiet hr.units (pv 1)) .nil))) ?_
    refine ⟨_, rfl, sz (by decide +kernel), _, rfl, d, hd, er.shw, er.nod, by omega, by rw [sizeLine_eq]; omega, _, rfl, ?_, by decide, ea, rfl⟩
    have e1 : (Str.empty ++ ("not the path of such a node: " : Str)).length ≤ 100 := by decide +kernel
    rw [Str.length_append, sizeLine_eq]
    omega
  · rintro H1 rfl
    refine ⟨_, rfl, y, d, rfl, hd, er.dep, er.thin, fun y' H2 hy sm => ⟨_, rfl, a, C, rfl, T, free, sm _ _ ea, fun m n1 n2 => q y' m H2 sm hy n1 n2⟩⟩
end
end Oo
/-! an own error with one field, raised -/
namespace Oo
open PySem PySem.Spec L2 PyProof.Rows
/-- what an error with one field asks, where it is raised -/
theorem err_raise {K : PySem.W.Frag} {C : Addr} {g : Str} {N : Nat} {H : Hp} {y : V} {d : PyData} {E : XK} (hd : Dp K H y d) (er : Errs d N) (q : ∀ (y' : V) (m : Addr) (F : Hp), Same H F → F m = some (.xd [(g, y')]) → Dp K F y' d → E (.ref C) (some m) F) {a : Addr} (na : H a = none) :
    spErr K C g N [.ref a, y] (upd H a (exo a C none)) (fun v H2 => v = .non ∧ ∃ (m : Addr) (fs : List (Str × V)), H2 a = some (exo a C (some m)) ∧ H2 m = some (exd m fs) ∧ H m = none ∧ E (.ref C) (some m) (upd (del H2 a) m (.xd fs))) (fun _ _ _ => False) := by
  refine ⟨a, y, d, rfl, upd_same, dp_ext (same_up na) hd, er, fun y' m G sm hy m0 ma => ?_⟩
  have hm : H m = none := free_upd (sm.free m0)
  have far : ∀ b o, G b = some o → b ≠ a → (upd (del (upd (upd G m (exd m [(g, y')])) a (exo a C (some m))) a) m (.xd [(g, y')])) b = some o := fun b o z n => by
    have nm : b ≠ m := ne_of_none z m0
    rw [upd_ne nm, del_ne n, upd_ne n, upd_ne nm]
    exact z
  refine ⟨rfl, m, [(g, y')], upd_same, ?_, hm, q y' m _ (fun b o z => ?_) upd_same (dp_ext (fun b o z => ?_) hy)⟩
  · rw [upd_ne ma, upd_same]
  · have n : b ≠ a := ne_of_none z na
    exact far b o (sm b o (by rw [upd_ne n]; exact z)) n
  · obtain ⟨z1, z2⟩ := newer_iff.mp z
    exact far b o z2 fun e => by rw [e, upd_same] at z1; cases z1
/-- isinstance of the exception caught, whatever it turns out to be -/
theorem call_isY {X : Cx} {a D : Addr} {cls : Value} {d : Option Addr} {oe : Obj} {pn : List (Addr × Obj)} (C : ExcC X.K D) (hz : Zc cls d oe) (hf : ∃ vs, oe.data = .fields vs) :
    CallR (X.suite a ((a, oe) :: pn)) (.builtin "isinstance") (fun xs H Q => cls = .ref D ∧ ∃ m, d = some m ∧ rIsX X.K D a m xs H Q) := by
  intro pins s σ H xs us Q I r ⟨e1, m, e2, h⟩
  subst e1
  subst e2
  exact call_isX C hz hf pins s σ H xs us Q I r h
end Oo
/-! the node at any value; Task.nodes, Task.node -/
namespace Oo
open PySem PySem.Spec L2 PyProof.Rows LamX StX ClX
abbrev sTNodes : Stmt := inClass sTask 3
abbrev sTNode : Stmt := inClass sTask 4
def Found (H : Hp) (o : Option Ex) (v : V) : Prop := match o with
  | some e => InE H e v
  | none => v = .non
def spNodeAtX (K : PySem.W.Frag) : Sp := fun vs H Q _ => ∃ (v vd : V) (e : Ex) (d : PyData), vs = [v, vd] ∧ InE H e v ∧ Shp e ∧ Dp K H vd d ∧ ∀ v' H', Found H' (look e d) v' → Same H H' → Q v' H'
def spTNodes (K : PySem.W.Frag) (CF CB CT CS CL : Addr) : Sp := fun vs H Q _ => ∃ v fns e mk, vs = [v] ∧ TaskAt K CF CB CT CS CL H v fns e mk ∧ e.nodes ≤ 900 ∧ ∀ (l : Addr) (rows : List V) (H' : Hp), H' l = some (.lst rows) → Paired (PathAt H') rows ((e.pre []).map (·.1)) → H l = none → Same H H' → Q (.ref l) H'
def spTNode (K : PySem.W.Frag) (CF CB CT CS CL CN : Addr) (N : Nat) : Sp := fun vs H Q E => ∃ (v vd : V) (fns : List Fn) (e : Ex) (mk : List (List Nat)) (d : PyData), vs = [v, vd] ∧ TaskAt K CF CB CT CS CL H v fns e mk ∧ Shp e ∧ Dp K H vd d ∧ Errs d N ∧
  (∀ e' v' H', look e d = some e' → InE H' e' v' → Same H H' → Q v' H') ∧ ∀ (z' : V) (m : Addr) (F : Hp), look e d = none → Same H F → F m = some (.xd [("path", z')]) → Dp K F z' d → E (.ref CN) (some m) F
theorem dpAll_hit {K : PySem.W.Frag} {H : Hp} : ∀ {xs : List V} {ds : List PyData}, DpAll K H xs ds → ∀ {i : Nat} {v : V}, xs[i]? = some v → ∃ h : i < ds.length, Dp K H v ds[i]
  | _, _, .nil, i, v, h => by cases i <;> cases h
  | _, _, .cons a t, 0, v, h => by cases h; exact ⟨Nat.zero_lt_succ _, a⟩
  | _, _, .cons a t, i + 1, v, h => by
    obtain ⟨h1, h2⟩ := dpAll_hit t (i := i) h
    exact ⟨Nat.succ_lt_succ h1, h2⟩
theorem walk_int {e : Ex} {i : Int} {r : List PyData} : walk e (.int i :: r) = if h : 0 ≤ i ∧ i.toNat < e.ops.length then walk (e.ops[i.toNat]'h.2) r else none := by
  conv => lhs; unfold walk
theorem walk_odd {e : Ex} {d : PyData} {r : List PyData} (h : isI d = false) : walk e (d :: r) = none := by
  cases d <;> first | (cases h; done) | (unfold walk; rfl)
section
variable {P : Program} {w : World} {K : PySem.W.Frag} {mg : Str → Option Value} {base : Heap} {X : Cx}
theorem ok_nodeatX {f fi fp : Addr} {fd fdi fdp : FuncData} (F : Fun K "node_at" "node_at" sNodeAt f fd) (mt : mg "tuple" = none) (mis : mg "isinstance" = none) (ml : mg "len" = none)
    (GI : FnOk P w K mg base CX0 1 fi fdi ["value"] (spIsD K)) (kI : PySem.W.keepIn K (.ref fi) = true) (bI : Binds K fdi ["value"] []) (mI : mg "is_integer" = some (.ref fi))
    (GP : FnOk P w K mg base CX0 2 fp fdp ["node"] spOperands) (kP : PySem.W.keepIn K (.ref fp) = true) (bP : Binds K fdp ["node"] []) (mP : mg "operands" = some (.ref fp)) : FnOk P w K mg base CX0 3 f fd ["expression", "path"] (spNodeAtX K) := by
  refine F.ok scNodeAt (fun vs H Q E h => ?_) (fun cdv A outer s H vs Q E hr h => ?_)
  · obtain ⟨v, vd, e, d, rfl, _⟩ := h
    rfl
  obtain ⟨v, vd, e, d, rfl, ie, sh, hd, q⟩ := h
  have hr1 : Room 1 _ := hr.mono (by decide)
  refine ⟨_, (pss_cons (ps_if (pt_not (pt_val (pe_callB call_isi (by rfl) mis boot_isinstance (pa_cons (pv 1) (pa_cons (pe_bltn (v := .ty "tuple") (by rfl) mt (by decide +kernel) rfl) pa_nil))))) (pss_one (ps_ret pe_non)) pss_nil)
    (pss_cons (ps_set (i := 2) scNodeAt.nd rfl (.inl rfl) (pv 0))
    (pss_cons (ps_for PassesOwn.never rfl (pi_tup (pv 1)) (pg_name (i := 3) scNodeAt.nd rfl (Or.inl rfl)) (pss_cons (ps_set (i := 4) scNodeAt.nd rfl (.inl rfl) (pe_call GP hr rfl mP kP bP .nil pass0 (pa_cons (pv 2) pa_nil)))
    (pss_cons (ps_if (PW.pt (pw_or (pt_not (pt_val (pe_call GI hr1 rfl mI kI bI .nil pass0 (pa_cons (pv 3) pa_nil)))) (pw_or1 (pt_not (pt_chain op_le op_lt pe_int (pv 3) (pe_callB call_len_seq (by rfl) ml PySem.boot_len (pa_cons (pv 4) pa_nil))))))) (pss_one (ps_ret pe_non)) pss_nil)
    (pss_one (ps_set (i := 2) scNodeAt.nd rfl (.inl rfl) (pe_ix ix_tup (pv 4) (pv 3) (fun _ _ => rfl)))))))
    (pss_one (ps_ret (pv 2)))))), ?_⟩
  refine ⟨_, rfl, _, _, _, _, isT d, rfl, .ty "tuple", dp_ty hd, kit_T d, isT d, rfl, ?_⟩
  cases ht : isT d with
  | false =>
    refine iteT (q _ H ?_ (Same.refl _))
    have : look e d = none := by cases d <;> first | rfl | cases ht
    rw [this]
    rfl
  | true =>
    refine iteF ?_
    cases hd with
    | @tup a xs ds hs ha =>
      refine ⟨_, rfl, _, rfl, a, rfl, ⟨_, hs⟩, ?_⟩
      have hl := dpAll_len ha
      refine for_tup (K := K) (a := a) (xs := xs) (fun i σ H' => ∃ (vn : V) (x y : Option V) (en : Ex), σ = [some v, some (.ref a), some vn, x, y] ∧ walk e ds = walk en (ds.drop i) ∧ InE H' en vn ∧ Shp en ∧ Same H H') ⟨v, none, none, e, rfl, rfl, ie, sh, Same.refl H⟩ (fun i σ H' _ ⟨_, _, _, _, _, _, _, _, s'⟩ => same_seqT s' hs) ?_ ?_
      · rintro i z σ H1 hi ⟨vn, x, y, en, rfl, hw, ien, sn, s1⟩
        obtain ⟨hil, hz⟩ := dpAll_hit ha hi
        have hz1 := dp_ext s1 hz
        have hw2 : walk e ds = walk en (ds[i] :: ds.drop (i + 1)) := by rw [hw, List.drop_eq_getElem_cons hil]
        refine ⟨_, rfl, vn, en, rfl, ien, sn.rs, fun po ws H2 eo io s2 => ?_⟩
        have hws := io.length
        have hz2 := dp_ext s2 hz1
        refine ⟨_, rfl, z, ds[i], rfl, hz2, isI ds[i], rfl, ?_⟩
        cases hI : isI ds[i] with
        | false =>
          refine iteT (q _ H2 ?_ (s1.trans s2))
          have : look e (.tuple ds) = none := hw2.trans (walk_odd hI)
          rw [this]
          rfl
        | true =>
          obtain ⟨j, hj⟩ : ∃ j, ds[i] = .int j := by
            cases hh : ds[i] with
            | int j => exact ⟨j, rfl⟩
            | _ => rw [hh] at hI; cases hI
          rw [hj] at hz2 hw2
          obtain rfl : z = .int j := by
            cases hz2
            rfl
          rw [walk_int] at hw2
          by_cases h0 : 0 ≤ j
          · refine iteF ⟨_, rfl, _, _, rfl, rfl, _, rfl, iteYes h0 ⟨_, rfl, po, _, rfl, .inr (SqT.of eo), _, _, rfl, rfl, _, rfl, ?_⟩⟩
            by_cases h9 : j < (ws.length : Int)
            · rw [decide_eq_true h9]
              have hjo : j.toNat < en.ops.length := by omega
              obtain ⟨u, hu, iu⟩ := io.get j.toNat hjo
              refine iteF ⟨_, rfl, _, rfl, po, ws, _, u, rfl, rfl, SqT.of eo, at_of (j := j.toNat) (by omega) hu, ?_⟩
              rw [dif_pos ⟨h0, hjo⟩] at hw2
              exact ⟨u, _, _, _, rfl, hw2, iu, Shps.get sn.ops _ hjo, s1.trans s2⟩
            · rw [decide_eq_false h9]
              refine iteT (q _ H2 ?_ (s1.trans s2))
              rw [dif_neg (fun c => h9 (by have := c.2; omega))] at hw2
              have : look e (.tuple ds) = none := hw2
              rw [this]
              rfl
          · refine iteF ⟨_, rfl, _, _, rfl, rfl, _, rfl, iteNo h0 ⟨_, rfl, iteT (q _ H2 ?_ (s1.trans s2))⟩⟩
            rw [dif_neg (fun c => h0 c.1)] at hw2
            have : look e (.tuple ds) = none := hw2
            rw [this]
            rfl
      · rintro σ H1 ⟨vn, x, y, en, rfl, hw, ien, sn, s1⟩
        refine ⟨_, rfl, q vn H1 ?_ s1⟩
        have : look e (.tuple ds) = some en := by
          show walk e ds = some en
          rw [hw, List.drop_eq_nil_of_le (by omega)]
          unfold walk
          rfl
        rw [this]
        exact ien
    | _ => cases ht
theorem scTNodes : FnScope ["self", "path", "node"] ["self"] (defScope sTNodes) := ⟨rfl, rfl, rfl, by decide +kernel, rfl, by decide +kernel, by decide +kernel⟩
theorem ok_tnodes {CF CB CT CS CL f : Addr} {fd : FuncData} {mc : Value} (F : Fun K "nodes" "Task.nodes" sTNodes f fd) (T : TxT K CT mc) : FnOk P w K mg base CX0 1 f fd ["self"] (spTNodes K CF CB CT CS CL) := by
  refine F.ok scTNodes (fun vs H Q E h => ?_) (fun cdv A outer s H vs Q E hr h => ?_)
  · obtain ⟨v, fns, e, mk, rfl, _⟩ := h
    rfl
  obtain ⟨v, fns, e, mk, rfl, hT, hn, q⟩ := h
  refine ⟨_, (pss_one (ps_ret (pe_lc (own := [("path", 1), ("node", 2)]) (g := gTup K 2 (gCons (gName 1) (gCons (gName 2) gNil))) (tt := tYes) (by rfl) scTNodes.nd (pi_tup (pe_fld (pv 0) rfl)) (blkOk_by (own := [("path", 1), ("node", 2)]) (N := ["self", "path", "node"]) (sc := defScope sTNodes) (by decide +kernel)) (fun _ _ _ _ _ => (pg_tup rfl (pgs_cons (pg_name (i := 1) scTNodes.nd rfl (Or.inl rfl)) (pgs_cons (pg_name (i := 2) scTNodes.nd rfl (Or.inl rfl)) pgs_nil)))) (fun _ _ _ _ _ => pts_nil) (fun _ _ _ _ _ => (pv 1))))), ?_⟩
  obtain ⟨pt, dx, fs, vb, ve0, tp, tr, rp, rr, rfl, h1, hf, h2, h3, h4, h5, h6, h7, hL⟩ := id hT
  refine ⟨_, rfl, pt, CT, dx, fs, _, rfl, h1, T.cl, T.nR, hf.r, tr, rfl, ⟨_, SqT.of h6⟩, fun D nD => ?_⟩
  have hrl : rr.length = (e.pre []).length := h7.length
  refine lc_tup (K := K) (a := tr) (xs := rr) (fun i H' => ∃ acc, H' D = some (.lst acc) ∧ Paired (PathAt H') acc (((e.pre []).take i).map (·.1)) ∧ Same H H') ⟨[], upd_same, .nil, same_up nD⟩ (fun i H' _ ⟨_, _, _, z⟩ => SqT.of (z _ _ h6)) ?_ ?_
  · rintro i u H2 hi ⟨acc, eD, pa, s2⟩
    obtain ⟨x, hx, rx⟩ := paired_get h7 hi
    have hil := (List.getElem?_eq_some_iff.mp hx).1
    have ex := (List.getElem?_eq_some_iff.mp hx).2
    obtain ⟨qd, vp, ve', rfl, eq, hp', ie'⟩ := rx.keep (same_t s2)
    have hacc : acc.length ≤ 900 := by
      rw [pa.length, List.length_map, List.length_take, pre_len]
      omega
    have ku : ∀ q xs, H2 q = some (.tup xs) → (upd H2 D (.lst (acc ++ [vp]))) q = some (.tup xs) := fun q xs z => by
      rw [upd_ne (fun w => by rw [w, eD] at z; cases z)]; exact z
    refine ⟨qd, _, rfl, SqT.of eq, rfl, _, _, rfl, _, _, rfl, rfl, rfl, yes_i ⟨_, rfl, acc, eD, small1000 (by omega), acc ++ [vp], upd_same, ?_, fun b o z => by rw [upd_ne (ne_of_none z nD)]; exact s2 _ _ z⟩⟩
    rw [take_succ_get _ i hil, ex, List.map_append]
    exact paired_append (L2.Paired.mapP pa fun a b z => z.keep ku) (.cons (hp'.keep ku) .nil)
  · rintro H2 ⟨acc, eD, pa, s2⟩
    rw [hrl, List.take_length] at pa
    exact q D acc H2 eD pa nD s2
theorem scTNode : FnScope ["self", "path", "found"] ["self", "path"] (defScope sTNode) := ⟨rfl, rfl, rfl, by decide +kernel, rfl, by decide +kernel, by decide +kernel⟩
theorem ok_tnode {CF CB CT CS CL CN f fa fe : Addr} {fd fda fde : FuncData} {mc : Value} {N L : Nat} (F : Fun K "node" "Task.node" sTNode f fd) (T : TxT K CT mc)
    (GA : FnOk P w K mg base CX0 3 fa fda ["expression", "path"] (spNodeAtX K)) (kA : PySem.W.keepIn K (.ref fa) = true) (bA : Binds K fda ["expression", "path"] []) (mA : mg "node_at" = some (.ref fa))
    (TN : ExB K "LookupError" "LookupError.__new__" "LookupError.__init__" upLE CN) (iN : PySem.W.findIn K (.ref CN) "__init__" = some (some (.ref fe))) (tN : PySem.W.typeIn K (.ref fe) = some (.type "function"))
    (GN : FnQ P w K mg base (L2.CX P w) L fe fde ["self", "path"] (spErr K CN "path" N)) (bN : Binds K fde ["self", "path"] []) (mN : mg "NoNode" = some (.ref CN)) (hL : 3 ≤ L) :
    FnQ P w K mg base (L2.CX P w) (L + 2) f fd ["self", "path"] (spTNode K CF CB CT CS CL CN N) := by
  refine okQ F scTNode (fun vs H Q E h => ?_) (fun cdv A outer s H vs Q E quiet hr h => ?_)
  · obtain ⟨v, vd, fns, e, mk, d, rfl, _⟩ := h
    rfl
  obtain ⟨v, vd, fns, e, mk, d, rfl, hT, sh, hd, er, q1, q2⟩ := h
  have hrN := hr
  have hr4 : Room 3 _ := hr.mono (by omega)
  have tk := takes_of (X := cxOf (L2.CX P w) P w K mg base ["self", "path", "found"] "Task.node" (defScope sTNode) f cdv A outer s H E) rfl rfl rfl rfl
  have noOut : Passes (L2.CX P w) (cxOf (L2.CX P w) P w K mg base ["self", "path", "found"] "Task.node" (defScope sTNode) f cdv A outer s H E) (fun _ _ _ => False) := passes_call tk fun _ _ _ _ z => z.elim
  refine ⟨_, (pss_cons (ps_set (i := 2) scTNode.nd rfl (.inl rfl) (pe_call GA hr4 rfl mA kA bA .nil pass0 (pa_cons (pe_fld (pv 0) rfl) (pa_cons (pv 1) pa_nil))))
    (pss_cons (ps_if (pt_cmpR op_isN (pv 2) pe_non (nomark _)) (pss_one (ps_raise rfl tk (pmk_any quiet base_LE TN iN tN GN hrN bN .nil noOut rfl mN (pa_cons (pv 1) pa_nil)))) pss_nil)
    (pss_one (ps_ret (pv 2))))), ?_⟩
  obtain ⟨pt, dx, fs, vb, ve0, tp, tr, rp, rr, rfl, h1, hf, h2, h3, h4, h5, h6, h7, hL⟩ := id hT
  refine ⟨_, rfl, pt, CT, dx, fs, _, rfl, h1, T.cl, T.nE, hf.e, _, rfl, ve0, vd, e, d, rfl, h3, sh, hd, fun v' H1 hv s1 => ?_⟩
  refine ⟨_, rfl, rfl, _, rfl, ?_⟩
  cases hk : look e d with
  | none =>
    rw [hk] at hv
    have hv' : v' = .non := hv
    subst hv'
    refine iteYes rfl ⟨_, rfl, by simp, fun a' na => ?_⟩
    exact err_raise (dp_ext s1 hd) er (fun y' m F s3 e3 d3 => q2 y' m F hk (s1.trans s3) e3 d3) na
  | some e' =>
    rw [hk] at hv
    have hne : v' ≠ .non := by
      have hv' : InE H1 e' v' := hv
      cases e' with
      | num n => unfold InE at hv'; rw [hv']; exact fun z => by cases z
      | nd k os =>
        unfold InE at hv'
        obtain ⟨p, ws, rfl, _⟩ := hv'
        exact fun z => by cases z
    exact iteNo hne ⟨_, rfl, q1 e' v' H1 hk hv s1⟩
end
end Oo
/-! expressions as data; the values that are asked for as paths -/
namespace Oo
open PySem PySem.Spec L2 PyProof.Rows LamX StX ClX
def Kd.dh : Kd → List PyData
  | .read x => [.str "read", .str x]
  | .store x => [.str "store", .str x]
  | .step x b w => [.str "step", .str x, .int b, .str w]
  | .op s => [.str "op", .str s]
  | .call f => [.str "call", .str f]
  | .thn => [.str "then"]
  | .and_ => [.str "and"]
  | .or_ => [.str "or"]
  | .cho => [.str "choose"]
def Kd.dat (k : Kd) (ds : List PyData) : PyData := match k with
  | .call f => .tuple [.str "call", .str f, .tuple ds]
  | k => .tuple (k.dh ++ ds)
mutual
def dEx : Ex → PyData
  | .num n => .int n
  | .nd k os => k.dat (dExs os)
def dExs : List Ex → List PyData
  | [] => []
  | e :: r => dEx e :: dExs r
end
theorem head_dp {K : PySem.W.Frag} {H : Hp} (k : Kd) : DpAll K H k.head k.dh := by
  cases k <;> simp only [Kd.head, Kd.dh] <;> first
    | exact .cons (.str _) .nil
    | exact .cons (.str _) (.cons (.str _) .nil)
    | exact .cons (.str _) (.cons (.str _) (.cons (.int _) (.cons (.str _) .nil)))
mutual
theorem InE.dp {K : PySem.W.Frag} {H : Hp} : ∀ (e : Ex) (v : V), InE H e v → Dp K H v (dEx e)
  | .num n, v, h => by
    unfold InE at h
    subst h
    unfold dEx
    exact .int n
  | .nd k os, v, h => by
    unfold InE at h
    obtain ⟨p, vs, rfl, ios, na⟩ := h
    have hs := InEs.dp (K := K) os vs ios
    unfold dEx
    cases k with
    | call f =>
      obtain ⟨q, h1, h2⟩ := na
      exact .tup (SqT.of h1) (.cons (.str _) (.cons (.str _) (.cons (.tup (SqT.of h2) hs) .nil)))
    | _ => exact .tup (SqT.of na) (dpAll_cat (head_dp _) hs)
theorem InEs.dp {K : PySem.W.Frag} {H : Hp} : ∀ (os : List Ex) (vs : List V), InEs H os vs → DpAll K H vs (dExs os)
  | [], vs, h => by
    unfold InEs at h
    subst h
    unfold dExs
    exact .nil
  | e :: r, vs, h => by
    unfold InEs at h
    obtain ⟨v, ws, rfl, h1, h2⟩ := h
    unfold dExs
    exact .cons (InE.dp e v h1) (InEs.dp r ws h2)
end
/-- what repr asks of data, with its size and depth -/
structure Neat (d : PyData) (B D : Nat) : Prop where
  n : Nice d
  w : d.weight ≤ B
  d : d.depth ≤ D
structure NeatL (ds : List PyData) (B D : Nat) : Prop where
  n : NiceL ds
  w : PyData.weightAll ds ≤ B
  d : PyData.depthAll ds ≤ D
theorem NeatL.nil {D : Nat} : NeatL [] 0 D := ⟨.nil, by simp [PyData.weightAll], by simp [PyData.depthAll]⟩
theorem NeatL.cons {d : PyData} {ds : List PyData} {B C D : Nat} (h : Neat d B D) (t : NeatL ds C D) : NeatL (d :: ds) (B + 1 + C) D := by
  refine ⟨.cons h.n t.n, ?_, ?_⟩
  · have := h.w
    have := t.w
    simp only [PyData.weightAll]
    omega
  · have := h.d
    have := t.d
    simp only [PyData.depthAll]
    omega
theorem NeatL.tup {ds : List PyData} {B D : Nat} (h : NeatL ds B D) : Neat (.tuple ds) B (D + 1) := by
  refine ⟨h.n.tup, ?_, ?_⟩
  · rw [PyData.weight]
    exact h.w
  · rw [PyData.depth]
    have := h.d
    omega
theorem NeatL.lst {ds : List PyData} {B D : Nat} (h : NeatL ds B D) : Neat (.list ds) B (D + 1) := by
  refine ⟨h.n.lst, ?_, ?_⟩
  · rw [PyData.weight]
    exact h.w
  · rw [PyData.depth]
    have := h.d
    omega
theorem Neat.mono {d : PyData} {B C D E : Nat} (h : Neat d B D) (b : B ≤ C) (e : D ≤ E) : Neat d C E := ⟨h.n, Nat.le_trans h.w b, Nat.le_trans h.d e⟩
theorem NeatL.mono {ds : List PyData} {B C D E : Nat} (h : NeatL ds B D) (b : B ≤ C) (e : D ≤ E) : NeatL ds C E := ⟨h.n, Nat.le_trans h.w b, Nat.le_trans h.d e⟩
theorem NeatL.app {b : List PyData} {C D : Nat} (t : NeatL b C D) : ∀ {a : List PyData} {B : Nat}, NeatL a B D → NeatL (a ++ b) (B + C) D
  | [], B, _ => t.mono (by omega) (Nat.le_refl _)
  | x :: r, B, h => by
    obtain ⟨⟨n1, n2, n3, n4⟩, w1, d1⟩ := h
    simp only [PyData.canLayAll0, PyData.intsShortAll, PyData.showableAll, PyData.hasDictAll, Bool.and_eq_true, Bool.or_eq_false_iff, PyData.weightAll, PyData.depthAll] at n1 n2 n3 n4 w1 d1
    have ih := NeatL.app t (a := r) (B := PyData.weightAll r) ⟨⟨n1.2, n2.2, n3.2, n4.2⟩, Nat.le_refl _, by omega⟩
    exact (NeatL.cons (d := x) (B := x.weight) ⟨⟨n1.1, n2.1, n3.1, n4.1⟩, Nat.le_refl _, by omega⟩ ih).mono (by omega) (Nat.le_refl _)
theorem Neat.fits {d : PyData} {B D : Nat} (h : Neat d B D) (hB : B ≤ 1000000) (hD : D ≤ 60) : d.showable = true ∧ d.hasDict = false ∧ d.depth ≤ 60 ∧ d.shown.length ≤ sizeLine := by
  have hw := h.w
  have hd := h.d
  refine ⟨h.n.shw, h.n.nod, by omega, PyData.shown_fits_of_layable0 (B := 13) (by decide) (by decide) ?_ h.n.sht⟩
  unfold PyData.layable0
  rw [h.n.lay, decide_eq_true (show d.depth ≤ 64 by omega), decide_eq_true (show d.weight ≤ 2 ^ 20 by omega)]
  rfl
/-- a short text of our own -/
theorem neat_lit {x : Str} {D : Nat} (h1 : PyData.canLay0 (.str x) = true) (h2 : x.cps.size ≤ 8) : Neat (.str x) 8 D :=
  ⟨⟨h1, by simp only [PyData.intsShort], by simp only [PyData.showable], by simp only [PyData.hasDict]⟩, by simp only [PyData.weight]; exact h2, by simp [PyData.depth]⟩
theorem neat_name {x : Str} {D : Nat} (h : okName x = true) : Neat (.str x) 8 D := ⟨nice_str h, w_name h, by simp [PyData.depth]⟩
theorem neat_int {n : Int} {D : Nat} (h0 : -1 ≤ n) (h1 : n ≤ 999999) : Neat (.int n) 20 D := by
  have ha : n.natAbs ≤ 999999 := by omega
  have hl : n.natAbs.log2 < 20 := by
    by_cases hz : n.natAbs = 0
    · rw [hz]; decide
    · exact (Nat.log2_lt hz).mpr (by omega)
  refine ⟨⟨by simp only [PyData.canLay0], by simp only [PyData.intsShort]; exact decide_eq_true (PyData.shown_int_le (by omega)), by simp only [PyData.showable]; exact decide_eq_true (by omega), by simp only [PyData.hasDict]⟩, ?_, by simp [PyData.depth]⟩
  simp only [PyData.weight]
  split <;> omega
theorem lit1 {x : Str} {D : Nat} (h : Neat (.str x) 8 D) : NeatL [.str x] 9 D := (NeatL.cons h .nil).mono (by omega) (Nat.le_refl _)
theorem lit2 {x y : Str} {D : Nat} (h : Neat (.str x) 8 D) (k : Neat (.str y) 8 D) : NeatL [.str x, .str y] 18 D := (NeatL.cons h (.cons k .nil)).mono (by omega) (Nat.le_refl _)
theorem kd_neat {ps : List Str} {fns : List Fn} {k : Kd} {n D : Nat} (kw : KitW ps fns) (h : KdW ps fns k n) : NeatL k.dh 80 D := by
  have lit : ∀ {x : Str}, PyData.canLay0 (.str x) = true ∧ x.cps.size ≤ 8 → Neat (.str x) 8 D := fun h => neat_lit h.1 h.2
  cases k with
  | read x =>
    match n, h with
    | 0, h => exact (lit2 (lit (by decide +kernel)) (neat_name (kw.pok x h))).mono (by omega) (Nat.le_refl _)
  | store x =>
    match n, h with
    | 1, h => exact (lit2 (lit (by decide +kernel)) (neat_name (kw.pok x h))).mono (by omega) (Nat.le_refl _)
  | step x b w =>
    match n, h with
    | 0, h =>
      obtain ⟨h1, h2, h3⟩ := h
      have hb : Neat (.int b) 20 D := by rcases h2 with rfl | rfl <;> exact neat_int (by decide) (by decide)
      have hw : Neat (.str w) 8 D := by rcases h3 with rfl | rfl <;> exact lit (by decide +kernel)
      exact (NeatL.cons (lit (by decide +kernel)) (.cons (neat_name (kw.pok x h1)) (.cons hb (.cons hw .nil)))).mono (by omega) (Nat.le_refl _)
  | op s =>
    match n, h with
    | 2, h =>
      have hs : Neat (.str s) 8 D := by
        have h' : s ∈ signs := h
        simp only [signs, List.mem_cons, List.not_mem_nil, or_false] at h'
        rcases h' with rfl | rfl | rfl | rfl <;> exact lit (by decide +kernel)
      exact (lit2 (lit (by decide +kernel)) hs).mono (by omega) (Nat.le_refl _)
  | call f =>
    obtain ⟨fn, hf, rfl, _⟩ := (show ∃ fn ∈ fns, fn.name = f ∧ fn.ar = (n : Int) from h)
    exact (lit2 (lit (by decide +kernel)) (neat_name (kw.fok fn hf).1)).mono (by omega) (Nat.le_refl _)
  | _ => exact (lit1 (lit (by decide +kernel))).mono (by omega) (Nat.le_refl _)
mutual
theorem ex_neat {ps : List Str} {fns : List Fn} (kw : KitW ps fns) : ∀ (e : Ex), ExW ps fns e → Neat (dEx e) (100 * e.nodes - 1) (2 * e.depth)
  | .num n, h => by
    unfold ExW at h
    unfold dEx
    exact (neat_int (by omega) h.2).mono (by simp only [Ex.nodes]; omega) (Nat.le_refl _)
  | .nd k os, h => by
    unfold ExW at h
    have hs := exs_neat kw os h.2
    have hk := kd_neat (D := 2 * Ex.depths os) kw h.1
    have hk1 := kd_neat (D := 2 * Ex.depths os + 1) kw h.1
    unfold dEx
    simp only [Ex.nodes, Ex.depth]
    cases k with
    | call f =>
      have ht := hs.tup
      have := (NeatL.app ((NeatL.cons ht .nil).mono (Nat.le_refl _) (Nat.le_refl _)) hk1).tup
      exact this.mono (by omega) (by omega)
    | _ => exact ((NeatL.app hs hk).tup).mono (by omega) (by omega)
theorem exs_neat {ps : List Str} {fns : List Fn} (kw : KitW ps fns) : ∀ (os : List Ex), ExWs ps fns os → NeatL (dExs os) (100 * Ex.nodess os) (2 * Ex.depths os)
  | [], _ => by
    unfold dExs
    exact NeatL.nil.mono (Nat.zero_le _) (Nat.le_refl _)
  | e :: r, h => by
    unfold ExWs at h
    have h1 := ex_neat kw e h.1
    have h2 := exs_neat kw r h.2
    have hp : 1 ≤ e.nodes := nodes_pos e
    unfold dExs
    simp only [Ex.nodess, Ex.depths]
    exact (NeatL.cons (h1.mono (Nat.le_refl _) (by omega)) (h2.mono (Nat.le_refl _) (by omega))).mono (by omega) (Nat.le_refl _)
end
/-! ### texts of moderate length -/
theorem piled_le {B : Nat} : ∀ {ts : List Str}, (∀ t ∈ ts, t.length ≤ B) → piled ts ≤ (B + 2) * ts.length
  | [], _ => by simp [piled]
  | t :: r, h => by
    have h1 := h t List.mem_cons_self
    have h2 := piled_le (B := B) (ts := r) fun x hx => h x (List.mem_cons_of_mem _ hx)
    rw [piled_cons, List.length_cons, Nat.mul_succ]
    omega
theorem shown_mem {ds : List PyData} {t : Str} (h : t ∈ PyData.shownAll ds) : ∃ d ∈ ds, d.shown = t := by
  rw [PyProof.Rows.shownAll_eq_map] at h
  obtain ⟨d, hd, e⟩ := List.mem_map.mp h
  exact ⟨d, hd, e⟩
theorem tup_len {B : Nat} {ds : List PyData} (h : ∀ d ∈ ds, d.shown.length ≤ B) : (PyData.tuple ds).shown.length ≤ (B + 2) * ds.length + 4 := by
  have hp := piled_le (B := B) (ts := PyData.shownAll ds) fun t ht => by
    obtain ⟨d, hd, rfl⟩ := shown_mem ht
    exact h d hd
  have hl : (PyData.shownAll ds).length = ds.length := by rw [PyProof.Rows.shownAll_eq_map, List.length_map]
  rw [hl] at hp
  have e1 : (("(" : String) : Str).length = 1 := rfl
  have e2 : ((",)" : String) : Str).length = 2 := rfl
  have e3 : ((")" : String) : Str).length = 1 := rfl
  have hj : (Str.join ", " (PyData.shownAll ds)).length ≤ piled (PyData.shownAll ds) := by
    by_cases z : PyData.shownAll ds = []
    · rw [z]
      exact Nat.le_refl _
    · have := join_length_add _ z
      omega
  rw [PyData.shown]
  unfold tupleText
  rw [strLen_append, strLen_append, e1]
  split
  · rw [e2]; omega
  · rw [e3]; omega
theorem lst_len {B : Nat} {ds : List PyData} (h : ∀ d ∈ ds, d.shown.length ≤ B) : (PyData.list ds).shown.length ≤ (B + 2) * ds.length + 4 := by
  have hp := piled_le (B := B) (ts := PyData.shownAll ds) fun t ht => by
    obtain ⟨d, hd, rfl⟩ := shown_mem ht
    exact h d hd
  have hl : (PyData.shownAll ds).length = ds.length := by rw [PyProof.Rows.shownAll_eq_map, List.length_map]
  rw [hl] at hp
  have tf : ∀ (ts : List Str) (k : Nat) (acc : Str), (textFrom k acc ts).length ≤ acc.length + piled ts := by
    intro ts
    induction ts with
    | nil => intro k acc; exact Nat.le_add_right _ _
    | cons t r ih =>
      intro k acc
      have := ih (k + 1) (acc ++ (if k > 0 then ", " else "" : String) ++ t)
      show (textFrom (k + 1) _ r).length ≤ _
      rw [strLen_append, strLen_append] at this
      have h2 : (((if k > 0 then ", " else "" : String)) : Str).length ≤ 2 := by split <;> decide
      rw [piled_cons]
      omega
  have e1 : (("[" : String) : Str).length = 1 := rfl
  have e3 : (("]" : String) : Str).length = 1 := rfl
  have := tf (PyData.shownAll ds) 0 "["
  rw [PyData.shown]
  unfold listText
  rw [strLen_append, e3]
  omega
/-! ### a value that is asked for as a path -/
structure Val (d : PyData) : Prop where
  er : Errs d 4
  told : Told d
end Oo
/-! a node asked within try: the node, or the error's value -/
namespace Oo
open PySem PySem.Spec L2 PyProof.Rows LamX StX ClX
abbrev sAsked4 : Stmt := top 75
/-- o.m(e, ..) within a try -/
def tMethS (C : Addr) (m : Str) (sp : Sp) (E : L2.St → XK) (ta : TE) (t : TA) : TE := fun σ H Q => ta σ H fun x H1 => ∃ a dx fs, x = .ref a ∧ H1 a = some (.ins C dx fs) ∧ fs.lookup m = none ∧ t σ H1 fun vs H2 => sp (x :: vs) H2 Q (E σ)
theorem pe_methQS {X : Cx} {CX : CXT} {k : Nat} {f C : Addr} {fd : FuncData} {ps : List Str} {sp : Sp} {E : L2.St → XK} {m : Str} {pos apos : Pos} {o e : Expr} {es : List Expr} {ta : TE} {t : TA} {pl : Sem Bool} (still : X.A.guards = some []) (he : PE X o ta) (c : Cls X.K C) (hm : Meth X.K C m f)
    (F : FnQ X.prog X.w X.K X.mg X.base CX k f fd ps sp) (room : Room k X.A) (bind : Binds X.K fd ps []) (out : ∀ σ, PassesAt CX X σ (E σ)) (ha : PA X (e :: es) t)
    (hst : starEach (e :: es) X.env = (false, eval e X.env) :: starEach es X.env := by rfl) (hpl : (backTo pos (starEach es X.env)).any (·.1) = false := by rfl)
    (said : eval (.Call (.Attribute o m apos) (e :: es) [] pos) X.env = (do
      let ov ← eval o X.env
      standAt apos.atName
      let (f, first) ← holding [ov] (getMethod ov m pl)
      callWith pos f first (backTo pos (starEach (e :: es) X.env)) (backToKw pos (keywordEach [] X.env))) := by rfl) :
    PE X (.Call (.Attribute o m apos) (e :: es) [] pos) (tMethS C m sp E ta t) := by
  refine ⟨fun pins s σ H Q I h => ?_⟩
  refine PySem.W.methodCall_KW (pl := pl) (thn (he.run pins s σ H _ I h) fun u s1 ⟨x, H1, I1, rx, a, dx, fs, ex, ea, l, q⟩ => ?_) said
  subst ex
  obtain rfl : u = Value.ref a := rx
  refine getmeth_ok I1 ea c hm l ?_
  refine PySem.W.callWith_K (first := [.ref a]) (h₀ := X.base) I.ok.mod.kin hm.kp (thn (ha.run pos pins s1 σ H1 _ I1 q) fun us s2 ⟨vs, H2, I2, r, q2⟩ => ⟨I2.kIn, ?_⟩) hst hpl
  have rels : Vals (V.ref a :: vs) (Value.ref a :: us) := .cons rfl r
  have count : (Value.ref a :: us).length = ps.length := rels.length.symm.trans (F.many _ _ _ _ q2)
  have b := bind s2 (Value.ref a :: us) I2.kIn (by rw [List.append_nil]; exact count)
  rw [List.append_nil] at b
  refine wpAny_call (codeAny_mono (F.go X.A X.stack s2 H2 ⟨Value.ref a :: us, []⟩ (Value.ref a :: us) (V.ref a :: vs) Q (E σ) still room I2.env0 b rels q2) fun r s' hq => ?_)
  match r, hq with
  | .error z, hq => exact out σ pins H2 s2 z s' I2 hq
  | .ok (.ret u), hq => exact I2.after hq
  | .ok .next, hq => exact hq.elim
  | .ok .brk, hq => exact hq.elim
  | .ok .cont, hq => exact hq.elim
/-- isinstance(e, (c, ..)), e the exception that the suite holds -/
def rIsXT (K : PySem.W.Frag) (D a m : Addr) : List V → Hp → VK → Prop := fun xs H Q => ∃ (tp : Addr) (cs : List V) (us : List Value) (b : Bool) (fs : List (Str × V)), xs = [.ref a, .ref tp] ∧ H tp = some (.tup cs) ∧ Paired ClsV cs us ∧ PySem.W.kitAny K (.ref D) us = some b ∧ H m = some (.xd fs) ∧ Q (.bl b) H
theorem call_isYT {X : Cx} {a D : Addr} {cls : Value} {d : Option Addr} {oe : Obj} {pn : List (Addr × Obj)} (C : ExcC X.K D) (hz : Zc cls d oe) (hf : ∃ vs, oe.data = .fields vs) :
    CallR (X.suite a ((a, oe) :: pn)) (.builtin "isinstance") (fun xs H Q => cls = .ref D ∧ ∃ m, d = some m ∧ rIsXT X.K D a m xs H Q) := by
  intro pins s σ H xs us Q I r ⟨e1, m, e2, tp, cs, ws, b, fs, e3, hT, k, e, hm, q⟩
  subst e1
  subst e2
  subst e3
  obtain ⟨isA, _⟩ := I.pin (a, oe) (List.mem_append.mpr (.inl List.mem_cons_self))
  have hx : ObjOk X.prog X.w H s.heap m (.xd fs) := I.hok m _ hm
  obtain ⟨mA, ⟨od, es, ep, ho, _⟩, _⟩ := hx
  obtain ⟨vs, hv⟩ := hf
  have J : PySem.W.InstAt s.heap a oe D (some od) := ⟨isA, hz.1, by unfold PySem.W.notCls; rw [hv], by rw [hz.2]; exact ho⟩
  obtain ⟨u1, u2, rfl, r1, r2⟩ := vals2 r
  cases r1
  cases (show u2 = Value.ref tp from r2)
  obtain ⟨_, its, rv, o, h1, h2, n, h3⟩ := (show ObjOk X.prog X.w H s.heap tp (.tup cs) from I.hok tp _ hT)
  have e3 := ClsV.all k rv
  subst e3
  obtain ⟨oc, od', dt, sl⟩ := o
  simp only at h2 h3
  subst h2 h3
  obtain ⟨cd, hcd, _⟩ := PySem.W.any_some C.hd
  exact PySem.W.kia_tup (PySem.W.kitx_exc (by rw [hcd]; rfl) C.hg C.hk C.hs C.ha C.hn C.ht C.hm) I.kIn J h1 e (fun z => nomatch z) fun tk => ⟨.bl b, H, I.kept (t' := tk) fun _ _ z => z, rfl, q⟩
def spAsked4 (K : PySem.W.Frag) (CF CB CT CS CL : Addr) (N : Nat) : Sp := fun vs H Q _ => ∃ (v vd : V) (fns : List Fn) (e : Ex) (mk : List (List Nat)) (d : PyData), vs = [v, vd] ∧ TaskAt K CF CB CT CS CL H v fns e mk ∧ Shp e ∧ Dp K H vd d ∧ Errs d N ∧
  (∀ e' t z' F, look e d = some e' → InE F e' z' → F t = some (.tup [.str "node", z']) → Same H F → Q (.ref t) F) ∧ ∀ t z' F, look e d = none → Dp K F z' d → F t = some (.tup [.str "error", z']) → Same H F → Q (.ref t) F
section
variable {P : Program} {w : World} {K : PySem.W.Frag} {mg : Str → Option Value} {base : Heap}
theorem scAsked4 : FnScope ["_law_task", "_law_value", "e", "_law_is_plain"] ["_law_task", "_law_value"] (defScope sAsked4) := ⟨rfl, rfl, rfl, by decide +kernel, rfl, by decide +kernel, by decide +kernel⟩
theorem ok_asked4 {CF CB CT CS CL CN f fp : Addr} {fd fdp : FuncData} {mc : Value} {N L : Nat} (F : Fun K "_law_asked" "_law_asked" sAsked4 f fd) (T : TxT K CT mc) (mis : mg "isinstance" = none) (mle : mg "LookupError" = none) (mke : mg "KeyError" = none) (mie : mg "IndexError" = none)
    (MN : Meth K CT "node" fp) (GP : FnQ P w K mg base (L2.CX P w) L fp fdp ["self", "path"] (spTNode K CF CB CT CS CL CN N)) (bP : Binds K fdp ["self", "path"] [])
    (mN : mg "NoNode" = some (.ref CN)) (ex1 : PySem.W.exmOne K (.ref CN) (.ref CN) = some true) (C : ExcC K CN) (xf : XfC K CN) (noS : PySem.W.findIn K (.ref CN) "path" = some none)
    (kt : PySem.W.kitOne K (.ref CN) (.type "LookupError") = some true) (kk : PySem.W.kitOne K (.ref CN) (.type "KeyError") = some false) (ki : PySem.W.kitOne K (.ref CN) (.type "IndexError") = some false) :
    FnQ P w K mg base CX0 (L + 1) f fd ["_law_task", "_law_value"] (spAsked4 K CF CB CT CS CL N) := by
  refine okQ F scAsked4 (fun vs H Q E h => ?_) (fun cdv A outer s H vs Q E quiet hr h => ?_)
  · obtain ⟨v, vd, fns, e, mk, d, rfl, _⟩ := h
    rfl
  refine ⟨_, pss_one (ps_try_as (i := 2) (c := .ref CN) (Wout := fun _ _ _ _ => False) rfl rfl scAsked4.nd rfl rfl ⟨rfl, by decide, .inl mN⟩ (fun u s' ⟨_, _, _, _, _, _, _, _, _, _, _, _, _, _, _, _, z⟩ => z.elim)
    (fun W pn xe tk own => pss_one (ps_ret (pe_tup (pa_cons pe_str (pa_cons (pe_methQS quiet (pv 0) T.cl MN GP hr bP (passAt tk) (pa_cons (pv 1) pa_nil)) pa_nil)))))
    (fun a oe cls d pn hz hf => pss_cons (ps_set (i := 3) scAsked4.nd rfl (.inl rfl) (pe_and (pe_callB (call_isY C hz hf) (by rfl) mis boot_isinstance (pa_cons (pv 2) (pa_cons (pe_bltn (v := .ty "LookupError") (by rfl) mle (by decide +kernel) rfl) pa_nil)))
        (pe_one (pe_not (pe_callB (call_isYT C hz hf) (by rfl) mis boot_isinstance (pa_cons (pv 2) (pa_cons (pe_tup (pa_cons (pe_bltn (v := .ty "KeyError") (by rfl) mke (by decide +kernel) rfl) (pa_cons (pe_bltn (v := .ty "IndexError") (by rfl) mie (by decide +kernel) rfl) pa_nil))) pa_nil)))))))
      (pss_one (ps_ret (pe_ifExp (pt_val (pv 3)) (pe_tup (pa_cons pe_str (pa_cons (pe_xf xf noS hz hf (pv 2)) pa_nil))) (pe_tup (pa_cons pe_str pa_nil))))))), ?_⟩
  obtain ⟨v, vd, fns, e, mk, d, rfl, hT, sh, hd, er, q1, q2⟩ := h
  obtain ⟨pt, dx, fs, vb, ve0, tp, tr, rp, rr, rfl, h1, hf, h2, h3, h4, h5, h6, h7, hL⟩ := id hT
  refine ⟨_, rfl, pt, dx, fs, rfl, h1, hf.n4, _, rfl, .ref pt, vd, fns, e, mk, d, rfl, hT, sh, hd, er, fun e' v' H1 hk hv s1 => ?_, fun z' m F1 hk s1 e1 hz => ?_⟩
  · refine ⟨sz (by simp), fun t nt => ?_⟩
    exact q1 e' t v' _ hk (InE.keep (same_t (same_up nt)) e' v' hv) upd_same (s1.trans (same_up nt))
  · refine ⟨true, ex1, fun _ a ha => ?_, fun z => by cases z⟩
    refine ⟨_, rfl, rfl, m, rfl, _, _, true, _, rfl, (fun u r => r), kt, e1, ?_⟩
    refine ⟨true, rfl, iteT ?_⟩
    refine ⟨_, rfl, sz (by simp), fun tt ntt => ?_⟩
    have s2 := same_up (o := .tup [V.ty "KeyError", .ty "IndexError"]) ntt
    refine ⟨rfl, m, rfl, tt, _, [.type "KeyError", .type "IndexError"], false, _, rfl, upd_same, .cons (.ty _) (.cons (.ty _) .nil), kitAny_cons kk (fun _ => kitAny_cons ki (fun _ => kitAny_nil) (fun z => by cases z)) (fun z => by cases z), s2 _ _ e1, ?_⟩
    refine ⟨false, rfl, _, rfl, _, rfl, iteT ⟨_, rfl, rfl, rfl, m, _, z', rfl, s2 _ _ e1, by simp [List.lookup], sz (by simp), fun t nt => ?_⟩⟩
    have s3 := same_up (o := .tup [V.str "error", z']) nt
    exact q2 t z' _ hk (dp_ext (s2.trans s3) hz) upd_same (s1.trans (s2.trans s3))
end
end Oo
/-! the values that the law asks for -/
namespace Oo
open PySem PySem.Spec L2 PyProof.Rows LamX StX ClX
theorem neatL_all {B D : Nat} : ∀ {ds : List PyData}, (∀ d ∈ ds, Neat d B D) → NeatL ds ((B + 1) * ds.length) D
  | [], _ => NeatL.nil.mono (by simp) (Nat.le_refl _)
  | d :: r, h => (NeatL.cons (h d List.mem_cons_self) (neatL_all fun e he => h e (List.mem_cons_of_mem _ he))).mono (by rw [List.length_cons, Nat.mul_succ]; omega) (Nat.le_refl _)
theorem thin_all : ∀ {ds : List PyData}, (∀ d ∈ ds, Thin d) → ThinAll ds
  | [], _ => by unfold ThinAll; trivial
  | d :: r, h => by
    unfold ThinAll
    exact ⟨h d List.mem_cons_self, thin_all fun e he => h e (List.mem_cons_of_mem _ he)⟩
/-- an item of such a value -/
structure Itm (d : PyData) : Prop where
  n : Neat d 1000 2
  l : d.shown.length ≤ 1000
  t : Thin d
theorem val_tup {ds : List PyData} (h : ∀ d ∈ ds, Itm d) (hl : ds.length ≤ 60) (t : Told (.tuple ds)) : Val (.tuple ds) := by
  have hn := (neatL_all fun d hd => (h d hd).n).tup
  obtain ⟨f1, f2, _, _⟩ := hn.fits (by have := Nat.mul_le_mul_left 1001 hl; omega) (by decide)
  refine ⟨⟨f1, f2, by have := hn.d; omega, by decide, ?_, ?_⟩, t⟩
  · unfold Thin
    exact ⟨by omega, thin_all fun d hd => (h d hd).t⟩
  · have := tup_len (B := 1000) fun d hd => (h d hd).l
    have := Nat.mul_le_mul_left 1002 hl
    omega
theorem val_lst {ds : List PyData} (h : ∀ d ∈ ds, Itm d) (hl : ds.length ≤ 60) : Val (.list ds) := by
  have hn := (neatL_all fun d hd => (h d hd).n).lst
  obtain ⟨f1, f2, _, _⟩ := hn.fits (by have := Nat.mul_le_mul_left 1001 hl; omega) (by decide)
  refine ⟨⟨f1, f2, by have := hn.d; omega, by decide, ?_, ?_⟩, told_list ds⟩
  · unfold Thin
    exact ⟨by omega, thin_all fun d hd => (h d hd).t⟩
  · have := lst_len (B := 1000) fun d hd => (h d hd).l
    have := Nat.mul_le_mul_left 1002 hl
    omega
theorem itm_nat {n : Nat} (h : n ≤ 1000) : Itm (.int (n : Int)) := ⟨(neat_int (by omega) (by omega)).mono (by decide) (Nat.le_refl _), Nat.le_trans (PyData.shown_int_le (by omega)) (by decide), by unfold Thin; trivial⟩
theorem itm_true : Itm (.bool true) := ⟨⟨⟨by simp only [PyData.canLay0], by simp only [PyData.intsShort], by simp only [PyData.showable], by simp only [PyData.hasDict]⟩, by simp [PyData.weight], by simp [PyData.depth]⟩, by decide +kernel, by unfold Thin; trivial⟩
theorem dI_itm {p : List Nat} (h : ∀ x ∈ p, x ≤ 1000) : ∀ d ∈ dI p, Itm d := fun d hd => by
  obtain ⟨n, hn, rfl⟩ := List.mem_map.mp hd
  exact itm_nat (h n hn)
theorem dI_len (p : List Nat) : (dI p).length = p.length := by unfold dI; rw [List.length_map]
theorem itm_path {p : List Nat} (h : ∀ x ∈ p, x ≤ 1000) (hl : p.length ≤ 40) : Itm (dP p) := by
  have hn : ∀ d ∈ dI p, Neat d 20 1 := fun d hd => by
    obtain ⟨n, hn, rfl⟩ := List.mem_map.mp hd
    have := h n hn
    exact neat_int (by omega) (by omega)
  have hs : ∀ d ∈ dI p, d.shown.length ≤ 13 := fun d hd => by
    obtain ⟨n, hn, rfl⟩ := List.mem_map.mp hd
    have := h n hn
    exact PyData.shown_int_le (by omega)
  have h1 := (neatL_all hn).tup
  rw [dI_len] at h1
  have h2 := tup_len hs
  rw [dI_len] at h2
  refine ⟨h1.mono (by have := Nat.mul_le_mul_left 21 hl; omega) (Nat.le_refl _), ?_, ?_⟩
  · have : (dP p).shown.length ≤ (13 + 2) * p.length + 4 := h2
    omega
  · unfold dP Thin
    exact ⟨by rw [dI_len]; omega, thin_all fun d hd => (dI_itm h d hd).t⟩
theorem val_path {p : List Nat} (h : ∀ x ∈ p, x ≤ 1000) (hl : p.length ≤ 50) : Val (dP p) := val_tup (dI_itm h) (by rw [dI_len]; omega) (told_path p)
def big : Nat := 10 ^ 39
theorem big_eq : (10 : Int) ^ (39 : Int).toNat = ((big : Nat) : Int) := by decide +kernel
theorem gv_big {K : PySem.W.Frag} {b : Addr} {H0 : Hp} {σ : L2.St} : Gives K b H0 σ (tOp (rI CPow fun i j => .int (i ^ j.toNat)) (tC (.int 10)) (tC (.int 39))) (.int ((big : Nat) : Int)) := by
  rw [← big_eq]
  exact gv_pow ⟨by decide, by decide, by decide⟩
/-- the written values -/
def odd4 : List PyData := [.none, .bool true, .int 0, .str "", .str "0", .list [], .list [.int 0], .tuple [], .tuple [.int (-1)], .tuple [.bool true], .tuple [.bool false], .tuple [.str "0"], .tuple [.none], .tuple [.tuple []], .tuple [.int 0, .int ((big : Nat) : Int)]]
def okV (d : PyData) : Bool := d.showable && (!d.hasDict && (decide (d.depth < 4) && decide (d.shown.length ≤ 100000)))
theorem odd4_ok : ∀ d ∈ odd4, okV d = true := by decide +kernel
theorem odd4_thin : ∀ d ∈ odd4, Thin d := by
  intro d hd
  simp only [odd4, List.mem_cons, List.not_mem_nil, or_false] at hd
  have t0 : ∀ i : Int, ThinAll [.int i] := fun i => thin_all fun d hd => by
    rw [List.mem_singleton.mp hd]
    unfold Thin
    trivial
  have tn : ThinAll [] := by unfold ThinAll; trivial
  have tt : ∀ {d : PyData}, Thin d → ThinAll [d] := fun h => thin_all fun e he => by rw [List.mem_singleton.mp he]; exact h
  rcases hd with rfl | rfl | rfl | rfl | rfl | rfl | rfl | rfl | rfl | rfl | rfl | rfl | rfl | rfl | rfl
  all_goals unfold Thin
  all_goals first
    | trivial
    | exact ⟨by decide, tn⟩
    | exact ⟨by decide, t0 _⟩
    | exact ⟨by decide, tt (by unfold Thin; trivial)⟩
    | exact ⟨by decide, tt (by unfold Thin; exact ⟨by decide, tn⟩)⟩
    | exact ⟨by decide, thin_all fun d hd => by
        simp only [List.mem_cons, List.not_mem_nil, or_false] at hd
        rcases hd with rfl | rfl <;> (unfold Thin; trivial)⟩
theorem odd4_told : ∀ d ∈ odd4, Told d := by
  intro d hd
  have e0 : cd (.int 0) = [48] := by decide +kernel
  have one : ∀ {d : PyData}, Flat d → Told (.tuple [d]) := fun h => told_flat fun e he => by rw [List.mem_singleton.mp he]; exact h
  simp only [odd4, List.mem_cons, List.not_mem_nil, or_false] at hd
  rcases hd with rfl | rfl | rfl | rfl | rfl | rfl | rfl | rfl | rfl | rfl | rfl | rfl | rfl | rfl | rfl
  · exact told_first cd_none (by decide)
  · exact told_first cd_true (by decide)
  · exact told_first e0 (by decide)
  · exact told_first cd_s (by decide)
  · exact told_first cd_s0 (by decide)
  · exact told_list _
  · exact told_list _
  · exact told_path []
  · exact one flat_neg
  · exact one flat_true
  · exact one flat_false
  · exact one flat_s0
  · exact one flat_none
  · exact told_deep
  · exact told_path [0, big]
theorem odd4_val : ∀ d ∈ odd4, Val d := fun d hd => by
  have h := odd4_ok d hd
  unfold okV at h
  simp only [Bool.and_eq_true, Bool.not_eq_true', decide_eq_true_eq] at h
  obtain ⟨h1, h2, h3, h4⟩ := h
  exact ⟨⟨h1, h2, h3, by decide, odd4_thin d hd, h4⟩, odd4_told d hd⟩
/-- the values made of a path -/
def ofPath (p : List Nat) : List PyData := [dP p, .tuple (dI p ++ [.int 0]), .tuple (dI p ++ [.int 3]), .tuple ((dI p).take ((dI p).length - 1) ++ [.bool true]), .tuple ((dI p).take ((dI p).length - 1)), .list (dI p), .tuple [dP p]]
theorem dI_app (p : List Nat) (n : Nat) : dI p ++ [.int (n : Int)] = dI (p ++ [n]) := by unfold dI; rw [List.map_append]; rfl
theorem dI_take (p : List Nat) (n : Nat) : (dI p).take n = dI (p.take n) := by unfold dI; rw [List.map_take]
theorem ofPath_val {p : List Nat} (h : ∀ x ∈ p, x ≤ 1000) (hl : p.length ≤ 40) : ∀ d ∈ ofPath p, Val d := by
  intro d hd
  have app : ∀ n : Nat, n ≤ 1000 → ∀ x ∈ p ++ [n], x ≤ 1000 := fun n hn x hx => by
    rcases List.mem_append.mp hx with hx | hx
    · exact h x hx
    · rw [List.mem_singleton.mp hx]; exact hn
  have tk : ∀ x ∈ p.take ((dI p).length - 1), x ≤ 1000 := fun x hx => h x (List.mem_of_mem_take hx)
  have tl : (p.take ((dI p).length - 1)).length ≤ 40 := Nat.le_trans (List.length_take_le' _ _) hl
  simp only [ofPath, List.mem_cons, List.not_mem_nil, or_false] at hd
  rcases hd with rfl | rfl | rfl | rfl | rfl | rfl | rfl
  · exact val_path h (by omega)
  · rw [show (PyData.int 0) = .int ((0 : Nat) : Int) from rfl, dI_app]
    exact val_path (app 0 (by decide)) (by rw [List.length_append, List.length_singleton]; omega)
  · rw [show (PyData.int 3) = .int ((3 : Nat) : Int) from rfl, dI_app]
    exact val_path (app 3 (by decide)) (by rw [List.length_append, List.length_singleton]; omega)
  · rw [dI_take]
    refine val_tup (fun d hd => ?_) (by rw [List.length_append, dI_len, List.length_singleton]; omega) (told_flat fun d hd => ?_)
    · rcases List.mem_append.mp hd with hd | hd
      · exact dI_itm tk d hd
      · rw [List.mem_singleton.mp hd]; exact itm_true
    · rcases List.mem_append.mp hd with hd | hd
      · obtain ⟨n, _, rfl⟩ := List.mem_map.mp hd
        exact flat_nat n
      · rw [List.mem_singleton.mp hd]; exact flat_true
  · rw [dI_take]
    exact val_path tk (by omega)
  · exact val_lst (dI_itm h) (by rw [dI_len]; omega)
  · refine val_tup (fun d hd => ?_) (by simp) told_deep
    rw [List.mem_singleton.mp hd]
    exact itm_path h hl
/-! ### paths of nodes -/
mutual
theorem pre_ix (B : Nat) : ∀ (e : Ex) (p : List Nat), (∀ x ∈ p, x ≤ B) → e.nodes ≤ B → ∀ r ∈ e.pre p, ∀ x ∈ r.1, x ≤ B
  | .num n, p, hp, hn, r, hr => by
    simp only [Ex.pre, List.mem_singleton] at hr
    rw [hr]
    exact hp
  | .nd k os, p, hp, hn, r, hr => by
    simp only [Ex.pre, List.mem_cons] at hr
    simp only [Ex.nodes] at hn
    rcases hr with rfl | hr
    · exact hp
    · exact pres_ix B os p 0 hp (by have := nodess_len os; omega) (by omega) r hr
theorem pres_ix (B : Nat) : ∀ (os : List Ex) (p : List Nat) (j : Nat), (∀ x ∈ p, x ≤ B) → j + os.length ≤ B → Ex.nodess os ≤ B → ∀ r ∈ Ex.pres os p j, ∀ x ∈ r.1, x ≤ B
  | [], p, j, hp, hj, hn, r, hr => by simp [Ex.pres] at hr
  | e :: t, p, j, hp, hj, hn, r, hr => by
    simp only [Ex.pres] at hr
    simp only [Ex.nodess] at hn
    simp only [List.length_cons] at hj
    rcases List.mem_append.mp hr with hr | hr
    · refine pre_ix B e (p ++ [j]) (fun x hx => ?_) (by omega) r hr
      rcases List.mem_append.mp hx with hx | hx
      · exact hp x hx
      · rw [List.mem_singleton.mp hx]; omega
    · exact pres_ix B t p (j + 1) hp (by omega) (by omega) r hr
end
abbrev sValues : Stmt := top 76
def spValues (K : PySem.W.Frag) : Sp := fun vs H Q _ => ∃ (a l : Addr) (n : Nat) (e : Ex) (rows : List V), vs = [.ref a, .ref l] ∧ BagAt H a n ∧ n < 900000 ∧ l ≠ a ∧ H l = some (.lst rows) ∧ Paired (RowN H) rows (e.pre []) ∧ e.nodes ≤ 900 ∧ e.depth ≤ 30 ∧
  ∀ (L : Addr) (us : List V) (ds : List PyData) (H' : Hp), L ≠ a → H' L = some (.lst us) → DpAll K H' us ds → (∀ d ∈ ds, Val d) → ds.length ≤ 60 → BagAt H' a (n + 6) → Kq [a] H H' → Q (.ref L) H'
def teOdd (K : PySem.W.Frag) : TE := fun σ H Q => ∃ b : Addr, (∃ o, H b = some o) ∧ ∀ p xs H', H' p = some (.lst xs) → H p = none → DpAll K (hid b H') xs odd4 → Same H H' → Q (.ref p) H'
def teMore (K : PySem.W.Frag) : TE := fun σ H Q => ∃ (b : Addr) (v : V) (p : List Nat), (∃ o, H b = some o) ∧ σ[4]? = some (some v) ∧ PathAt (hid b H) v p ∧ p.length ≤ 100 ∧ ∀ q xs H', H' q = some (.lst xs) → H q = none → DpAll K (hid b H') xs (ofPath p) → Same H H' → Q (.ref q) H'
section
variable {P : Program} {w : World} {K : PySem.W.Frag} {mg : Str → Option Value} {base : Heap}
theorem scValues : FnScope ["_law_bag_here", "_law_table", "_law_some_here", "_law_turn", "_law_path"] ["_law_bag_here", "_law_table"] (defScope sValues) := ⟨rfl, rfl, rfl, by decide +kernel, rfl, by decide +kernel, by decide +kernel⟩
theorem ok_values {f ft : Addr} {fd fdt : FuncData} (F : Fun K "_law_values" "_law_values" sValues f fd) (mr : mg "range" = none) (ml : mg "len" = none) (mli : mg "list" = none)
    (GT : FnOk P w K mg base CX0 1 ft fdt ["_law_bag_here", "_law_many"] spTake) (kT : PySem.W.keepIn K (.ref ft) = true) (bT : Binds K fdt ["_law_bag_here", "_law_many"] []) (mT : mg "_law_take" = some (.ref ft)) :
    FnOk P w K mg base CX0 2 f fd ["_law_bag_here", "_law_table"] (spValues K) := by
  refine F.ok scValues (fun vs H Q E h => ?_) (fun cdv A outer s H vs Q E hr h => ?_)
  · obtain ⟨a, l, n, e, rows, rfl, _⟩ := h
    rfl
  obtain ⟨a, l, n, e, rows, rfl, hB, hn, nla, el, pr, hno, hdp, q⟩ := h
  refine ⟨_, (pss_cons (ps_set (i := 2) scValues.nd rfl (.inl rfl) (pe_as (t' := teOdd K) (pe_lst (pa_cons pe_non (pa_cons pe_bl (pa_cons pe_int (pa_cons pe_str (pa_cons pe_str (pa_cons (pe_lst pa_nil) (pa_cons (pe_lst (pa_cons pe_int pa_nil)) (pa_cons (pe_tup pa_nil) (pa_cons (pe_tup (pa_cons (pe_un un_neg pe_int) pa_nil)) (pa_cons (pe_tup (pa_cons pe_bl pa_nil)) (pa_cons (pe_tup (pa_cons pe_bl pa_nil)) (pa_cons (pe_tup (pa_cons pe_str pa_nil)) (pa_cons (pe_tup (pa_cons pe_non pa_nil)) (pa_cons (pe_tup (pa_cons (pe_tup pa_nil) pa_nil)) (pa_cons (pe_tup (pa_cons pe_int (pa_cons (pe_op op_pow pe_int pe_int) pa_nil))) pa_nil)))))))))))))))) ?c1))
    (pss_cons (ps_for PassesOwn.never rfl (pi_range1 (by rfl) mr (pa_cons pe_int pa_nil)) (pg_name (i := 3) scValues.nd rfl (Or.inl rfl)) (pss_cons (ps_set (i := 4) scValues.nd rfl (.inl rfl) (pe_ix ix_tup (pe_ix ix_list (pv 1) (pe_call GT hr rfl mT kT bT .nil pass0 (pa_cons (pv 0) (pa_cons (pe_callB call_len_seq (by rfl) ml PySem.boot_len (pa_cons (pv 1) pa_nil)) pa_nil))) (fun _ _ => rfl)) pe_int (fun _ _ => rfl)))
    (pss_one (ps_set (i := 2) scValues.nd rfl (.inl rfl) (pe_op op_cat (pv 2) (pe_as (t' := teMore K) (pe_lst (pa_cons (pv 4) (pa_cons (pe_op op_catA (pv 4) (pe_tup (pa_cons pe_int pa_nil))) (pa_cons (pe_op op_catA (pv 4) (pe_tup (pa_cons pe_int pa_nil))) (pa_cons (pe_op op_catA (pe_slice sl_tupA (pv 4) po_none (po_some (pe_un un_neg pe_int))) (pe_tup (pa_cons pe_bl pa_nil))) (pa_cons (pe_slice sl_tupA (pv 4) po_none (po_some (pe_un un_neg pe_int))) (pa_cons (pe_callTy call_list_of (by rfl) mli (by decide +kernel) (pa_cons (pv 4) pa_nil)) (pa_cons (pe_tup (pa_cons (pv 4) pa_nil)) pa_nil)))))))) ?c2))))))
    (pss_one (ps_ret (pv 2))))), ?_⟩
  case c1 =>
    rintro σ H Q ⟨b, hb, h⟩
    exact lst_T (K := K) (b := b) (H0 := H) hb (ds := odd4) (gv_cons gv_non (gv_cons (gv_bl _) (gv_cons (gv_int _) (gv_cons (gv_str _) (gv_cons (gv_str _) (gv_cons (gv_lst hb gv_nil (by decide)) (gv_cons (gv_lst hb (gv_cons (gv_int _) gv_nil) (by decide)) (gv_cons (gv_tup hb gv_nil (by decide)) (gv_cons (gv_tup hb (gv_cons (gv_neg 1) gv_nil) (by decide)) (gv_cons (gv_tup hb (gv_cons (gv_bl _) gv_nil) (by decide)) (gv_cons (gv_tup hb (gv_cons (gv_bl _) gv_nil) (by decide)) (gv_cons (gv_tup hb (gv_cons (gv_str _) gv_nil) (by decide)) (gv_cons (gv_tup hb (gv_cons gv_non gv_nil) (by decide)) (gv_cons (gv_tup hb (gv_cons (gv_tup hb gv_nil (by decide)) gv_nil) (by decide)) (gv_cons (gv_tup hb (gv_cons (gv_int _) (gv_cons gv_big gv_nil)) (by simp)) gv_nil))))))))))))))) (by decide) (Same.refl _) h
  case c2 =>
    rintro σ H Q ⟨b, v, p, hb, e4, hp, hl, h⟩
    have e : Gives K b H σ (tVar 4) (.tuple (dI p)) := gv_var e4 hp.dp
    have hl2 : (dI p).length ≤ 100 := by rw [dI_len]; exact hl
    have hl3 : ((dI p).take ((dI p).length - 1)).length ≤ 100 := Nat.le_trans (List.length_take_le' _ _) hl2
    exact lst_T (K := K) (b := b) (H0 := H) hb (ds := ofPath p) (gv_cons e (gv_cons (gv_cat hb e (gv_tup hb (gv_cons (gv_int _) gv_nil) (by decide)) (by rw [List.length_singleton]; omega)) (gv_cons (gv_cat hb e (gv_tup hb (gv_cons (gv_int _) gv_nil) (by decide)) (by rw [List.length_singleton]; omega))
      (gv_cons (gv_cat hb (gv_init hb e) (gv_tup hb (gv_cons (gv_bl _) gv_nil) (by decide)) (by rw [List.length_singleton]; omega)) (gv_cons (gv_init hb e) (gv_cons (gv_listOf hb e) (gv_cons (gv_tup hb (gv_cons e gv_nil) (by simp)) gv_nil))))))) (by simp [ofPath]) (Same.refl _) h
  have hba : ∃ o, H a = some o := by
    obtain ⟨_, _, _, z, _⟩ := hB
    exact ⟨_, z⟩
  refine ⟨a, hba, fun L xs H1 eL nL dL s1 => ?_⟩
  have nLa : L ≠ a := fun w => by
    obtain ⟨_, _, _, z, _⟩ := hB
    rw [w, z] at nL
    cases nL
  have hrl : rows.length = e.nodes := by rw [pr.length, pre_len]
  have hpos := nodes_pos e
  refine ⟨6, rfl, by decide, by decide, ?_⟩
  refine for_range (lo := 0) (n := 6) (fun i σ H' => ∃ (M : Addr) (us : List V) (ds : List PyData) (x3 x4 : Option V), σ = [some (.ref a), some (.ref l), some (.ref M), x3, x4] ∧ M ≠ a ∧ H' M = some (.lst us) ∧ DpAll K (hid a H') us ds ∧ (∀ d ∈ ds, Val d) ∧ ds.length ≤ 15 + 7 * i ∧ BagAt H' a (n + i) ∧ Kq [a] H H') ⟨L, xs, odd4, none, none, rfl, nLa, eL, dL, odd4_val, by decide, bag_ext hB (same_extN s1), fun b o _ z => s1 b o z⟩ ?_ ?_
  · rintro i σ H2 hi ⟨M, us, ds, x3, x4, rfl, nM, eM, dM, vM, lM, hB2, k2⟩
    have el2 := k2 _ _ (by simp [nla]) el
    have pr2 := L2.Paired.mapP pr fun u r z => z.keep (fun q xs z => k2.tup hB.mut.notup z)
    refine ⟨_, rfl, _, rfl, _, rfl, l, rows, rfl, .inl (SqL.of el2), a, _, _, rfl, hB2, by omega, by omega, by omega, fun r H3 r0 r1 hB3 kp3 => ?_⟩
    have hrn : r.toNat < (e.pre []).length := by rw [pre_len]; omega
    have k3 : Kq [a] H H3 := k2.trans kp3.kq
    have el3 := k3 _ _ (by simp [nla]) el
    have pr3 := L2.Paired.mapP pr fun u r z => z.keep (fun q xs z => k3.tup hB.mut.notup z)
    obtain ⟨x, hx, rx⟩ := paired_get pr3 (List.getElem?_eq_getElem (show r.toNat < rows.length by omega))
    obtain ⟨qd, vp, ve, eu, eq, hp, ie⟩ := rx
    have hxm := List.mem_of_getElem? hx
    have hix : ∀ z ∈ x.1, z ≤ 1000 := fun z hz => Nat.le_trans (pre_ix 900 e [] (by simp) (by omega) x hxm z hz) (by decide)
    have hsh := pre_short e [] x hxm
    rw [List.length_nil] at hsh
    refine ⟨l, rows, r, _, rfl, rfl, SqL.of el3, at_of (j := r.toNat) (by omega) (List.getElem?_eq_getElem (show r.toNat < rows.length by omega)), ?_⟩
    refine ⟨qd, _, _, _, eu, rfl, SqT.of eq, at0 _ _, ?_⟩
    have hp' : PathAt (hid a H3) vp x.1 := by
      obtain ⟨pq, e1, e2⟩ := hp
      have e2 : H3 pq = some (.tup (pv_ x.1)) := e2
      refine ⟨pq, e1, ?_⟩
      rw [hid_ne (fun w => by
        obtain ⟨_, _, _, z, _⟩ := hB3
        rw [w, z] at e2
        cases e2)]
      exact e2
    have hba3 : ∃ o, H3 a = some o := by
      obtain ⟨_, _, _, z, _⟩ := hB3
      exact ⟨_, z⟩
    refine ⟨_, rfl, a, vp, x.1, hba3, rfl, hp', by omega, fun q2 ys H4 eq4 nq dq s4 => ?_⟩
    have eM3 := kp3 _ _ nM eM
    have eM4 := s4 _ _ eM3
    have dM4 := dpAll_ext (hid_kp (kp3.trans fun b o _ z => s4 b o z)) dM
    have hul := dpAll_len dM4
    have hyl := dpAll_len dq
    have h7 : (ofPath x.1).length = 7 := rfl
    refine ⟨M, q2, us, ys, rfl, rfl, eM4, eq4, sz (by omega), fun z nz => ?_⟩
    have s5 := same_up (o := .lst (us ++ ys)) nz
    have hb4 := bag_ext hB3 (same_extN s4)
    have nza : z ≠ a := there_ne (Same.refl H4) (by obtain ⟨_, _, _, w, _⟩ := hb4; exact ⟨_, w⟩) nz
    refine ⟨z, us ++ ys, ds ++ ofPath x.1, _, _, rfl, nza, upd_same, dpAll_ext (hid_same s5) (dpAll_cat dM4 dq), fun d hd => ?_, ?_, bag_ext hb4 (same_extN s5), fun b o n w => s5 _ _ (s4 _ _ (k3 b o n w))⟩
    · rcases List.mem_append.mp hd with hd | hd
      · exact vM d hd
      · exact ofPath_val hix (by omega) d hd
    · rw [List.length_append, h7]
      omega
  · rintro σ H2 ⟨M, us, ds, x3, x4, rfl, nM, eM, dM, vM, lM, hB2, k2⟩
    exact ⟨_, rfl, q M us ds H2 nM eM (dpAll_ext hid_sub dM) vM (by omega) hB2 k2⟩
end
end Oo
/-! a task when a list is changed beside it -/
namespace Oo
open PySem PySem.Spec L2 PyProof.Rows LamX StX ClX
theorem seqT_kq {K : PySem.W.Frag} {S : List Addr} {H H' : Hp} {a : Addr} {xs : List V} (h : SqT K H a xs) (q : Kq S H H') (m : Mut H S) : SqT K H' a xs := by
  rcases h with (h | ⟨o, h⟩) | h
  · exact .inl (.inl (q.tup m.notup h))
  · refine .inl (.inr ⟨o, q _ _ (fun z => ?_) h⟩)
    obtain ⟨ys, e⟩ := m _ z
    rw [e] at h
    cases h
  · exact .inr h
theorem TaskAt.kq {K : PySem.W.Frag} {CF CB CT CS CL : Addr} {S : List Addr} {H H' : Hp} {v : V} {fns : List Fn} {e : Ex} {mk : List (List Nat)} (h : TaskAt K CF CB CT CS CL H v fns e mk) (q : Kq S H H') (m : Mut H S) : TaskAt K CF CB CT CS CL H' v fns e mk := by
  obtain ⟨p, dx, fs, vb, ve, tp, tr, rp, rr, e1, h1, hf, h2, h3, h4, h5, h6, h7, hL⟩ := h
  have no : ∀ b o, H b = some o → (∀ ys, o ≠ .lst ys) → H' b = some o := fun b o z n => q b o (fun hb => by
    obtain ⟨ys, w⟩ := m b hb
    rw [w] at z
    exact n ys (Option.some.inj z).symm) z
  have kt : ∀ q xs, H q = some (.tup xs) → H' q = some (.tup xs) := fun q xs z => no _ _ z fun ys w => by cases w
  have ki : ∀ q C dx fs, H q = some (.ins C dx fs) → H' q = some (.ins C dx fs) := fun q C dx fs z => no _ _ z fun ys w => by cases w
  obtain ⟨vl, l1, l2⟩ := hL
  exact ⟨p, dx, fs, vb, ve, tp, tr, rp, rr, e1, ki _ _ _ _ h1, hf, h2.kq q m, h3.sit q m, seqT_kq h4 q m, L2.Paired.mapP h5 fun a b z => z.keep kt, kt _ _ h6, L2.Paired.mapP h7 fun a b z => z.keep kt, vl, l1, l2.keepN ⟨kt, fun q dx fs v _ z => ki _ _ _ _ z⟩ fun q dx fs v _ z => ki _ _ _ _ z⟩
end Oo
/-! the rows that a value is asked of; nodes and open nodes of an operator more -/
namespace Oo
open PySem PySem.Spec L2 PyProof.Rows LamX StX ClX
theorem pres_sub (p : List Nat) : ∀ (os : List Ex) (j i : Nat) (o : Ex), os[i]? = some o → ∀ r ∈ o.pre (p ++ [j + i]), r ∈ Ex.pres os p j
  | [], j, i, o, h => by cases h
  | e :: t, j, 0, o, h => fun r hr => by
    cases h
    simp only [Ex.pres]
    exact List.mem_append_left _ hr
  | e :: t, j, i + 1, o, h => fun r hr => by
    simp only [Ex.pres]
    refine List.mem_append_right _ (pres_sub p t (j + 1) i o h r ?_)
    rw [show j + 1 + i = j + (i + 1) by omega]
    exact hr
theorem at_pre : ∀ (q : List Nat) (e e' : Ex) (p : List Nat), e.at_ q = some e' → (p ++ q, e') ∈ e.pre p
  | [], e, e', p, h => by
    have h' : some e = some e' := h
    cases h'
    rw [Ex.pre_eq, List.append_nil]
    exact List.mem_cons_self
  | i :: q, e, e', p, h => by
    have h' : (e.ops[i]?).bind (fun x => x.at_ q) = some e' := h
    cases hz : e.ops[i]? with
    | none => rw [hz] at h'; cases h'
    | some o =>
      rw [hz] at h'
      have ih := at_pre q o e' (p ++ [i]) h'
      rw [Ex.pre_eq]
      refine List.mem_cons_of_mem _ (pres_sub p e.ops 0 i o hz _ ?_)
      rw [Nat.zero_add]
      have e1 : p ++ i :: q = p ++ [i] ++ q := by rw [List.append_assoc]; rfl
      rw [e1]
      exact ih
theorem pre_path {e : Ex} {x : List Nat × Ex} (h : x ∈ e.pre []) : e.at_ x.1 = some x.2 := by
  obtain ⟨q, h1, h2⟩ := pre_at e [] x h
  rw [List.nil_append] at h1
  rw [h1]
  exact h2
theorem pathLt_ne {a b : List Nat} (h : pathLt a b) : a ≠ b := fun w => by
  have := pairwise_nodup (ps := [a, b]) (by simpa using h)
  simp [w] at this
theorem filter_1 {α : Type} {p : α → Bool} {x : α} : ∀ {l : List α}, x ∈ l → p x = true → l.Pairwise (fun a b => p a = true → p b = true → False) → l.filter p = [x]
  | [], h, _, _ => absurd h (by simp)
  | y :: l, h, hp, pw => by
    rw [List.pairwise_cons] at pw
    rcases List.mem_cons.mp h with rfl | h
    · rw [List.filter_cons_of_pos hp]
      congr 1
      refine List.filter_eq_nil_iff.mpr fun z hz w => pw.1 z hz hp w
    · have hy : ¬ p y = true := fun w => pw.1 x h w hp
      rw [List.filter_cons_of_neg hy]
      exact filter_1 h hp pw.2
/-- the rows whose paths are shown as a value -/
def fits (e : Ex) (d : PyData) : List (List Nat × Ex) := (e.pre []).filter fun x => decide ((dP x.1).shown = d.shown)
theorem fits_some {e e' : Ex} {d : PyData} (t : Told d) (h : look e d = some e') : ∃ p, fits e d = [(p, e')] := by
  obtain ⟨p, rfl, hp⟩ := look_some h
  refine ⟨p, filter_1 (at_pre p e e' [] hp) (decide_eq_true rfl) ?_⟩
  refine (pre_asc e []).imp fun {a b} hab h1 h2 => ?_
  have e1 := told_path a.1 p (of_decide_eq_true h1).symm
  have e2 := told_path b.1 p (of_decide_eq_true h2).symm
  have inj : ∀ {x y : List Nat}, dP x = dP y → x = y := fun {x y} z => by
    unfold dP dI at z
    have z' := PyData.tuple.inj z
    exact (List.map_inj_right fun i j w => by have := PyData.int.inj w; omega).mp z'
  exact pathLt_ne hab ((inj e1).trans (inj e2).symm)
theorem fits_none {e : Ex} {d : PyData} (t : Told d) (h : look e d = none) : fits e d = [] := by
  refine List.filter_eq_nil_iff.mpr fun x hx w => ?_
  have e1 := t x.1 (of_decide_eq_true w)
  rw [e1, look_path, pre_path hx] at h
  cases h
/-! ### an operator more -/
def opnN : Ex → Nat
  | e => ((e.pre []).filter fun x => isOpenE x.2).length
mutual
theorem pre_opn : ∀ (e : Ex) (p q : List Nat), ((e.pre p).filter fun x => isOpenE x.2).length = ((e.pre q).filter fun x => isOpenE x.2).length
  | .num n, p, q => by simp [Ex.pre, List.filter_cons]; split <;> rfl
  | .nd k os, p, q => by
    have := pres_opn os p q 0
    simp only [Ex.pre, List.filter_cons]
    split
    · rw [List.length_cons, List.length_cons, this]
    · exact this
theorem pres_opn : ∀ (os : List Ex) (p q : List Nat) (j : Nat), ((Ex.pres os p j).filter fun x => isOpenE x.2).length = ((Ex.pres os q j).filter fun x => isOpenE x.2).length
  | [], p, q, j => by simp [Ex.pres]
  | e :: t, p, q, j => by
    simp only [Ex.pres, List.filter_append, List.length_append]
    rw [pre_opn e (p ++ [j]) (q ++ [j]), pres_opn t p q (j + 1)]
end
def more (e : Ex) : Ex := .nd (.op "+") [.num 1, e]
theorem more_opens (e : Ex) : ((more e).opens []).length = 1 + (e.opens []).length := by
  unfold Ex.opens more
  rw [List.length_map, List.length_map]
  have h1 := pre_opn e [1] []
  simp only [Ex.pre, Ex.pres, List.append_nil, List.nil_append, List.filter_cons, List.cons_append]
  have e1 : isOpenE (.nd (.op "+") [.num 1, e]) = true := rfl
  have e2 : isOpenE (.num 1) = false := rfl
  rw [if_pos e1, if_neg (by rw [e2]; decide), List.length_cons]
  rw [show (0 + 1) = 1 from rfl, h1]
  omega
theorem more_nodes (e : Ex) : (more e).nodes = 2 + e.nodes := by
  simp only [more, Ex.nodes, Ex.nodess]
  omega
theorem more_depth (e : Ex) (h : 1 ≤ e.depth) : (more e).depth = 1 + e.depth := by
  simp only [more, Ex.depth, Ex.depths]
  omega
theorem more_w {ps : List Str} {fns : List Fn} {e : Ex} (h : ExW ps fns e) : ExW ps fns (more e) := by
  unfold more ExW
  refine ⟨?_, ?_⟩
  · show ("+" : Str) ∈ signs
    simp [signs]
  · unfold ExWs
    refine ⟨by unfold ExW; omega, ?_⟩
    unfold ExWs
    exact ⟨h, by unfold ExWs; trivial⟩
/-! ### two lists of paths -/
structure TwoAt (H : Hp) (l : Addr) (P1 P2 : List (List Nat)) (d1 d2 : Addr) (r1 r2 : List V) : Prop where
  l : H l = some (.lst [.ref d1, .ref d2])
  e1 : H d1 = some (.lst r1)
  p1 : Paired (PathAt H) r1 P1
  e2 : H d2 = some (.lst r2)
  p2 : Paired (PathAt H) r2 P2
theorem TwoAt.keep {H H' : Hp} {l d1 d2 : Addr} {P1 P2 : List (List Nat)} {r1 r2 : List V} (h : TwoAt H l P1 P2 d1 d2 r1 r2) (s : Same H H') : TwoAt H' l P1 P2 d1 d2 r1 r2 :=
  ⟨s _ _ h.l, s _ _ h.e1, L2.Paired.mapP h.p1 fun a b z => z.keep (same_t s), s _ _ h.e2, L2.Paired.mapP h.p2 fun a b z => z.keep (same_t s)⟩
theorem paths_dp {K : PySem.W.Frag} {H : Hp} : ∀ {rows : List V} {ps : List (List Nat)}, Paired (PathAt H) rows ps → DpAll K H rows (ps.map dP)
  | _, _, .nil => .nil
  | _, _, .cons r t => .cons r.dp (paths_dp t)
def dTwo (P1 P2 : List (List Nat)) : PyData := .list [.list (P1.map dP), .list (P2.map dP)]
theorem TwoAt.dp {K : PySem.W.Frag} {H : Hp} {l d1 d2 : Addr} {P1 P2 : List (List Nat)} {r1 r2 : List V} (h : TwoAt H l P1 P2 d1 d2 r1 r2) : Dp K H (.ref l) (dTwo P1 P2) :=
  .lst (SqL.of h.l) (.cons (.lst (SqL.of h.e1) (paths_dp h.p1)) (.cons (.lst (SqL.of h.e2) (paths_dp h.p2)) .nil))
/-- paths that can be shown -/
def Okp (ps : List (List Nat)) : Prop := ps.length ≤ 400 ∧ ∀ p ∈ ps, (∀ x ∈ p, x ≤ 1000) ∧ p.length ≤ 40
theorem okp_neat {ps : List (List Nat)} (h : Okp ps) : NeatL (ps.map dP) 401000 2 := by
  refine (neatL_all (B := 1000) (D := 2) fun d hd => ?_).mono ?_ (Nat.le_refl _)
  · obtain ⟨p, hp, rfl⟩ := List.mem_map.mp hd
    exact (itm_path (h.2 p hp).1 (h.2 p hp).2).n
  · rw [List.length_map]
    have := Nat.mul_le_mul_left 1001 h.1
    omega
theorem two_fits {P1 P2 : List (List Nat)} (h1 : Okp P1) (h2 : Okp P2) : (dTwo P1 P2).showable = true ∧ (dTwo P1 P2).hasDict = false ∧ (dTwo P1 P2).depth ≤ 60 ∧ (dTwo P1 P2).shown.length ≤ sizeLine :=
  Neat.fits (B := 1000000) (D := 60) ((NeatL.cons (okp_neat h1).lst (NeatL.cons (okp_neat h2).lst .nil)).lst.mono (by omega) (by omega)) (by decide) (by decide)
theorem kid_le : ∀ {os : List Ex} {i : Nat} {o : Ex}, os[i]? = some o → o.nodes ≤ Ex.nodess os ∧ o.depth ≤ Ex.depths os
  | [], i, o, h => by cases h
  | e :: t, 0, o, h => by
    cases h
    simp only [Ex.nodess, Ex.depths]
    omega
  | e :: t, i + 1, o, h => by
    have := kid_le (os := t) (i := i) h
    simp only [Ex.nodess, Ex.depths]
    omega
theorem kids_w {ps : List Str} {fns : List Fn} : ∀ {os : List Ex} {i : Nat} {o : Ex}, ExWs ps fns os → os[i]? = some o → ExW ps fns o
  | [], i, o, _, h => by cases h
  | e :: t, 0, o, w, h => by
    cases h
    unfold ExWs at w
    exact w.1
  | e :: t, i + 1, o, w, h => by
    unfold ExWs at w
    exact kids_w (os := t) (i := i) w.2 h
theorem at_w {ps : List Str} {fns : List Fn} : ∀ (q : List Nat) (e e' : Ex), ExW ps fns e → e.at_ q = some e' → ExW ps fns e' ∧ e'.nodes ≤ e.nodes ∧ e'.depth ≤ e.depth
  | [], e, e', w, h => by
    have h' : some e = some e' := h
    cases h'
    exact ⟨w, Nat.le_refl _, Nat.le_refl _⟩
  | i :: q, e, e', w, h => by
    have h' : (e.ops[i]?).bind (fun x => x.at_ q) = some e' := h
    cases hz : e.ops[i]? with
    | none => rw [hz] at h'; cases h'
    | some o =>
      rw [hz] at h'
      cases e with
      | num n => cases hz
      | nd k os =>
        have hz' : os[i]? = some o := hz
        unfold ExW at w
        obtain ⟨w1, n1, d1⟩ := at_w q o e' (kids_w w.2 hz') h'
        obtain ⟨n2, d2⟩ := kid_le hz'
        simp only [Ex.nodes, Ex.depth]
        exact ⟨w1, by omega, by omega⟩
theorem node_fits {ps : List Str} {fns : List Fn} {e e' : Ex} {d : PyData} (kw : KitW ps fns) (w : ExW ps fns e) (hn : e.nodes ≤ 900) (hd : e.depth ≤ 20) (h : look e d = some e') :
    ((PyData.tuple [.str "node", dEx e']).showable = true ∧ (PyData.tuple [.str "node", dEx e']).hasDict = false ∧ (PyData.tuple [.str "node", dEx e']).depth ≤ 60 ∧ (PyData.tuple [.str "node", dEx e']).shown.length ≤ sizeLine) ∧ SeqAt.shaped (.list [dEx e']) = true := by
  obtain ⟨p, rfl, hp⟩ := look_some h
  obtain ⟨w1, n1, d1⟩ := at_w p e e' w hp
  have hx := (ex_neat kw e' w1).mono (C := 90000) (E := 45) (by omega) (by omega)
  have hs : Neat (.str "node") 8 45 := neat_lit (by decide +kernel) (by decide)
  refine ⟨Neat.fits (B := 1000000) (D := 60) ((NeatL.cons hs (.cons hx .nil)).tup.mono (by omega) (by omega)) (by decide) (by decide), ?_⟩
  have hl := (NeatL.cons hx .nil).lst
  have hdl := hl.d
  unfold SeqAt.shaped
  rw [hl.n.lay, decide_eq_true (by omega)]
  rfl
theorem error_fits {d : PyData} (h : Val d) : (PyData.tuple [.str "error", d]).showable = true ∧ (PyData.tuple [.str "error", d]).hasDict = false ∧ (PyData.tuple [.str "error", d]).depth ≤ 60 ∧ (PyData.tuple [.str "error", d]).shown.length ≤ sizeLine := by
  have hd := h.er.dep
  refine ⟨?_, ?_, ?_, ?_⟩
  · simp only [PyData.showable, PyData.showableAll, h.er.shw, Bool.and_self]
  · simp only [PyData.hasDict, PyData.hasDictAll, h.er.nod, Bool.or_self]
  · simp only [PyData.depth, PyData.depthAll]
    omega
  · have := tup_len (B := 100000) (ds := [.str "error", d]) fun x hx => by
      simp only [List.mem_cons, List.not_mem_nil, or_false] at hx
      rcases hx with rfl | rfl
      · decide +kernel
      · exact h.er.len
    rw [sizeLine_eq]
    simp only [List.length_cons, List.length_nil] at this
    omega
end Oo
/-! the law of nodes and paths -/
namespace Oo
open PySem PySem.Spec L2 PyProof.Rows LamX StX ClX
abbrev sLaw : Stmt := top 77
/-- repr of any data -/
def rReprA (K : PySem.W.Frag) : List V → Hp → VK → Prop := fun xs H Q => ∃ (v : V) (d : PyData), xs = [v] ∧ Dp K H v d ∧ d.showable = true ∧ d.hasDict = false ∧ d.depth ≤ 60 ∧ d.shown.length ≤ sizeLine ∧ Q (.str d.shown) H
theorem call_reprA {X : Cx} (hg : X.A.guards = some []) (hu : X.A.units + 64 < cLine) : CallR X (.builtin "repr") (rReprA X.K) := by
  intro pins s σ H xs us Q I r h
  obtain ⟨v, d, rfl, hd, hs, hn, hdp, hz, q⟩ := h
  obtain ⟨u, rfl, r1⟩ := vals1 r
  have far : ∀ (G : Heap) (tk : Nat) (t : Tok), (∀ b o, s.heap.get? b = some o → G.get? b = some o) → EP X pins σ Q (.str d.shown t) { s with heap := G, toks := tk } := fun G tk t k => ⟨.str d.shown, H, I.kept (t' := tk) k, ⟨_, rfl⟩, q⟩
  have last := fun tk t => far s.heap tk t fun _ _ z => z
  cases hd with
  | non =>
    obtain rfl : u = Value.none := r1
    exact PySem.P.repr_of_none (last _ _)
  | bl b =>
    obtain rfl : u = Value.bool b := r1
    refine PySem.P.repr_of_bool ?_
    have := last (s.toks + 1) s.toks
    cases b <;> exact this
  | int i =>
    obtain ⟨t, rfl⟩ := r1
    exact PySem.P.repr_of_int (by simpa [PyData.showable] using hs) (last _ _)
  | str z =>
    obtain ⟨t, rfl⟩ := r1
    exact PySem.P.repr_of_str (last _ _) hz
  | lst hq ha =>
    obtain rfl : u = Value.ref _ := r1
    obtain ⟨as, rd⟩ := Dp.reads I _ _ _ (.lst hq ha) rfl
    exact repr_of_reads' rd hs (PyData.noDict_hsm hn) hg (by omega) (fun _ _ z => z) (fun G u tk hk => far G tk u hk) hz
  | tup hq ha =>
    obtain rfl : u = Value.ref _ := r1
    obtain ⟨as, rd⟩ := Dp.reads I _ _ _ (.tup hq ha) rfl
    exact repr_of_reads' rd hs (PyData.noDict_hsm hn) hg (by omega) (fun _ _ z => z) (fun G u tk hk => far G tk u hk) hz
def ttNm (K : PySem.W.Frag) : TT := fun σ H Q => ∃ (vp : V) (p : List Nat) (tm : Addr) (mrows : List V) (mk : List (List Nat)), σ[16]? = some (some vp) ∧ σ[6]? = some (some (.ref tm)) ∧ PathAt H vp p ∧ SqT K H tm mrows ∧ Paired (PathAt H) mrows mk ∧ Q (!decide (p ∈ mk)) H
def ttRep (K : PySem.W.Frag) : TT := fun σ H Q => ∃ (vp vv : V) (p : List Nat) (d : PyData), σ[16]? = some (some vp) ∧ σ[13]? = some (some vv) ∧ PathAt H vp p ∧ Dp K H vv d ∧ Itm (dP p) ∧ Val d ∧ Q (decide ((dP p).shown = d.shown)) H
def spLaw (K : PySem.W.Frag) (T : List (Addr × Str)) : Sp := fun vs H Q _ => ∃ (a : Addr) (ns : List Int), vs = [.ref a] ∧ SqL K H a (ns.map V.int) ∧ ns.length ≤ 63 ∧ Tabs T H ∧ ∀ H', Q (.bl true) H'
theorem bn_tinit {K : PySem.W.Frag} {f tp : Addr} {fd : FuncData} (D : FunD K "__init__" "Task.__init__" (defArgs sTInit) (defBody sTInit) (defScope sTInit) [] [("points", .ref tp)] f fd) : ∃ ds, Vals [V.ref tp] ds ∧ Binds K fd ["self", "book", "expression", "points"] ds :=
  D.binds0 3 (by simp) rfl fun D doc pm an cdv ct us ks l1 l2 => match us, l1, ks, l2 with | [_, _, _], _, [_], _ => ⟨_, _, _, _, _, _, rfl, rfl, rfl⟩
/-- whether a value can be shown -/
theorem Val.fits {d : PyData} (h : Val d) : d.showable = true ∧ d.hasDict = false ∧ d.depth ≤ 60 ∧ d.shown.length ≤ sizeLine :=
  ⟨h.er.shw, h.er.nod, by have := h.er.dep; omega, by rw [sizeLine_eq]; have := h.er.len; omega⟩
theorem Itm.fits {d : PyData} (h : Itm d) : d.showable = true ∧ d.hasDict = false ∧ d.depth ≤ 60 ∧ d.shown.length ≤ sizeLine := h.n.fits (by decide) (by decide)
theorem TaskAt.five {K : PySem.W.Frag} {CF CB CT CS CL x : Addr} {H : Hp} {fns : List Fn} {e : Ex} {mk : List (List Nat)} (h : TaskAt K CF CB CT CS CL H (.ref x) fns e mk) : ∃ dx fs vb, H x = some (.ins CT dx fs) ∧ fs.lookup ("open_nodes" : Str) = none ∧ fs.lookup ("nodes" : Str) = none ∧ fs.lookup ("book" : Str) = some vb ∧ BookAt CF CB H vb fns := by
  obtain ⟨p, dx, fs, vb, ve, tp, tr, rp, rr, e1, h1, hf, h2, _⟩ := h
  cases e1
  exact ⟨dx, fs, vb, h1, hf.n1, hf.n3, hf.b, h2⟩
def dTold (P1 : List (List Nat)) : PyData := .list [.list (P1.map dP ++ [.none]), .list []]
theorem told_fits {P1 : List (List Nat)} (h1 : Okp P1) : (dTold P1).showable = true ∧ (dTold P1).hasDict = false ∧ (dTold P1).depth ≤ 60 ∧ (dTold P1).shown.length ≤ sizeLine := by
  have hn : NeatL [PyData.none] 10 2 := ⟨.cons nice_non .nil, by simp [PyData.weightAll, PyData.weight], by simp [PyData.depthAll, PyData.depth]⟩
  exact Neat.fits (B := 1000000) (D := 60) ((NeatL.cons (NeatL.app hn (okp_neat h1)).lst (NeatL.cons (NeatL.nil (D := 2)).lst .nil)).lst.mono (by omega) (by omega)) (by decide) (by decide)
section
variable {P : Program} {w : World} {K : PySem.W.Frag} {mg : Str → Option Value} {base : Heap} {X : Cx}
theorem scLaw : FnScope ["_law_script", "_law_at", "_law_bag_here", "_law_turn", "_law_kit_here", "_law_expr_here", "_law_marks", "_law_task", "_law_table", "_law_due", "_law_told", "_law_kept", "_law_other", "_law_value", "_law_fits", "_law_wanted", "_law_path", "_law_node"] ["_law_script"] (defScope sLaw) := ⟨rfl, rfl, rfl, by decide +kernel, rfl, by decide +kernel, by decide +kernel⟩
theorem ok_law {T : List (Addr × Str)} {CF CB CT CS CL tp f fBg fK fR fT fP fLB fNo fOp fV fAs fTa fNs fO : Addr} {fd fdBg fdK fdR fdT fdP fdLB fdNo fdOp fdV fdAs fdTa fdNs fdO : FuncData} {mc : Value} {ds0 : List Value} (F : Fun K "law" "law" sLaw f fd) (TT : TxT K CT mc)
    (mr : mg "range" = none) (mx : mg "max" = none) (mn : mg "min" = none) (ml : mg "len" = none) (mre : mg "repr" = none)
    (GBg : FnOk P w K mg base CX0 1 fBg fdBg ["_law_script", "_law_at"] (spBag K)) (kBg : PySem.W.keepIn K (.ref fBg) = true) (bBg : Binds K fdBg ["_law_script", "_law_at"] []) (mBg : mg "_law_bag" = some (.ref fBg))
    (GT : FnOk P w K mg base CX0 1 fT fdT ["_law_bag_here", "_law_many"] spTake) (kT : PySem.W.keepIn K (.ref fT) = true) (bT : Binds K fdT ["_law_bag_here", "_law_many"] []) (mT : mg "_law_take" = some (.ref fT))
    (GK : FnOk P w K mg base CX0 3 fK fdK ["_law_bag_here", "_law_guards"] spKit) (kK : PySem.W.keepIn K (.ref fK) = true) (bK : Binds K fdK ["_law_bag_here", "_law_guards"] []) (mK : mg "_law_kit" = some (.ref fK))
    (GR : FnOk P w K mg base CX0 14 fR fdR ["_law_bag_here", "_law_kit_here", "_law_most"] spRoot) (kR : PySem.W.keepIn K (.ref fR) = true) (bR : Binds K fdR ["_law_bag_here", "_law_kit_here", "_law_most"] []) (mR : mg "_law_root" = some (.ref fR))
    (GP : FnOk P w K mg base CX0 83 fP fdP ["_law_bag_here", "_law_expr_here"] spPoints) (kP : PySem.W.keepIn K (.ref fP) = true) (bP : Binds K fdP ["_law_bag_here", "_law_expr_here"] []) (mP : mg "_law_points" = some (.ref fP))
    (GOp : FnOk P w K mg base CX0 82 fOp fdOp ["_law_expr_here"] spOpen) (kOp : PySem.W.keepIn K (.ref fOp) = true) (bOp : Binds K fdOp ["_law_expr_here"] []) (mOp : mg "_law_open" = some (.ref fOp))
    (GLB : FnOk P w K mg base CX0 8 fLB fdLB ["_law_functions"] (spLBook K T CF CB)) (kLB : PySem.W.keepIn K (.ref fLB) = true) (bLB : Binds K fdLB ["_law_functions"] []) (mLB : mg "_law_book" = some (.ref fLB))
    (GNo : FnOk P w K mg base CX0 8 fNo fdNo ["_law_node", "_law_path"] (spNodes 7)) (kNo : PySem.W.keepIn K (.ref fNo) = true) (bNo : Binds K fdNo ["_law_node", "_law_path"] []) (mNo : mg "_law_nodes" = some (.ref fNo))
    (GV : FnOk P w K mg base CX0 2 fV fdV ["_law_bag_here", "_law_table"] (spValues K)) (kV : PySem.W.keepIn K (.ref fV) = true) (bV : Binds K fdV ["_law_bag_here", "_law_table"] []) (mV : mg "_law_values" = some (.ref fV))
    (GAs : FnQ P w K mg base CX0 12 fAs fdAs ["_law_task", "_law_value"] (spAsked4 K CF CB CT CS CL 4)) (kAs : PySem.W.keepIn K (.ref fAs) = true) (bAs : Binds K fdAs ["_law_task", "_law_value"] []) (mAs : mg "_law_asked" = some (.ref fAs))
    (MTa : Mk K CT fTa) (mTa : mg "Task" = some (.ref CT)) (GTa : FnOk P w K mg base CX0 36 fTa fdTa ["self", "book", "expression", "points"] (spTInit K CF CB CT CS CL)) (bTa : KBn K fdTa ["self", "book", "expression", "points"] 3 ["points"] (fun us ws => us ++ ws) (fun vs zs => vs ++ zs)) (b0 : Binds K fdTa ["self", "book", "expression", "points"] ds0) (r0 : Vals [V.ref tp] ds0) (e0 : ∀ H, SqT K H tp [])
    (MNs : Meth K CT "nodes" fNs) (GNs : FnOk P w K mg base CX0 1 fNs fdNs ["self"] (spTNodes K CF CB CT CS CL)) (bNs : Binds K fdNs ["self"] [])
    (MO : Meth K CT "open_nodes" fO) (GO : FnOk P w K mg base CX0 3 fO fdO ["self"] (spTOpen K CF CB CT CS CL)) (bO : Binds K fdO ["self"] []) :
    FnG P w K mg base 84 f fd ["_law_script"] (spLaw K T) := by
  refine ok_quiet F scLaw (fun vs H Q E h => ?_) (fun cdv A outer s H vs Q E quiet hr h => ?_)
  · obtain ⟨a, ns, rfl, _⟩ := h
    rfl
  obtain ⟨a, ns, rfl, hS, hl, hT, q⟩ := h
  have hr1 : Room 1 _ := hr.mono (by decide)
  have hr2 : Room 2 _ := hr.mono (by decide)
  have hr3 : Room 3 _ := hr.mono (by decide)
  have hr8 : Room 8 _ := hr.mono (by decide)
  have hr12 : Room 12 _ := hr.mono (by decide)
  have hr14 : Room 14 _ := hr.mono (by decide)
  have hr37 : Room 37 _ := hr.mono (by decide)
  have hr82 : Room 82 _ := hr.mono (by decide)
  have hr83 : Room 83 _ := hr.mono (by decide)
  have hu := hu_of hr
  refine ⟨_, (pss_cons (ps_for PassesOwn.never rfl (pi_range1 (by rfl) mr (pa_cons (pe_callB (call_max2 rfl) (by rfl) mx PyProof.Rows.boot_max (pa_cons pe_int (pa_cons (pe_callB (call_min2 rfl) (by rfl) mn PyProof.Rows.boot_min (pa_cons pe_int (pa_cons (pe_callB call_len_seq (by rfl) ml PySem.boot_len (pa_cons (pv 0) pa_nil)) pa_nil))) pa_nil))) pa_nil)) (pg_name (i := 1) scLaw.nd rfl (Or.inl rfl)) (pss_cons (ps_set (i := 2) scLaw.nd rfl (.inl rfl) (pe_call GBg hr1 rfl mBg kBg bBg .nil pass0 (pa_cons (pv 0) (pa_cons (pv 1) pa_nil))))
    (pss_one (ps_for PassesOwn.never rfl (pi_range1 (by rfl) mr (pa_cons pe_int pa_nil)) (pg_name (i := 3) scLaw.nd rfl (Or.inl rfl)) (pss_cons (ps_set (i := 4) scLaw.nd rfl (.inl rfl) (pe_call GK hr3 rfl mK kK bK .nil pass0 (pa_cons (pv 2) (pa_cons pe_bl pa_nil))))
    (pss_cons (ps_set (i := 5) scLaw.nd rfl (.inl rfl) (pe_call GR hr14 rfl mR kR bR .nil pass0 (pa_cons (pv 2) (pa_cons (pv 4) (pa_cons (pe_call GT hr1 rfl mT kT bT .nil pass0 (pa_cons (pv 2) (pa_cons pe_int pa_nil))) pa_nil)))))
    (pss_cons (ps_set (i := 6) scLaw.nd rfl (.inr rfl) (pe_call GP hr83 rfl mP kP bP .nil pass0 (pa_cons (pv 2) (pa_cons (pv 5) pa_nil))))
    (pss_cons (ps_par (i := 7) (j := 8) (by rfl) scLaw.nd rfl rfl (by decide) rfl rfl (pa_cons (pe_makeK MTa GTa hr37 rfl mTa bTa pass0 (pa_cons (pe_call GLB hr8 rfl mLB kLB bLB .nil pass0 (pa_cons (pe_dget hu (pv 4) pe_str (fun _ _ => rfl)) pa_nil)) (pa_cons (pv 5) pa_nil)) (pk_cons (pv 6) pk_nil)) (pa_cons (pe_call GNo hr8 rfl mNo kNo bNo .nil pass0 (pa_cons (pv 5) (pa_cons (pe_tup pa_nil) pa_nil))) pa_nil)) (by rfl))
    (pss_cons (ps_set (i := 9) scLaw.nd rfl (.inl rfl) (pe_lst (pa_cons (pe_lc (own := [("_law_path", 16), ("_law_node", 17)]) (g := gTup K 2 (gCons (gName 16) (gCons (gName 17) gNil))) (tt := tYes) (by rfl) scLaw.nd (pi_list (pv 8)) (blkOk_by (own := [("_law_path", 16), ("_law_node", 17)]) (N := ["_law_script", "_law_at", "_law_bag_here", "_law_turn", "_law_kit_here", "_law_expr_here", "_law_marks", "_law_task", "_law_table", "_law_due", "_law_told", "_law_kept", "_law_other", "_law_value", "_law_fits", "_law_wanted", "_law_path", "_law_node"]) (sc := defScope sLaw) (by decide +kernel)) (fun _ _ _ _ _ => (pg_tup rfl (pgs_cons (pg_name (i := 16) scLaw.nd rfl (Or.inl rfl)) (pgs_cons (pg_name (i := 17) scLaw.nd rfl (Or.inl rfl)) pgs_nil)))) (fun _ _ _ _ _ => pts_nil) (fun _ _ _ _ _ => (pv 16))) (pa_cons (pe_lc (own := [("_law_path", 16)]) (g := gName 16) (by rfl) scLaw.nd (pi_list (pe_call GOp hr82 rfl mOp kOp bOp .nil pass0 (pa_cons (pv 5) pa_nil))) (blkOk_by (own := [("_law_path", 16)]) (N := ["_law_script", "_law_at", "_law_bag_here", "_law_turn", "_law_kit_here", "_law_expr_here", "_law_marks", "_law_task", "_law_table", "_law_due", "_law_told", "_law_kept", "_law_other", "_law_value", "_law_fits", "_law_wanted", "_law_path", "_law_node"]) (sc := defScope sLaw) (by decide +kernel)) (fun _ _ _ _ _ => (pg_name (i := 16) scLaw.nd rfl (Or.inl rfl))) (fun _ _ _ _ _ => (pts_one (pt_as (t' := ttNm K) (pt_cmpR (op_notInP hr.units) (pv 16) (pv 6) (by rfl)) ?c1))) (fun _ _ _ _ _ => (pv 16))) pa_nil))))
    (pss_cons (ps_set (i := 10) scLaw.nd rfl (.inl rfl) (pe_lst (pa_cons (pe_meth0 (pv 7) TT.cl MNs GNs hr1 bNs .nil pass0) (pa_cons (pe_meth0 (pv 7) TT.cl MO GO hr3 bO .nil pass0) pa_nil))))
    (pss_cons (ps_if (pt_cmpR op_ne (pe_callB (call_repr_quiet quiet hr.units) (by rfl) mre (by decide +kernel) (pa_cons (pv 10) pa_nil)) (pe_callB (call_repr_quiet quiet hr.units) (by rfl) mre (by decide +kernel) (pa_cons (pv 9) pa_nil)) (nomark _)) (pss_one (ps_ret pe_bl)) pss_nil)
    (pss_cons (ps_expr (pe_bm PySem.F.plainAttrs_list PySem.F.slot_list_append PySem.F.type_list_append mt_append (pe_ix ix_list (pv 10) pe_int (fun _ _ => rfl)) (pa_cons pe_non pa_nil)))
    (pss_cons (ps_expr (pe_bm0 PySem.F.plainAttrs_list PySem.F.slot_list_clear PySem.F.type_list_clear mt_clear (pe_ix ix_list (pv 10) pe_int (fun _ _ => rfl))))
    (pss_cons (ps_par (i := 11) (j := 12) (by rfl) scLaw.nd rfl rfl (by decide) rfl rfl (pa_cons (pe_callB (call_repr_quiet quiet hr.units) (by rfl) mre (by decide +kernel) (pa_cons (pv 10) pa_nil)) (pa_cons (pe_make MTa GTa hr37 rfl mTa b0 r0 pass0 (pa_cons (pe_fld (pv 7) rfl) (pa_cons (pe_tup (pa_cons pe_str (pa_cons pe_str (pa_cons pe_int (pa_cons (pv 5) pa_nil))))) pa_nil))) pa_nil)) (by rfl))
    (pss_cons (ps_if (PW.pt (pw_or (pt_cmpR op_ne (pe_callB (call_repr_quiet quiet hr.units) (by rfl) mre (by decide +kernel) (pa_cons (pe_lst (pa_cons (pe_meth0 (pv 7) TT.cl MNs GNs hr1 bNs .nil pass0) (pa_cons (pe_meth0 (pv 7) TT.cl MO GO hr3 bO .nil pass0) pa_nil))) pa_nil)) (pe_callB (call_repr_quiet quiet hr.units) (by rfl) mre (by decide +kernel) (pa_cons (pv 9) pa_nil)) (nomark _)) (pw_or1 (pt_cmpR op_ne (pe_callB call_len_seq (by rfl) ml PySem.boot_len (pa_cons (pe_meth0 (pv 12) TT.cl MNs GNs hr1 bNs .nil pass0) pa_nil)) (pe_op op_add pe_int (pe_callB call_len_seq (by rfl) ml PySem.boot_len (pa_cons (pe_ix ix_list (pv 9) pe_int (fun _ _ => rfl)) pa_nil))) (nomark _))))) (pss_one (ps_ret pe_bl)) pss_nil)
    (pss_cons (ps_if (PW.pt (pw_or (pt_cmpR op_ne (pe_callB call_len_seq (by rfl) ml PySem.boot_len (pa_cons (pe_meth0 (pv 12) TT.cl MO GO hr3 bO .nil pass0) pa_nil)) (pe_op op_add pe_int (pe_callB call_len_seq (by rfl) ml PySem.boot_len (pa_cons (pe_call GOp hr82 rfl mOp kOp bOp .nil pass0 (pa_cons (pv 5) pa_nil)) pa_nil))) (nomark _)) (pw_or1 (pt_cmpR op_ne (pe_callB (call_repr_quiet quiet hr.units) (by rfl) mre (by decide +kernel) (pa_cons (pv 10) pa_nil)) (pv 11) (nomark _))))) (pss_one (ps_ret pe_bl)) pss_nil)
    (pss_one (ps_for PassesOwn.never rfl (pi_list (pe_call GV hr2 rfl mV kV bV .nil pass0 (pa_cons (pv 2) (pa_cons (pv 8) pa_nil)))) (pg_name (i := 13) scLaw.nd rfl (Or.inr rfl)) (pss_cons (ps_setLc (i := 14) (own := [("_law_path", 16), ("_law_node", 17)]) (g := gTup K 2 (gCons (gName 16) (gCons (gName 17) gNil))) (by rfl) scLaw.nd rfl rfl (sw_true rfl rfl rfl (by decide +kernel)) (pi_list (pv 8)) (blkOk_by (own := [("_law_path", 16), ("_law_node", 17)]) (N := ["_law_script", "_law_at", "_law_bag_here", "_law_turn", "_law_kit_here", "_law_expr_here", "_law_marks", "_law_task", "_law_table", "_law_due", "_law_told", "_law_kept", "_law_other", "_law_value", "_law_fits", "_law_wanted", "_law_path", "_law_node"]) (sc := defScope sLaw) (by decide +kernel)) (fun _ _ _ _ _ => (pg_tup rfl (pgs_cons (pg_name (i := 16) scLaw.nd rfl (Or.inl rfl)) (pgs_cons (pg_name (i := 17) scLaw.nd rfl (Or.inl rfl)) pgs_nil)))) (fun _ _ _ _ _ => (pts_one (pt_as (t' := ttRep K) (pt_cmpR op_eq (pe_callB (call_repr_quiet quiet hr.units) (by rfl) mre (by decide +kernel) (pa_cons (pv 16) pa_nil)) (pe_callB (call_reprA quiet hr.units) (by rfl) mre (by decide +kernel) (pa_cons (pv 13) pa_nil)) (nomark _)) ?c2))) (fun _ _ _ _ _ => (pv 17)))
    (pss_cons (ps_set (i := 15) scLaw.nd rfl (.inl rfl) (pe_ifExp (pt_cmpR (op_neD hr.units) (pv 14) (pe_lst pa_nil) (nomark _)) (pe_tup (pa_cons pe_str (pa_cons (pe_ix ix_list (pv 14) pe_int (fun _ _ => rfl)) pa_nil))) (pe_tup (pa_cons pe_str (pa_cons (pv 13) pa_nil)))))
    (pss_one (ps_if (pt_cmpR op_ne (pe_callB (call_repr_quiet quiet hr.units) (by rfl) mre (by decide +kernel) (pa_cons (pe_callQ quiet GAs hr12 rfl mAs kAs bAs .nil pass0 (pa_cons (pv 7) (pa_cons (pv 13) pa_nil))) pa_nil)) (pe_callB (call_repr_quiet quiet hr.units) (by rfl) mre (by decide +kernel) (pa_cons (pv 15) pa_nil)) (nomark _)) (pss_one (ps_ret pe_bl)) pss_nil))))))))))))))))))))))
    (pss_one (ps_ret pe_bl))), ?_⟩
  case c1 =>
    rintro σ H Q ⟨vp, p, tm, mrows, mk, e16, e6, hp, em, pm, q⟩
    refine ⟨_, e16, _, e6, p, tm, mrows, mk, hp, rfl, em, pm, _, rfl, q⟩
  case c2 =>
    rintro σ H Q ⟨vp, vv, p, d, e16, e13, hp, hd, hi, hv, q⟩
    obtain ⟨f1, f2, f3, f4⟩ := hi.fits
    obtain ⟨g1, g2, g3, g4⟩ := hv.fits
    obtain ⟨pq, rfl, ep⟩ := id hp
    refine ⟨_, e16, pq, dP p, rfl, hp.dp, f1, f2, f3, f4, _, e13, vv, d, rfl, hd, g1, g2, g3, g4, rfl, _, rfl, ?_⟩
    have e : decide (V.str (dP p).shown = V.str d.shown) = decide ((dP p).shown = d.shown) := by
      by_cases z : (dP p).shown = d.shown
      · rw [z]
        simp
      · rw [decide_eq_false z, decide_eq_false fun w => z (V.str.inj w)]
    rw [e]
    exact q
  have hlen : (ns.map V.int).length = ns.length := List.length_map _
  refine ⟨_, rfl, a, _, rfl, .inl hS, _, _, rfl, _, _, rfl, _, rfl, ?_, ?_, ?_⟩
  · split <;> split <;> omega
  · split <;> split <;> omega
  have hn5 : ∀ z : Int, z = (if (if ((ns.map V.int).length : Int) < 5 then ((ns.map V.int).length : Int) else 5) > 2 then (if ((ns.map V.int).length : Int) < 5 then ((ns.map V.int).length : Int) else 5) else 2) → z.toNat ≤ 5 := fun z e => by
    rw [e]
    split <;> split <;> omega
  have hn5' := hn5 _ rfl
  refine for_range (lo := 0) (fun i σ H' => ∃ x1 x2 x3 x4 x5 x6 x7 x8 x9 x10 x11 x12 x13 x14 x15 x16 x17, σ = [some (.ref a), x1, x2, x3, x4, x5, x6, x7, x8, x9, x10, x11, x12, x13, x14, x15, x16, x17] ∧ SqL K H' a (ns.map V.int) ∧ Tabs T H') ⟨none, none, none, none, none, none, none, none, none, none, none, none, none, none, none, none, none, rfl, hS, hT⟩ ?_ ?_
  · rintro i σ H0 hi ⟨x1, x2, x3, x4, x5, x6, x7, x8, x9, x10, x11, x12, x13, x14, x15, x16, x17, rfl, hS0, hT0⟩
    refine ⟨_, rfl, _, rfl, a, ns, _, rfl, hS0, hl, by omega, by omega, fun p H1 np s1 hB1 => ?_⟩
    have hSc := Scr.mk_ hS0 np s1
    have hT1 := Tabs.ext hT0 s1
    refine ⟨3, rfl, by decide, by decide, ?_⟩
    refine for_range (lo := 0) (n := 3) (fun j σ H' => ∃ x3 x4 x5 x6 x7 x8 x9 x10 x11 x12 x13 x14 x15 x16 x17, σ = [some (.ref a), some (.int (0 + (i : Int))), some (.ref p), x3, x4, x5, x6, x7, x8, x9, x10, x11, x12, x13, x14, x15, x16, x17] ∧ Scr K a (ns.map V.int) p H' ∧ Tabs T H' ∧ BagAt H' p (j * 2000)) ⟨_, _, _, _, _, _, _, _, _, _, _, _, _, _, _, rfl, hSc, hT1, hB1⟩ ?_ ?_
    · rintro j σ H2 hj ⟨x3, x4, x5, x6, x7, x8, x9, x10, x11, x12, x13, x14, x15, x16, x17, rfl, hSc2, hT2, hB2⟩
      -- kit, root
      refine ⟨_, rfl, p, true, _, rfl, hB2, by omega, fun kd pl fl ps fns H4 KA4 KW npl nfl hB4 q4 => ?_⟩
      have hSc4 := hSc2.kq q4
      have hT4 := tabs_kq hT2 q4 hB2.mut
      refine ⟨_, rfl, _, rfl, _, rfl, p, 13, _, rfl, hB4, by omega, by decide, by decide, fun m H6 m0 m1 hB6 kp6 => ?_⟩
      have KA6 := KA4.kq kp6.kq hB4.mut (by simp [npl]) (by simp [nfl])
      refine ⟨p, kd, pl, fl, ps, fns, true, _, m, rfl, hB6, KA6, KW, npl, nfl, m0, by omega, fun ve e k' H7 ie7 de k0 KA7 hB7 q7 => ?_⟩
      have hnb : nbd 4 = 121 := rfl
      have hdep := de.dep
      have hnod := de.nod
      have hstp := de.stp
      have ew := de.w
      have sh := ExW.shp _ ew
      -- marks
      refine ⟨_, rfl, _, rfl, p, ve, e, _, rfl, hB7, by omega, ie7, sh, by omega, by omega, fun t mrows mk H8 sub et8 pm8 hB8 q8 => ?_⟩
      have KA8 := KA7.kq q8 hB7.mut (by simp [npl]) (by simp [nfl])
      have ie8 := ie7.sit q8 hB7.mut
      have q48 : Kq [p] H4 H8 := kp6.kq.trans (q7.trans q8)
      have hSc8 := hSc4.kq q48
      have hT8 := tabs_kq hT4 q48 hB4.mut
      have asc := (opens_asc e).sublist sub
      have hop : ∀ z ∈ mk, z ∈ e.opens [] := fun z hz => sub.subset hz
      -- book, task
      refine ⟨_, rfl, kd, _, rfl, KA8.getF, fl, fns, rfl, KA8.fns, KW.bk, hT8, fun vb H9 hBk9 hT9 x9 => ?_⟩
      have et9 := x9 _ _ et8 not_tbl_tup
      have pm9 := L2.Paired.mapP pm8 fun a b z => z.keep (fun q xs z => x9 _ _ z not_tbl_tup)
      have ie9 := ie8.keepN x9
      refine ⟨_, rfl, _, rfl, rfl, rfl, fun x dx hx hdx hne => ?_⟩
      have s9 := made_same (C := CT) hx hdx
      refine ⟨x, dx, vb, ve, t, mrows, mk, e, ps, fns, rfl, upd_same, hBk9.keep s9, KW, ie9.keep (same_t s9), ew, by omega, by omega, ⟨SqT.of (s9 _ _ et9), L2.Paired.mapP pm9 fun a b z => z.keep (same_t s9), hop, asc⟩, fun H10 hTA10 hBut => ⟨rfl, ?_⟩⟩
      have s10 : Same H9 H10 := but_same s9 hx hBut
      -- the table
      have ie10 := ie9.keep (same_t s10)
      refine ⟨_, rfl, sz (by decide), fun t0 n0 => ?_⟩
      have s11 := same_up (o := .tup []) n0
      refine ⟨ve, _, e, [], rfl, ie10.keep (same_t s11), sh, ⟨t0, rfl, upd_same⟩, by omega, by simp; omega, by omega, fun tb trows H12 ntb etb ptb s12 => ?_⟩
      have s10_12 := s11.trans s12
      refine ⟨_, _, rfl, ?_⟩
      have htl : trows.length = e.nodes := by rw [ptb.length, pre_len]
      have okx : ∀ x ∈ e.pre [], (∀ z ∈ x.1, z ≤ 1000) ∧ x.1.length ≤ 40 := fun x hx => by
        have hsh := pre_short e [] x hx
        rw [List.length_nil] at hsh
        exact ⟨fun z hz => Nat.le_trans (pre_ix 900 e [] (by simp) (by omega) x hx z hz) (by decide), by omega⟩
      have okp1 : Okp ((e.pre []).map (·.1)) := ⟨by rw [List.length_map, pre_len]; omega, fun p hp => by
        obtain ⟨x, hx, rfl⟩ := List.mem_map.mp hp
        exact okx x hx⟩
      have okp2 : Okp ((e.opens []).filter fun p => !decide (p ∈ mk)) := ⟨Nat.le_trans (List.length_filter_le _ _) (Nat.le_trans (opens_len e) (by omega)), fun p hp => by
        have hp' := (List.mem_filter.mp hp).1
        obtain ⟨x, hx, rfl⟩ := List.mem_map.mp hp'
        exact okx x (List.mem_filter.mp hx).1⟩
      have fit2 := two_fits okp1 okp2
      -- due
      have s9_12 := s10.trans s10_12
      have et12 := s9_12 _ _ et9
      have pm12 := L2.Paired.mapP pm9 fun a b z => z.keep (same_t s9_12)
      refine ⟨_, rfl, tb, rfl, ⟨_, SqL.of etb⟩, fun D nD => ?_⟩
      refine lc_list (K := K) (a := tb) (xs := trows) (fun i H' => ∃ acc, H' D = some (.lst acc) ∧ Paired (PathAt H') acc (((e.pre []).take i).map (·.1)) ∧ Same H12 H') ⟨[], upd_same, .nil, same_up nD⟩ (fun i H' _ ⟨_, _, _, z⟩ => SqL.of (z _ _ etb)) ?_ ?_
      · rintro c u H13 hc ⟨acc, eD, pa, s13⟩
        obtain ⟨x, hx, rx⟩ := paired_get ptb hc
        have hil := (List.getElem?_eq_some_iff.mp hx).1
        have exx := (List.getElem?_eq_some_iff.mp hx).2
        obtain ⟨qd, vp, ve', rfl, eq, hp', ie'⟩ := rx.keep (same_t s13)
        have hacc : acc.length ≤ 900 := by
          rw [pa.length, List.length_map, List.length_take, pre_len]
          omega
        have ku : ∀ q xs, H13 q = some (.tup xs) → (upd H13 D (.lst (acc ++ [vp]))) q = some (.tup xs) := fun q xs z => by
          rw [upd_ne (fun w => by rw [w, eD] at z; cases z)]; exact z
        refine ⟨qd, _, rfl, SqT.of eq, rfl, _, _, rfl, _, _, rfl, rfl, rfl, yes_i ⟨_, rfl, acc, eD, small1000 (by omega), acc ++ [vp], upd_same, ?_, fun b o z => by rw [upd_ne (ne_of_none z nD)]; exact s13 _ _ z⟩⟩
        rw [take_succ_get _ c hil, exx, List.map_append]
        exact paired_append (L2.Paired.mapP pa fun a b z => z.keep ku) (.cons (hp'.keep ku) .nil)
      rintro H13 ⟨r1, eD1, pr1, s13⟩
      rw [htl, ← pre_len e [], List.take_length] at pr1
      refine ⟨_, rfl, ve, e, rfl, (ie10.keep (same_t s10_12)).keep (same_t s13), sh, by omega, by omega, fun lo orows H14 nlo eo po s14 => ?_⟩
      have s12_14 := s13.trans s14
      refine ⟨lo, rfl, ⟨_, SqL.of eo⟩, fun D2 nD2 => ?_⟩
      have hol : orows.length ≤ 900 := by rw [po.length]; exact Nat.le_trans (opens_len e) (by omega)
      refine lc_list (K := K) (a := lo) (xs := orows) (fun i H' => ∃ acc, H' D2 = some (.lst acc) ∧ Paired (PathAt H') acc (((e.opens []).take i).filter fun p => !decide (p ∈ mk)) ∧ Same H14 H') ⟨[], upd_same, .nil, same_up nD2⟩ (fun i H' _ ⟨_, _, _, z⟩ => SqL.of (z _ _ eo)) ?_ ?_
      · rintro c u H15 hc ⟨acc, eD, pa, s15⟩
        obtain ⟨x, hx, hp⟩ := paired_get po hc
        have hil := (List.getElem?_eq_some_iff.mp hx).1
        have exx := (List.getElem?_eq_some_iff.mp hx).2
        have hp' := hp.keep (same_t s15)
        have hacc : acc.length ≤ 900 := by
          rw [pa.length]
          refine Nat.le_trans (List.length_filter_le _ _) ?_
          rw [List.length_take]
          have := opens_len e
          omega
        have s12_15 := s12_14.trans s15
        have ku : ∀ q xs, H15 q = some (.tup xs) → (upd H15 D2 (.lst (acc ++ [u]))) q = some (.tup xs) := fun q xs z => by
          rw [upd_ne (fun w => by rw [w, eD] at z; cases z)]; exact z
        refine ⟨rfl, ⟨u, x, t, mrows, mk, rfl, rfl, hp', SqT.of (s12_15 _ _ et12), L2.Paired.mapP pm12 fun a b z => z.keep (same_t s12_15), ?_⟩⟩
        rw [take_succ_get _ c hil, exx, List.filter_append]
        by_cases hm : x ∈ mk
        · rw [decide_eq_true hm]
          refine iteF ⟨acc, eD, ?_, s15⟩
          simpa [hm] using pa
        · rw [decide_eq_false hm]
          refine iteT ⟨_, rfl, acc, eD, small1000 (by omega), acc ++ [u], upd_same, ?_, fun b o z => by rw [upd_ne (ne_of_none z nD2)]; exact s15 _ _ z⟩
          have e1 : (List.filter (fun p => !decide (p ∈ mk)) [x]) = [x] := by simp [hm]
          rw [e1]
          exact paired_append (L2.Paired.mapP pa fun a b z => z.keep ku) (.cons (hp'.keep ku) .nil)
      rintro H15 ⟨r2, eD2, pr2, s15⟩
      rw [po.length, List.take_length] at pr2
      have s13_15 := s14.trans s15
      refine ⟨sz (by simp), fun ld nld => ?_⟩
      have s16 := same_up (o := .lst [V.ref D, .ref D2]) nld
      have hDue : TwoAt (upd H15 ld (.lst [V.ref D, .ref D2])) ld ((e.pre []).map (·.1)) ((e.opens []).filter fun p => !decide (p ∈ mk)) D D2 r1 r2 :=
        ⟨upd_same, s16 _ _ (s13_15 _ _ eD1), L2.Paired.mapP pr1 fun a b z => z.keep (same_t (s13_15.trans s16)), s16 _ _ eD2, L2.Paired.mapP pr2 fun a b z => z.keep (same_t s16)⟩
      have s12_16 : Same H12 (upd H15 ld (.lst [V.ref D, .ref D2])) := (s13.trans s13_15).trans s16
      generalize upd H15 ld (.lst [V.ref D, .ref D2]) = H16 at hDue s12_16 ⊢
      clear s16 s15 s14 s13
      have hTA16 := (hTA10.keep s10_12).keep s12_16
      obtain ⟨dxa, fsa, vba, ea, na1, na2, nb, hBa⟩ := hTA16.five
      -- told
      refine ⟨_, rfl, x, dxa, fsa, rfl, ea, na2, .ref x, fns, e, mk, rfl, hTA16, by omega, fun d1 rr1 H17 e1 p1 n1 s17 => ?_⟩
      have hTA17 := hTA16.keep s17
      refine ⟨_, rfl, x, dxa, fsa, rfl, s17 _ _ ea, na1, .ref x, fns, e, mk, rfl, hTA17, by omega, fun d2 rr2 H18 e2 p2 n2 s18 => ?_⟩
      refine ⟨sz (by simp), fun lt nlt => ?_⟩
      have s19 := same_up (o := .lst [V.ref d1, .ref d2]) nlt
      have hTold : TwoAt (upd H18 lt (.lst [V.ref d1, .ref d2])) lt ((e.pre []).map (·.1)) ((e.opens []).filter fun p => !decide (p ∈ mk)) d1 d2 rr1 rr2 :=
        ⟨upd_same, s19 _ _ (s18 _ _ e1), L2.Paired.mapP p1 fun a b z => z.keep (same_t (s18.trans s19)), s19 _ _ e2, L2.Paired.mapP p2 fun a b z => z.keep (same_t s19)⟩
      have s16_19 : Same H16 (upd H18 lt (.lst [V.ref d1, .ref d2])) := (s17.trans s18).trans s19
      have nd12 : d2 ≠ d1 := fun w => by rw [w, e1] at n2; cases n2
      have nlt1 : lt ≠ d1 := fun w => by rw [w, s18 _ _ e1] at nlt; cases nlt
      have nlt2 : lt ≠ d2 := fun w => by rw [w, e2] at nlt; cases nlt
      generalize upd H18 lt (.lst [V.ref d1, .ref d2]) = H19 at hTold s16_19 ⊢
      have hDue19 := hDue.keep s16_19
      refine ⟨_, rfl, lt, dTwo _ _, rfl, hTold.dp, fit2.1, fit2.2.1, fit2.2.2.1, fit2.2.2.2, _, rfl, ld, dTwo _ _, rfl, hDue19.dp, fit2.1, fit2.2.1, fit2.2.2.1, fit2.2.2.2, rfl, _, rfl, iteNS rfl ?_⟩
      -- told changed
      have hl1 : rr1.length ≤ 900 := by rw [p1.length, List.length_map, pre_len]; omega
      refine ⟨_, rfl, lt, _, _, .ref d1, rfl, rfl, SqL.of hTold.l, (rfl : atI [V.ref d1, .ref d2] 0 = some (.ref d1)), .inl ⟨rfl, rr1, SqL.of hTold.e1⟩, d1, rr1, .non, rfl, rfl, hTold.e1, small1000 (by omega), ?_⟩
      have etl : (upd H19 d1 (.lst (rr1 ++ [.non]))) lt = some (.lst [V.ref d1, .ref d2]) := by rw [upd_ne nlt1]; exact hTold.l
      have et2 : (upd H19 d1 (.lst (rr1 ++ [.non]))) d2 = some (.lst rr2) := by rw [upd_ne nd12]; exact hTold.e2
      refine ⟨_, rfl, lt, _, _, .ref d2, rfl, rfl, SqL.of etl, (rfl : atI [V.ref d1, .ref d2] 1 = some (.ref d2)), .inl ⟨rfl, rr2, SqL.of et2⟩, d2, rr2, rfl, rfl, et2, ?_⟩
      have s16_20 : Same H16 (upd (upd H19 d1 (.lst (rr1 ++ [.non]))) d2 (.lst [])) := fun b o z => by
        rw [upd_ne (ne_of_none z (s17.free n2)), upd_ne (ne_of_none z n1)]
        exact s16_19 _ _ z
      have elt : (upd (upd H19 d1 (.lst (rr1 ++ [.non]))) d2 (.lst [])) lt = some (.lst [V.ref d1, .ref d2]) := by rw [upd_ne nlt2]; exact etl
      have ed1 : (upd (upd H19 d1 (.lst (rr1 ++ [.non]))) d2 (.lst [])) d1 = some (.lst (rr1 ++ [.non])) := by rw [upd_ne nd12.symm]; exact upd_same
      have ed2 : (upd (upd H19 d1 (.lst (rr1 ++ [.non]))) d2 (.lst [])) d2 = some (.lst []) := upd_same
      have pd1 : Paired (PathAt (upd (upd H19 d1 (.lst (rr1 ++ [.non]))) d2 (.lst []))) rr1 ((e.pre []).map (·.1)) := L2.Paired.mapP hTold.p1 fun a b z => z.keep fun q xs w => by
        rw [upd_ne (fun y => by rw [y, hTold.e2] at w; cases w), upd_ne (fun y => by rw [y, hTold.e1] at w; cases w)]
        exact w
      generalize upd (upd H19 d1 (.lst (rr1 ++ [.non]))) d2 (.lst []) = H20 at s16_20 elt ed1 ed2 pd1 ⊢
      have hDue20 := hDue.keep s16_20
      have hTA20 := hTA16.keep s16_20
      have fitT := told_fits okp1
      have dpT : ∀ H', Same H20 H' → Dp K H' (.ref lt) (dTold ((e.pre []).map (·.1))) := fun H' s' => .lst (SqL.of (s' _ _ elt)) (.cons (.lst (SqL.of (s' _ _ ed1)) (dpAll_cat (paths_dp (L2.Paired.mapP pd1 fun a b z => z.keep (same_t s'))) (.cons .non .nil))) (.cons (.lst (SqL.of (s' _ _ ed2)) .nil) .nil))
      -- kept, other
      refine ⟨_, rfl, lt, dTold _, rfl, dpT _ (Same.refl _), fitT.1, fitT.2.1, fitT.2.2.1, fitT.2.2.2, ?_⟩
      refine ⟨_, rfl, x, CT, dxa, fsa, _, rfl, s16_20 _ _ ea, TT.cl, TT.nB, nb, ?_⟩
      refine ⟨_, rfl, sz (by simp), fun tm ntm => ?_⟩
      have s21 := same_up (o := .tup [V.str "op", .str "+", .int 1, ve]) ntm
      have ie20 := ((ie10.keep (same_t s10_12)).keep (same_t s12_16)).keep (same_t s16_20)
      refine fun x2 dx2 hx2 hdx2 hne2 => ?_
      have s22 := made_same (C := CT) hx2 hdx2
      have ieM : InE (upd H20 tm (.tup [V.str "op", .str "+", .int 1, ve])) (more e) (.ref tm) := by
        unfold more InE
        refine ⟨tm, [.int 1, ve], rfl, ?_, upd_same⟩
        unfold InEs
        refine ⟨.int 1, [ve], rfl, by unfold InE; rfl, ?_⟩
        unfold InEs
        refine ⟨ve, [], rfl, ie20.keep (same_t s21), ?_⟩
        unfold InEs
        rfl
      have hde : 1 ≤ e.depth := by cases e <;> simp [Ex.depth]
      refine ⟨x2, dx2, vba, .ref tm, tp, [], [], more e, ps, fns, rfl, upd_same, (hBa.keep s16_20).keep (s21.trans s22), KW, ieM.keep (same_t s22), more_w ew, by rw [more_depth e hde]; omega, by rw [more_nodes]; omega, ⟨e0 _, .nil, fun z hz => (by cases hz), .nil⟩, fun H23 hTA23 hBut2 => ⟨rfl, ?_⟩⟩
      have s21_23 := but_same s22 hx2 hBut2
      have s20_23 := s21.trans s21_23
      refine ⟨_, _, rfl, ?_⟩
      have hTA23t := hTA20.keep s20_23
      have hDue23 := hDue20.keep s20_23
      have s16_23 := s16_20.trans s20_23
      have ea23 := s16_23 _ _ ea
      obtain ⟨dxo, fso, vbo, eo2, no1, no2, _, _⟩ := hTA23.five
      -- asked again
      refine ⟨_, rfl, x, dxa, fsa, rfl, ea23, na2, .ref x, fns, e, mk, rfl, hTA23t, by omega, fun g1 gr1 H24 ge1 gp1 gn1 s24 => ?_⟩
      refine ⟨_, rfl, x, dxa, fsa, rfl, s24 _ _ ea23, na1, .ref x, fns, e, mk, rfl, hTA23t.keep s24, by omega, fun g2 gr2 H25 ge2 gp2 gn2 s25 => ?_⟩
      refine ⟨sz (by simp), fun lg nlg => ?_⟩
      have s26 := same_up (o := .lst [V.ref g1, .ref g2]) nlg
      have hAg : TwoAt (upd H25 lg (.lst [V.ref g1, .ref g2])) lg ((e.pre []).map (·.1)) ((e.opens []).filter fun p => !decide (p ∈ mk)) g1 g2 gr1 gr2 :=
        ⟨upd_same, s26 _ _ (s25 _ _ ge1), L2.Paired.mapP gp1 fun a b z => z.keep (same_t (s25.trans s26)), s26 _ _ ge2, L2.Paired.mapP gp2 fun a b z => z.keep (same_t s26)⟩
      have s23_26 : Same H23 (upd H25 lg (.lst [V.ref g1, .ref g2])) := (s24.trans s25).trans s26
      generalize upd H25 lg (.lst [V.ref g1, .ref g2]) = H26 at hAg s23_26 ⊢
      have hDue26 := hDue23.keep s23_26
      refine ⟨lg, dTwo _ _, rfl, hAg.dp, fit2.1, fit2.2.1, fit2.2.2.1, fit2.2.2.2, _, rfl, ld, dTwo _ _, rfl, hDue26.dp, fit2.1, fit2.2.1, fit2.2.2.1, fit2.2.2.2, rfl, _, rfl, iteNS rfl ?_⟩
      -- the nodes of the other one
      have hTA26 := hTA23.keep s23_26
      refine ⟨_, rfl, x2, dxo, fso, rfl, s23_26 _ _ eo2, no2, .ref x2, fns, more e, [], rfl, hTA26, by rw [more_nodes]; omega, fun h1 hr1' H27 he1 hp1 hn1 s27 => ?_⟩
      have hDue27 := hDue26.keep s27
      have hml : hr1'.length = 2 + e.nodes := by rw [hp1.length, List.length_map, pre_len, more_nodes]
      have hdl : r1.length = e.nodes := by rw [hDue.p1.length, List.length_map, pre_len]
      refine ⟨h1, hr1', rfl, .inl (SqL.of he1), _, rfl, ld, _, _, .ref D, rfl, rfl, SqL.of hDue27.l, (rfl : atI [V.ref D, .ref D2] 0 = some (.ref D)), D, r1, rfl, .inl (SqL.of hDue27.e1), _, _, rfl, rfl, rfl, _, rfl, iteNS (congrArg V.int (by rw [hml, hdl]; omega)) ?_⟩
      -- its open nodes
      have hTA27 := hTA26.keep s27
      have s20_27 := (s20_23.trans s23_26).trans s27
      refine ⟨_, rfl, x2, dxo, fso, rfl, s27 _ _ (s23_26 _ _ eo2), no1, .ref x2, fns, more e, [], rfl, hTA27, by rw [more_nodes]; omega, fun h2 hr2' H28 he2 hp2 hn2 s28 => ?_⟩
      have hol2 : hr2'.length = 1 + (e.opens []).length := by
        rw [hp2.length]
        have : (List.filter (fun p => !decide (p ∈ ([] : List (List Nat)))) ((more e).opens [])) = (more e).opens [] := List.filter_eq_self.mpr fun p _ => by simp
        rw [this, more_opens]
      have s20_28 := s20_27.trans s28
      refine ⟨h2, hr2', rfl, .inl (SqL.of he2), _, rfl, ve, e, rfl, ie20.keep (same_t s20_28), sh, by omega, by omega, fun lo2 orows2 H29 nlo2 eo3 po2 s29 => ?_⟩
      have s20_29 := s20_28.trans s29
      refine ⟨lo2, orows2, rfl, .inl (SqL.of eo3), _, _, rfl, rfl, rfl, _, rfl, iteNS (congrArg V.int (by rw [hol2, po2.length]; omega)) ?_⟩
      refine ⟨_, rfl, lt, dTold _, rfl, dpT _ s20_29, fitT.1, fitT.2.1, fitT.2.2.1, fitT.2.2.2, _, rfl, rfl, _, rfl, iteNS rfl ?_⟩
      -- the values
      have s16_29 := s16_20.trans s20_29
      have s12_29 := s12_16.trans s16_29
      have x8_29 : ExtN H8 H29 := (x9.trans (same_extN (s9_12.trans s12_29)))
      have hB29 := bag_ext hB8 x8_29
      have ntbp : tb ≠ p := fun w => by
        obtain ⟨_, _, _, z, _⟩ := bag_ext hB8 (x9.trans (same_extN (s10.trans s11)))
        rw [w, z] at ntb
        cases ntb
      refine ⟨_, rfl, _, rfl, p, tb, _, e, trows, rfl, hB29, by omega, ntbp, s12_29 _ _ etb, L2.Paired.mapP ptb fun a b z => z.keep (same_t s12_29), by omega, by omega, fun L us ds H30 nLp eL dL vL lL hB30 q30 => ?_⟩
      refine ⟨L, rfl, ⟨_, SqL.of eL⟩, ?_⟩
      have hTA30 := (hTA16.keep s16_29).kq q30 hB29.mut
      have etb30 := q30 _ _ (by simp [ntbp]) (s12_29 _ _ etb)
      have ptb30 : Paired (RowN H30) trows (e.pre []) := L2.Paired.mapP ptb fun a b z => (z.keep (same_t s12_29)).keep fun q xs z => q30.tup hB29.mut.notup z
      refine for_list (K := K) (a := L) (xs := us) (fun k σ H' => ∃ x13 x14 x15 x16 x17, σ = [some (.ref a), some (.int (0 + (i : Int))), some (.ref p), some (.int (0 + (j : Int))), some (.ref kd), some ve, some (.ref t), some (.ref x), some (.ref tb), some (.ref ld), some (.ref lt), some (.str (dTold ((e.pre []).map (·.1))).shown), some (.ref x2), x13, x14, x15, x16, x17] ∧ Same H30 H') ⟨_, _, _, _, _, rfl, Same.refl _⟩ (fun k σ H' _ ⟨_, _, _, _, _, _, z⟩ => SqL.of (z _ _ eL)) ?_ ?_
      · rintro k u σ H31 hk ⟨x13, x14, x15, x16, x17, rfl, s31⟩
        obtain ⟨hkl, hdu⟩ := dpAll_hit dL hk
        have hv := vL _ (List.getElem_mem hkl)
        generalize ds[k] = d at hdu hv
        have hd31 := dp_ext s31 hdu
        have etb31 := s31 _ _ etb30
        refine ⟨_, rfl, tb, rfl, ⟨_, SqL.of etb31⟩, fun D3 nD3 => ?_⟩
        refine lc_list (K := K) (a := tb) (xs := trows) (fun i H' => ∃ acc, H' D3 = some (.lst acc) ∧ Paired (fun v (x : List Nat × Ex) => InE H' x.2 v) acc (((e.pre []).take i).filter fun x => decide ((dP x.1).shown = d.shown)) ∧ Same H31 H') ⟨[], upd_same, .nil, same_up nD3⟩ (fun i H' _ ⟨_, _, _, z⟩ => SqL.of (z _ _ etb31)) ?_ ?_
        · rintro c u2 H32 hc ⟨acc, eD, pa, s32⟩
          obtain ⟨y, hy, ry⟩ := paired_get ptb30 hc
          have hil := (List.getElem?_eq_some_iff.mp hy).1
          have eyy := (List.getElem?_eq_some_iff.mp hy).2
          obtain ⟨qd, vp, ve', rfl, eq, hp', ie'⟩ := (ry.keep (same_t s31)).keep (same_t s32)
          have oky := okx y (List.mem_of_getElem? hy)
          have hacc : acc.length ≤ 900 := by
            rw [pa.length]
            refine Nat.le_trans (List.length_filter_le _ _) ?_
            rw [List.length_take, pre_len]
            omega
          refine ⟨qd, _, rfl, SqT.of eq, rfl, _, _, rfl, _, _, rfl, rfl, rfl, ⟨vp, u, y.1, d, rfl, rfl, hp', dp_ext s32 hd31, itm_path oky.1 oky.2, hv, ?_⟩⟩
          rw [take_succ_get _ c hil, eyy, List.filter_append]
          have ku : ∀ q xs, H32 q = some (.tup xs) → (upd H32 D3 (.lst (acc ++ [ve']))) q = some (.tup xs) := fun q xs z => by
            rw [upd_ne (fun w => by rw [w, eD] at z; cases z)]; exact z
          by_cases hq : (dP y.1).shown = d.shown
          · rw [decide_eq_true hq]
            refine iteT ⟨_, rfl, acc, eD, small1000 (by omega), acc ++ [ve'], upd_same, ?_, fun b o z => by rw [upd_ne (ne_of_none z nD3)]; exact s32 _ _ z⟩
            rw [List.filter_cons_of_pos (by exact decide_eq_true hq), List.filter_nil]
            exact paired_append (L2.Paired.mapP pa fun a b z => InE.keep ku _ _ z) (.cons (InE.keep ku _ _ ie') .nil)
          · rw [decide_eq_false hq]
            refine iteF ⟨acc, eD, ?_, s32⟩
            rw [List.filter_cons_of_neg (by rw [decide_eq_false hq]; decide), List.filter_nil, List.append_nil]
            exact pa
        rintro H32 ⟨accF, eD3, pF, s32⟩
        rw [htl, ← pre_len e [], List.take_length] at pF
        have pF : Paired (fun v (x : List Nat × Ex) => InE H32 x.2 v) accF (fits e d) := pF
        have s30_32 := s31.trans s32
        have hTA32 := hTA30.keep s30_32
        have hd32 := dp_ext s32 hd31
        refine ⟨_, rfl, sz (by simp), fun ln nln => ?_⟩
        have s33 := same_up (o := .lst []) nln
        cases hk2 : look e d with
        | none =>
          rw [fits_none hv.told hk2] at pF
          cases pF
          have ef := error_fits hv
          refine ⟨.list [], .list [], .lst (SqL.of (s33 _ _ eD3)) .nil, .lst (SqL.of upd_same) .nil, rfl, rfl, _, rfl, iteF ?_⟩
          refine ⟨_, rfl, sz (by simp), fun t1 n1 => ?_⟩
          have s34 := same_up (o := .tup [V.str "error", u]) n1
          have s32_34 := s33.trans s34
          refine ⟨_, rfl, _, rfl, .ref x, u, fns, e, mk, d, rfl, hTA32.keep s32_34, sh, dp_ext s32_34 hd32, hv.er, fun e' t2 z' F1 hk3 hz ht sF => ?_, fun t2 z' F1 hk3 hz ht sF => ?_⟩
          · rw [hk2] at hk3
            cases hk3
          · refine ⟨t2, .tuple [.str "error", d], rfl, .tup (SqT.of ht) (.cons (.str _) (.cons hz .nil)), ef.1, ef.2.1, ef.2.2.1, ef.2.2.2, _, rfl, t1, .tuple [.str "error", d], rfl, .tup (SqT.of (sF _ _ upd_same)) (.cons (.str _) (.cons (dp_ext (s32_34.trans sF) hd32) .nil)), ef.1, ef.2.1, ef.2.2.1, ef.2.2.2, rfl, _, rfl, iteNS rfl ?_⟩
            exact ⟨_, _, _, _, _, rfl, (s30_32.trans s32_34).trans sF⟩
        | some e1 =>
          obtain ⟨p1', hfe⟩ := fits_some hv.told hk2
          rw [hfe] at pF
          obtain ⟨⟨f1, f2, f3, f4⟩, fsh⟩ := node_fits KW ew (by omega) (by omega) hk2
          cases pF with
          | cons hv1 rest =>
            cases rest
            rename_i v1
            refine ⟨.list [dEx e1], .list [], .lst (SqL.of (s33 _ _ eD3)) (.cons (InE.dp _ _ (InE.keep (same_t s33) _ _ hv1)) .nil), .lst (SqL.of upd_same) .nil, fsh, rfl, _, rfl, iteT ?_⟩
            refine ⟨_, rfl, D3, _, _, v1, rfl, rfl, SqL.of (s33 _ _ eD3), rfl, sz (by simp), fun t1 n1 => ?_⟩
            have s34 := same_up (o := .tup [V.str "node", v1]) n1
            have s32_34 := s33.trans s34
            refine ⟨_, rfl, _, rfl, .ref x, u, fns, e, mk, d, rfl, hTA32.keep s32_34, sh, dp_ext s32_34 hd32, hv.er, fun e' t2 z' F1 hk3 hz ht sF => ?_, fun t2 z' F1 hk3 hz ht sF => ?_⟩
            · rw [hk2] at hk3
              cases hk3
              refine ⟨t2, .tuple [.str "node", dEx e1], rfl, .tup (SqT.of ht) (.cons (.str _) (.cons (InE.dp _ _ hz) .nil)), f1, f2, f3, f4, _, rfl, t1, .tuple [.str "node", dEx e1], rfl, .tup (SqT.of (sF _ _ upd_same)) (.cons (.str _) (.cons (InE.dp _ _ (InE.keep (same_t (s32_34.trans sF)) _ _ hv1)) .nil)), f1, f2, f3, f4, rfl, _, rfl, iteNS rfl ?_⟩
              exact ⟨_, _, _, _, _, rfl, (s30_32.trans s32_34).trans sF⟩
            · rw [hk2] at hk3
              cases hk3
      · rintro σ H31 ⟨x13, x14, x15, x16, x17, rfl, s31⟩
        have hSc29 := hSc8.ext x8_29
        exact ⟨_, _, _, _, _, _, _, _, _, _, _, _, _, _, _, rfl, (hSc29.kq q30).ext (same_extN s31), Tabs.ext (tabs_kq (Tabs.ext hT9 (s9_12.trans s12_29)) q30 hB29.mut) s31, (bag_ext hB30 (same_extN s31)).mono (by omega)⟩
    · rintro σ H2 ⟨x3, x4, x5, x6, x7, x8, x9, x10, x11, x12, x13, x14, x15, x16, x17, rfl, hSc2, hT2, hB2⟩
      exact ⟨_, _, _, _, _, _, _, _, _, _, _, _, _, _, _, _, _, rfl, hSc2.seq, hT2⟩
  · rintro σ H0 ⟨x1, x2, x3, x4, x5, x6, x7, x8, x9, x10, x11, x12, x13, x14, x15, x16, x17, rfl, hS0, hT0⟩
    exact q H0
end
end Oo
namespace Oh
open PySem PySem.Spec PyProof.Rows L2 He
section
variable {K : PySem.W.Frag} {w : World} {H : Hp}
theorem readB_ok {C : Str} (h : readB C K = true) : ClX.CRead K (ga K C) (.type "type") := by
  obtain ⟨h1, h2⟩ := ba h
  exact ⟨h1, eqO_ok h2⟩
theorem conCB_ok {C f : Str} {v : V} (h : conCB C f v K = true) : ∃ u, ClX.CVal K (ga K C) (.type "type") f v u := by
  unfold conCB at h
  split at h
  · rename_i u e
    exact ⟨u, e, relB_ok h⟩
  · cases h
theorem propB_ok {C m : Str} (h : propB C m K = true) : PropOf K (ga K C) m (ma K (ga K C) m) (getterOf K C m) := by
  obtain ⟨h1, h⟩ := ba h
  obtain ⟨h2, h⟩ := ba h
  obtain ⟨h3, h4⟩ := ba h
  refine ⟨eqO_ok h1, eqO_ok h2, of_decide_eq_true h3, ?_⟩
  unfold getterOf
  split at h4
  · rename_i g r e
    rw [e]
    exact ⟨r, rfl⟩
  · cases h4
theorem tupAB_ok {a : PySem.W.Frag → Addr} {vs : List V} (h : tupAB a vs K = true) : SqT K H (a K) vs := by
  unfold tupAB at h
  cases q : K.lookup (a K) with
  | none =>
    rw [q] at h
    cases h
  | some o =>
    obtain ⟨oc, od, dt, osl⟩ := o
    rw [q] at h
    cases oc with
    | type c =>
      cases dt with
      | seq its n =>
        obtain ⟨h1, h2⟩ := ba (show (decide (c = "tuple") && (decide (its.size ≤ sizeLine) && relAll vs its.toList)) = true from h)
        obtain ⟨h3, h4⟩ := ba h2
        exact .inr ⟨_, its, n, q, congrArg Value.type (of_decide_eq_true h1), rfl, of_decide_eq_true h3, relAll_ok h4⟩
      | _ => cases h
    | _ => cases dt <;> cases h
theorem kdct_ok {d x : Str} {v : PySem.W.Frag → V} (t : ∃ es n, KDict K w (ga K d) es n) (h : dValB d x v K = true) : KDct K w (ga K d) x (v K) := by
  obtain ⟨es, n, t⟩ := t
  unfold dValB at h
  split at h
  · rename_i u e
    exact ⟨es, n, u, t.at_, t.lit, e, relB_ok h⟩
  · cases h
theorem kmiss_ok {d x : Str} (t : ∃ es n, KDict K w (ga K d) es n) (h : dMissB d x K = true) : KMiss K w (ga K d) x := by
  obtain ⟨es, n, t⟩ := t
  exact ⟨es, n, t.at_, t.lit, t.low, eqO_ok h⟩
end
end Oh
namespace Oo
open PySem L2 PyProof.Rows LamX StX ClX
abbrev P0 : Program := (PySem.W.OpenLaw.row PySem.Challenge.rw_ordersopen_k04_nodes_and_paths).prog
theorem depth_pos (e : Ex) : 1 ≤ e.depth := by
  cases e <;> simp [Ex.depth]
section
variable {P : Program} {w : World} {K : PySem.W.Frag} {mg : Str → Option Value} {base h : Heap}
theorem fn_none {L : Nat} {f : Addr} {fd : FuncData} {ps : List Str} {sp : Sp} (no : ∀ vs H Q E, ¬ sp vs H Q E) : FnOk P w K mg base CX0 L f fd ps sp :=
  ⟨fun vs H Q E h => absurd h (no vs H Q E), fun A outer s H args us vs Q E _ _ _ _ h => absurd h (no vs H Q E)⟩
theorem no_nodes {N : Nat} (h : N = 0) : ∀ vs H Q E, ¬ spNodes N vs H Q E := fun vs H Q E q => by
  obtain ⟨_, _, e, _, _, _, _, _, hd, _⟩ := q
  have := depth_pos e
  omega
theorem kbn_finit {f : Addr} {fd : FuncData} {kws : List (Str × V)} (D : FunD K "__init__" "Function.__init__" (defArgs sFInit) (defBody sFInit) (defScope sFInit) [.int 0] kws f fd) : KBn K fd pF 3 kF2 (fun us ws => us ++ ws) (fun vs zs => vs ++ zs) := by
  obtain ⟨its, k⟩ := D.kbindsD (ps := pF) 3 kF2 (fun us _ ws => us ++ ws) (by simp) (fun r1 _ r3 => r1.append r3) (fun T kV doc pm an cdv ct us its ws l1 l2 l3 => match us, l1, its, l2, ws, l3 with | [_, _, _], _, [_], _, [_, _], _ => ⟨_, rfl, rfl⟩)
  exact k
theorem kbn_tinit {f : Addr} {fd : FuncData} {kws : List (Str × V)} (D : FunD K "__init__" "Task.__init__" (defArgs sTInit) (defBody sTInit) (defScope sTInit) [] kws f fd) : KBn K fd ["self", "book", "expression", "points"] 3 ["points"] (fun us ws => us ++ ws) (fun vs zs => vs ++ zs) := by
  obtain ⟨oc, od, dV, kV, doc, pm, an, cdv, ct, osl, rfl, lk, hcd, hD, hK⟩ := D.ex
  rcases hD with ⟨_, rfl⟩ | ⟨e, _⟩
  · exact ⟨fun s us ws X l1 l2 => match us, l1, ws, l2 with | [_, _, _], _, [_], _ => .of_eq rfl, fun r1 r2 => r1.append r2⟩
  · exact absurd rfl e
theorem funC_of {fd : FuncData} {kws : List (Str × V)} (D : FunD K "__init__" "Book.__init__" (defArgs sBInit) (defBody sBInit) (defScope sBInit) [] kws (He.fAd K ("Book", some "__init__")) fd) : FunC K "__init__" "Book.__init__" sBInit (He.ma K (He.ga K "Book") "__init__") (He.cT K ("Book", some "__init__")).1 := by
  obtain ⟨oc, od, dV, kV, doc, pm, an, cdv, ct, osl, rfl, lk, hcd, hD, hK⟩ := D.ex
  rcases hD with ⟨_, rfl⟩ | ⟨e, _⟩
  · obtain ⟨cc, rfl⟩ := He.codeIn_ref hcd
    have ec : (He.cT K ("Book", some "__init__")).1 = cc := He.codeOf_eq lk rfl
    rw [ec]
    exact ⟨oc, od, kV, doc, pm, an, ct, osl, lk, hcd⟩
  · exact absurd rfl e
theorem isi_ok (h : Oh.isiB "Function" K = true) : TxI K (He.ga K "Function") := by
  obtain ⟨h1, h⟩ := He.ba h
  obtain ⟨h2, h⟩ := He.ba h
  obtain ⟨h3, h4⟩ := He.ba h
  exact ⟨He.eqO_ok h1, He.eqO_ok h2, of_decide_eq_true h3, of_decide_eq_true h4⟩
theorem no_spanof {CS : Addr} {N : Nat} (h : N = 0) : ∀ vs H Q E, ¬ spSpanOf K CS N vs H Q E := fun vs H Q E q => by
  obtain ⟨_, _, _, _, _, _, e, _, _, _, _, _, _, _, hd, _⟩ := q
  have := depth_pos e
  omega
theorem no_copied {K : PySem.W.Frag} {N : Nat} (h : N = 0) : ∀ vs H Q E, ¬ spCopied K N vs H Q E := fun vs H Q E q => by
  obtain ⟨_, _, _, _, hd, _⟩ := q
  omega
theorem all_ok (X : K.In h) (G : h.Ns mainGlobals mg) (c : Oh.SaysO Oh.fn Oh.fe Oh.ts Oh.tf Oh.fc w h K) (hTB : LamX.TabB base mg (He.cT K ("Book", some "__init__")).1 (He.cT K ("Book", some "__init__")).2) {fd_law : FuncData} (F_law : Fun K "law" "law" sLaw (He.ga K "law") fd_law) :
    FnG P0 w K mg base 84 (He.ga K "law") fd_law ["_law_script"] (spLaw K [((He.cT K ("Book", some "__init__")).2, ("Book.__init__" : Str) ++ ".<locals>." ++ "<lambda>")]) := by
  obtain ⟨fd_is_integer, D_is_integer⟩ := c.def_ 0 (d := Oh.dG "is_integer" 2) rfl
  have F_is_integer : Fun K "is_integer" "is_integer" (top 2) (He.ga K "is_integer") fd_is_integer := He5.fun_of D_is_integer
  have b_is_integer : Binds K fd_is_integer ["value"] [] := F_is_integer.binds (ps := ["value"]) fun _ _ _ _ _ _ us hl => match us, hl with | [_], _ => rfl
  obtain ⟨fd_is_ascending, D_is_ascending⟩ := c.def_ 1 (d := Oh.dG "is_ascending" 3) rfl
  have F_is_ascending : Fun K "is_ascending" "is_ascending" (top 3) (He.ga K "is_ascending") fd_is_ascending := He5.fun_of D_is_ascending
  have b_is_ascending : Binds K fd_is_ascending ["items"] [] := F_is_ascending.binds (ps := ["items"]) fun _ _ _ _ _ _ us hl => match us, hl with | [_], _ => rfl
  obtain ⟨fd_is_name, D_is_name⟩ := c.def_ 2 (d := Oh.dG "is_name" 19) rfl
  have F_is_name : Fun K "is_name" "is_name" (top 19) (He.ga K "is_name") fd_is_name := He5.fun_of D_is_name
  have b_is_name : Binds K fd_is_name ["value"] [] := F_is_name.binds (ps := ["value"]) fun _ _ _ _ _ _ us hl => match us, hl with | [_], _ => rfl
  obtain ⟨fd_are_places, D_are_places⟩ := c.def_ 3 (d := Oh.dG "are_places" 20) rfl
  have F_are_places : Fun K "are_places" "are_places" (top 20) (He.ga K "are_places") fd_are_places := He5.fun_of D_are_places
  have b_are_places : Binds K fd_are_places ["value"] [] := F_are_places.binds (ps := ["value"]) fun _ _ _ _ _ _ us hl => match us, hl with | [_], _ => rfl
  obtain ⟨fd_same_function, D_same_function⟩ := c.def_ 4 (d := Oh.dG "same_function" 22) rfl
  have F_same_function : Fun K "same_function" "same_function" (top 22) (He.ga K "same_function") fd_same_function := He5.fun_of D_same_function
  have b_same_function : Binds K fd_same_function ["function"] [] := F_same_function.binds (ps := ["function"]) fun _ _ _ _ _ _ us hl => match us, hl with | [_], _ => rfl
  obtain ⟨fd_is_form, D_is_form⟩ := c.def_ 5 (d := Oh.dG "is_form" 31) rfl
  have F_is_form : Fun K "is_form" "is_form" (top 31) (He.ga K "is_form") fd_is_form := He5.fun_of D_is_form
  have b_is_form : Binds K fd_is_form ["book", "value"] [] := F_is_form.binds (ps := ["book", "value"]) fun _ _ _ _ _ _ us hl => match us, hl with | [_, _], _ => rfl
  obtain ⟨fd_is_change, D_is_change⟩ := c.def_ 6 (d := Oh.dG "is_change" 32) rfl
  have F_is_change : Fun K "is_change" "is_change" (top 32) (He.ga K "is_change") fd_is_change := He5.fun_of D_is_change
  have b_is_change : Binds K fd_is_change ["value"] [] := F_is_change.binds (ps := ["value"]) fun _ _ _ _ _ _ us hl => match us, hl with | [_], _ => rfl
  obtain ⟨fd_is_call, D_is_call⟩ := c.def_ 7 (d := Oh.dG "is_call" 33) rfl
  have F_is_call : Fun K "is_call" "is_call" (top 33) (He.ga K "is_call") fd_is_call := He5.fun_of D_is_call
  have b_is_call : Binds K fd_is_call ["book", "name", "arguments"] [] := F_is_call.binds (ps := ["book", "name", "arguments"]) fun _ _ _ _ _ _ us hl => match us, hl with | [_, _, _], _ => rfl
  obtain ⟨fd_operands, D_operands⟩ := c.def_ 8 (d := Oh.dG "operands" 34) rfl
  have F_operands : Fun K "operands" "operands" (top 34) (He.ga K "operands") fd_operands := He5.fun_of D_operands
  have b_operands : Binds K fd_operands ["node"] [] := F_operands.binds (ps := ["node"]) fun _ _ _ _ _ _ us hl => match us, hl with | [_], _ => rfl
  obtain ⟨fd_nodes_of, D_nodes_of⟩ := c.def_ 9 (d := Oh.dG "nodes_of" 35) rfl
  have F_nodes_of : Fun K "nodes_of" "nodes_of" (top 35) (He.ga K "nodes_of") fd_nodes_of := He5.fun_of D_nodes_of
  have b_nodes_of : Binds K fd_nodes_of ["book", "value"] [] := F_nodes_of.binds (ps := ["book", "value"]) fun _ _ _ _ _ _ us hl => match us, hl with | [_, _], _ => rfl
  obtain ⟨fd_node_at, D_node_at⟩ := c.def_ 10 (d := Oh.dG "node_at" 36) rfl
  have F_node_at : Fun K "node_at" "node_at" (top 36) (He.ga K "node_at") fd_node_at := He5.fun_of D_node_at
  have b_node_at : Binds K fd_node_at ["expression", "path"] [] := F_node_at.binds (ps := ["expression", "path"]) fun _ _ _ _ _ _ us hl => match us, hl with | [_, _], _ => rfl
  obtain ⟨fd_is_open, D_is_open⟩ := c.def_ 11 (d := Oh.dG "is_open" 37) rfl
  have F_is_open : Fun K "is_open" "is_open" (top 37) (He.ga K "is_open") fd_is_open := He5.fun_of D_is_open
  have b_is_open : Binds K fd_is_open ["node"] [] := F_is_open.binds (ps := ["node"]) fun _ _ _ _ _ _ us hl => match us, hl with | [_], _ => rfl
  obtain ⟨fd_is_guard, D_is_guard⟩ := c.def_ 12 (d := Oh.dG "is_guard" 38) rfl
  have F_is_guard : Fun K "is_guard" "is_guard" (top 38) (He.ga K "is_guard") fd_is_guard := He5.fun_of D_is_guard
  have b_is_guard : Binds K fd_is_guard ["node"] [] := F_is_guard.binds (ps := ["node"]) fun _ _ _ _ _ _ us hl => match us, hl with | [_], _ => rfl
  obtain ⟨fd_is_open_path, D_is_open_path⟩ := c.def_ 13 (d := Oh.dG "is_open_path" 39) rfl
  have F_is_open_path : Fun K "is_open_path" "is_open_path" (top 39) (He.ga K "is_open_path") fd_is_open_path := He5.fun_of D_is_open_path
  have b_is_open_path : Binds K fd_is_open_path ["expression", "value"] [] := F_is_open_path.binds (ps := ["expression", "value"]) fun _ _ _ _ _ _ us hl => match us, hl with | [_, _], _ => rfl
  obtain ⟨fd_are_points, D_are_points⟩ := c.def_ 14 (d := Oh.dG "are_points" 40) rfl
  have F_are_points : Fun K "are_points" "are_points" (top 40) (He.ga K "are_points") fd_are_points := He5.fun_of D_are_points
  have b_are_points : Binds K fd_are_points ["expression", "value"] [] := F_are_points.binds (ps := ["expression", "value"]) fun _ _ _ _ _ _ us hl => match us, hl with | [_, _], _ => rfl
  obtain ⟨fd_own_steps, D_own_steps⟩ := c.def_ 15 (d := Oh.dG "own_steps" 41) rfl
  have F_own_steps : Fun K "own_steps" "own_steps" (top 41) (He.ga K "own_steps") fd_own_steps := He5.fun_of D_own_steps
  have b_own_steps : Binds K fd_own_steps ["node"] [] := F_own_steps.binds (ps := ["node"]) fun _ _ _ _ _ _ us hl => match us, hl with | [_], _ => rfl
  obtain ⟨fd_span_of, D_span_of⟩ := c.def_ 16 (d := Oh.dG "span_of" 48) rfl
  have F_span_of : Fun K "span_of" "span_of" (top 48) (He.ga K "span_of") fd_span_of := He5.fun_of D_span_of
  have b_span_of : Binds K fd_span_of ["node", "path", "first", "points"] [] := F_span_of.binds (ps := ["node", "path", "first", "points"]) fun _ _ _ _ _ _ us hl => match us, hl with | [_, _, _, _], _ => rfl
  obtain ⟨fd_is_in_order, D_is_in_order⟩ := c.def_ 17 (d := Oh.dG "is_in_order" 49) rfl
  have F_is_in_order : Fun K "is_in_order" "is_in_order" (top 49) (He.ga K "is_in_order") fd_is_in_order := He5.fun_of D_is_in_order
  have b_is_in_order : Binds K fd_is_in_order ["node"] [] := F_is_in_order.binds (ps := ["node"]) fun _ _ _ _ _ _ us hl => match us, hl with | [_], _ => rfl
  obtain ⟨fd_spans_within, D_spans_within⟩ := c.def_ 18 (d := Oh.dG "spans_within" 50) rfl
  have F_spans_within : Fun K "spans_within" "spans_within" (top 50) (He.ga K "spans_within") fd_spans_within := He5.fun_of D_spans_within
  have b_spans_within : Binds K fd_spans_within ["root"] [] := F_spans_within.binds (ps := ["root"]) fun _ _ _ _ _ _ us hl => match us, hl with | [_], _ => rfl
  obtain ⟨fd_step_of, D_step_of⟩ := c.def_ 19 (d := Oh.dG "step_of" 51) rfl
  have F_step_of : Fun K "step_of" "step_of" (top 51) (He.ga K "step_of") fd_step_of := He5.fun_of D_step_of
  have b_step_of : Binds K fd_step_of ["book", "span", "step"] [] := F_step_of.binds (ps := ["book", "span", "step"]) fun _ _ _ _ _ _ us hl => match us, hl with | [_, _, _], _ => rfl
  obtain ⟨fd_below_ahead, D_below_ahead⟩ := c.def_ 20 (d := Oh.dG "below_ahead" 52) rfl
  have F_below_ahead : Fun K "below_ahead" "below_ahead" (top 52) (He.ga K "below_ahead") fd_below_ahead := He5.fun_of D_below_ahead
  have b_below_ahead : Binds K fd_below_ahead ["span", "at"] [] := F_below_ahead.binds (ps := ["span", "at"]) fun _ _ _ _ _ _ us hl => match us, hl with | [_, _], _ => rfl
  obtain ⟨fd_joined, D_joined⟩ := c.def_ 21 (d := Oh.dG "joined" 53) rfl
  have F_joined : Fun K "joined" "joined" (top 53) (He.ga K "joined") fd_joined := He5.fun_of D_joined
  have b_joined : Binds K fd_joined ["spans"] [] := F_joined.binds (ps := ["spans"]) fun _ _ _ _ _ _ us hl => match us, hl with | [_], _ => rfl
  obtain ⟨fd_relations, D_relations⟩ := c.def_ 22 (d := Oh.dG "relations" 54) rfl
  have F_relations : Fun K "relations" "relations" (top 54) (He.ga K "relations") fd_relations := He5.fun_of D_relations
  have b_relations : Binds K fd_relations ["root"] [] := F_relations.binds (ps := ["root"]) fun _ _ _ _ _ _ us hl => match us, hl with | [_], _ => rfl
  obtain ⟨fd_unasked_within, D_unasked_within⟩ := c.def_ 23 (d := Oh.dG "unasked_within" 55) rfl
  have F_unasked_within : Fun K "unasked_within" "unasked_within" (top 55) (He.ga K "unasked_within") fd_unasked_within := He5.fun_of D_unasked_within
  have b_unasked_within : Binds K fd_unasked_within ["book", "span", "is_asked"] [] := F_unasked_within.binds (ps := ["book", "span", "is_asked"]) fun _ _ _ _ _ _ us hl => match us, hl with | [_, _, _], _ => rfl
  obtain ⟨fd_is_asked_of, D_is_asked_of⟩ := c.def_ 24 (d := Oh.dG "is_asked_of" 56) rfl
  have F_is_asked_of : Fun K "is_asked_of" "is_asked_of" (top 56) (He.ga K "is_asked_of") fd_is_asked_of := He5.fun_of D_is_asked_of
  have b_is_asked_of : Binds K fd_is_asked_of ["book", "form", "at", "is_asked"] [] := F_is_asked_of.binds (ps := ["book", "form", "at", "is_asked"]) fun _ _ _ _ _ _ us hl => match us, hl with | [_, _, _, _], _ => rfl
  obtain ⟨fd_copied, D_copied⟩ := c.def_ 25 (d := Oh.dG "copied" 4) rfl
  have F_copied : Fun K "copied" "copied" (top 4) (He.ga K "copied") fd_copied := He5.fun_of D_copied
  have b_copied : Binds K fd_copied ["value"] [] := F_copied.binds (ps := ["value"]) fun _ _ _ _ _ _ us hl => match us, hl with | [_], _ => rfl
  obtain ⟨fd__law_bag, D__law_bag⟩ := c.def_ 26 (d := Oh.dG "_law_bag" 61) rfl
  have F__law_bag : Fun K "_law_bag" "_law_bag" (top 61) (He.ga K "_law_bag") fd__law_bag := He5.fun_of D__law_bag
  have b__law_bag : Binds K fd__law_bag ["_law_script", "_law_at"] [] := F__law_bag.binds (ps := ["_law_script", "_law_at"]) fun _ _ _ _ _ _ us hl => match us, hl with | [_, _], _ => rfl
  obtain ⟨fd__law_take, D__law_take⟩ := c.def_ 27 (d := Oh.dG "_law_take" 62) rfl
  have F__law_take : Fun K "_law_take" "_law_take" (top 62) (He.ga K "_law_take") fd__law_take := He5.fun_of D__law_take
  have b__law_take : Binds K fd__law_take ["_law_bag_here", "_law_many"] [] := F__law_take.binds (ps := ["_law_bag_here", "_law_many"]) fun _ _ _ _ _ _ us hl => match us, hl with | [_, _], _ => rfl
  obtain ⟨fd__law_of, D__law_of⟩ := c.def_ 28 (d := Oh.dG "_law_of" 63) rfl
  have F__law_of : Fun K "_law_of" "_law_of" (top 63) (He.ga K "_law_of") fd__law_of := He5.fun_of D__law_of
  have b__law_of : Binds K fd__law_of ["_law_bag_here", "_law_items"] [] := F__law_of.binds (ps := ["_law_bag_here", "_law_items"]) fun _ _ _ _ _ _ us hl => match us, hl with | [_, _], _ => rfl
  obtain ⟨fd__law_some, D__law_some⟩ := c.def_ 29 (d := Oh.dG "_law_some" 64) rfl
  have F__law_some : Fun K "_law_some" "_law_some" (top 64) (He.ga K "_law_some") fd__law_some := He5.fun_of D__law_some
  have b__law_some : Binds K fd__law_some ["_law_bag_here", "_law_items"] [] := F__law_some.binds (ps := ["_law_bag_here", "_law_items"]) fun _ _ _ _ _ _ us hl => match us, hl with | [_, _], _ => rfl
  obtain ⟨fd__law_kit, D__law_kit⟩ := c.def_ 30 (d := Oh.dG "_law_kit" 65) rfl
  have F__law_kit : Fun K "_law_kit" "_law_kit" (top 65) (He.ga K "_law_kit") fd__law_kit := He5.fun_of D__law_kit
  have b__law_kit : Binds K fd__law_kit ["_law_bag_here", "_law_guards"] [] := F__law_kit.binds (ps := ["_law_bag_here", "_law_guards"]) fun _ _ _ _ _ _ us hl => match us, hl with | [_, _], _ => rfl
  obtain ⟨fd__law_book, D__law_book⟩ := c.def_ 31 (d := Oh.dG "_law_book" 66) rfl
  have F__law_book : Fun K "_law_book" "_law_book" (top 66) (He.ga K "_law_book") fd__law_book := He5.fun_of D__law_book
  have b__law_book : Binds K fd__law_book ["_law_functions"] [] := F__law_book.binds (ps := ["_law_functions"]) fun _ _ _ _ _ _ us hl => match us, hl with | [_], _ => rfl
  obtain ⟨fd__law_leaf, D__law_leaf⟩ := c.def_ 32 (d := Oh.dG "_law_leaf" 67) rfl
  have F__law_leaf : Fun K "_law_leaf" "_law_leaf" (top 67) (He.ga K "_law_leaf") fd__law_leaf := He5.fun_of D__law_leaf
  have b__law_leaf : Binds K fd__law_leaf ["_law_bag_here", "_law_kit_here", "_law_left"] [] := F__law_leaf.binds (ps := ["_law_bag_here", "_law_kit_here", "_law_left"]) fun _ _ _ _ _ _ us hl => match us, hl with | [_, _, _], _ => rfl
  obtain ⟨fd__law_guard, D__law_guard⟩ := c.def_ 33 (d := Oh.dG "_law_guard" 68) rfl
  have F__law_guard : Fun K "_law_guard" "_law_guard" (top 68) (He.ga K "_law_guard") fd__law_guard := He5.fun_of D__law_guard
  have b__law_guard : Binds K fd__law_guard ["_law_bag_here", "_law_kit_here", "_law_left", "_law_depth"] [] := F__law_guard.binds (ps := ["_law_bag_here", "_law_kit_here", "_law_left", "_law_depth"]) fun _ _ _ _ _ _ us hl => match us, hl with | [_, _, _, _], _ => rfl
  obtain ⟨fd__law_expr, D__law_expr⟩ := c.def_ 34 (d := Oh.dG "_law_expr" 69) rfl
  have F__law_expr : Fun K "_law_expr" "_law_expr" (top 69) (He.ga K "_law_expr") fd__law_expr := He5.fun_of D__law_expr
  have b__law_expr : Binds K fd__law_expr ["_law_bag_here", "_law_kit_here", "_law_left", "_law_depth"] [] := F__law_expr.binds (ps := ["_law_bag_here", "_law_kit_here", "_law_left", "_law_depth"]) fun _ _ _ _ _ _ us hl => match us, hl with | [_, _, _, _], _ => rfl
  obtain ⟨fd__law_root, D__law_root⟩ := c.def_ 35 (d := Oh.dG "_law_root" 70) rfl
  have F__law_root : Fun K "_law_root" "_law_root" (top 70) (He.ga K "_law_root") fd__law_root := He5.fun_of D__law_root
  have b__law_root : Binds K fd__law_root ["_law_bag_here", "_law_kit_here", "_law_most"] [] := F__law_root.binds (ps := ["_law_bag_here", "_law_kit_here", "_law_most"]) fun _ _ _ _ _ _ us hl => match us, hl with | [_, _, _], _ => rfl
  obtain ⟨fd__law_operands, D__law_operands⟩ := c.def_ 36 (d := Oh.dG "_law_operands" 71) rfl
  have F__law_operands : Fun K "_law_operands" "_law_operands" (top 71) (He.ga K "_law_operands") fd__law_operands := He5.fun_of D__law_operands
  have b__law_operands : Binds K fd__law_operands ["_law_node"] [] := F__law_operands.binds (ps := ["_law_node"]) fun _ _ _ _ _ _ us hl => match us, hl with | [_], _ => rfl
  obtain ⟨fd__law_nodes, D__law_nodes⟩ := c.def_ 37 (d := Oh.dG "_law_nodes" 72) rfl
  have F__law_nodes : Fun K "_law_nodes" "_law_nodes" (top 72) (He.ga K "_law_nodes") fd__law_nodes := He5.fun_of D__law_nodes
  have b__law_nodes : Binds K fd__law_nodes ["_law_node", "_law_path"] [] := F__law_nodes.binds (ps := ["_law_node", "_law_path"]) fun _ _ _ _ _ _ us hl => match us, hl with | [_, _], _ => rfl
  obtain ⟨fd__law_open, D__law_open⟩ := c.def_ 38 (d := Oh.dG "_law_open" 73) rfl
  have F__law_open : Fun K "_law_open" "_law_open" (top 73) (He.ga K "_law_open") fd__law_open := He5.fun_of D__law_open
  have b__law_open : Binds K fd__law_open ["_law_expr_here"] [] := F__law_open.binds (ps := ["_law_expr_here"]) fun _ _ _ _ _ _ us hl => match us, hl with | [_], _ => rfl
  obtain ⟨fd__law_points, D__law_points⟩ := c.def_ 39 (d := Oh.dG "_law_points" 74) rfl
  have F__law_points : Fun K "_law_points" "_law_points" (top 74) (He.ga K "_law_points") fd__law_points := He5.fun_of D__law_points
  have b__law_points : Binds K fd__law_points ["_law_bag_here", "_law_expr_here"] [] := F__law_points.binds (ps := ["_law_bag_here", "_law_expr_here"]) fun _ _ _ _ _ _ us hl => match us, hl with | [_, _], _ => rfl
  obtain ⟨fd__law_asked, D__law_asked⟩ := c.def_ 40 (d := Oh.dG "_law_asked" 75) rfl
  have F__law_asked : Fun K "_law_asked" "_law_asked" (top 75) (He.ga K "_law_asked") fd__law_asked := He5.fun_of D__law_asked
  have b__law_asked : Binds K fd__law_asked ["_law_task", "_law_value"] [] := F__law_asked.binds (ps := ["_law_task", "_law_value"]) fun _ _ _ _ _ _ us hl => match us, hl with | [_, _], _ => rfl
  obtain ⟨fd__law_values, D__law_values⟩ := c.def_ 41 (d := Oh.dG "_law_values" 76) rfl
  have F__law_values : Fun K "_law_values" "_law_values" (top 76) (He.ga K "_law_values") fd__law_values := He5.fun_of D__law_values
  have b__law_values : Binds K fd__law_values ["_law_bag_here", "_law_table"] [] := F__law_values.binds (ps := ["_law_bag_here", "_law_table"]) fun _ _ _ _ _ _ us hl => match us, hl with | [_, _], _ => rfl
  obtain ⟨fd_finit, D_finit⟩ := c.def_ 43 (d := Oh.dM "Function" "__init__" "Function.__init__" (inClass (top 21) 0) [.int 0]) rfl
  obtain ⟨fd_binit, D_binit⟩ := c.def_ 44 (d := Oh.dM "Book" "__init__" "Book.__init__" (inClass (top 23) 1) []) rfl
  obtain ⟨fd_bget, D_bget⟩ := c.def_ 45 (d := Oh.dM "Book" "__getitem__" "Book.__getitem__" (inClass (top 23) 3) []) rfl
  have F_bget : Fun K "__getitem__" "Book.__getitem__" (inClass (top 23) 3) (He.ma K (He.ga K "Book") "__getitem__") fd_bget := He5.fun_of D_bget
  have b_bget : Binds K fd_bget ["self", "at"] [] := F_bget.binds (ps := ["self", "at"]) fun _ _ _ _ _ _ us hl => match us, hl with | [_, _], _ => rfl
  obtain ⟨fd_bcont, D_bcont⟩ := c.def_ 46 (d := Oh.dM "Book" "__contains__" "Book.__contains__" (inClass (top 23) 4) []) rfl
  have F_bcont : Fun K "__contains__" "Book.__contains__" (inClass (top 23) 4) (He.ma K (He.ga K "Book") "__contains__") fd_bcont := He5.fun_of D_bcont
  have b_bcont : Binds K fd_bcont ["self", "x"] [] := F_bcont.binds (ps := ["self", "x"]) fun _ _ _ _ _ _ us hl => match us, hl with | [_, _], _ => rfl
  obtain ⟨fd_tinit, D_tinit⟩ := c.def_ 47 (d := ⟨fun K => He.ma K (He.ga K "Task") "__init__", "__init__", "Task.__init__", defArgs (inClass (top 59) 2), defBody (inClass (top 59) 2), defScope (inClass (top 59) 2), [], [("points", .adr Oh.ptAt)]⟩) rfl
  obtain ⟨fd_topen, D_topen⟩ := c.def_ 48 (d := Oh.dM "Task" "open_nodes" "Task.open_nodes" (inClass (top 59) 5) []) rfl
  have F_topen : Fun K "open_nodes" "Task.open_nodes" (inClass (top 59) 5) (He.ma K (He.ga K "Task") "open_nodes") fd_topen := He5.fun_of D_topen
  have b_topen : Binds K fd_topen ["self"] [] := F_topen.binds (ps := ["self"]) fun _ _ _ _ _ _ us hl => match us, hl with | [_], _ => rfl
  obtain ⟨fd_sinit, D_sinit⟩ := c.def_ 49 (d := Oh.dM "Span" "__init__" "Span.__init__" (inClass (top 47) 0) []) rfl
  have F_sinit : Fun K "__init__" "Span.__init__" (inClass (top 47) 0) (He.ma K (He.ga K "Span") "__init__") fd_sinit := He5.fun_of D_sinit
  have b_sinit : Binds K fd_sinit ["self", "path", "form", "below", "first", "is_fixed"] [] := F_sinit.binds (ps := ["self", "path", "form", "below", "first", "is_fixed"]) fun _ _ _ _ _ _ us hl => match us, hl with | [_, _, _, _, _, _], _ => rfl
  obtain ⟨fd_linit, D_linit⟩ := c.def_ 50 (d := Oh.dM "Layout" "__init__" "Layout.__init__" (inClass (top 57) 0) []) rfl
  have F_linit : Fun K "__init__" "Layout.__init__" (inClass (top 57) 0) (He.ma K (He.ga K "Layout") "__init__") fd_linit := He5.fun_of D_linit
  have b_linit : Binds K fd_linit ["self", "book", "expression", "points"] [] := F_linit.binds (ps := ["self", "book", "expression", "points"]) fun _ _ _ _ _ _ us hl => match us, hl with | [_, _, _, _], _ => rfl
  obtain ⟨fd_tnodes, D_tnodes⟩ := c.def_ 51 (d := Oh.dM "Task" "nodes" "Task.nodes" (inClass (top 59) 3) []) rfl
  have F_tnodes : Fun K "nodes" "Task.nodes" (inClass (top 59) 3) (He.ma K (He.ga K "Task") "nodes") fd_tnodes := He5.fun_of D_tnodes
  have b_tnodes : Binds K fd_tnodes ["self"] [] := F_tnodes.binds (ps := ["self"]) fun _ _ _ _ _ _ us hl => match us, hl with | [_], _ => rfl
  obtain ⟨fd_tnode, D_tnode⟩ := c.def_ 52 (d := Oh.dM "Task" "node" "Task.node" (inClass (top 59) 4) []) rfl
  have F_tnode : Fun K "node" "Task.node" (inClass (top 59) 4) (He.ma K (He.ga K "Task") "node") fd_tnode := He5.fun_of D_tnode
  have b_tnode : Binds K fd_tnode ["self", "path"] [] := F_tnode.binds (ps := ["self", "path"]) fun _ _ _ _ _ _ us hl => match us, hl with | [_, _], _ => rfl
  obtain ⟨fd_bnames, D_bnames⟩ := c.def_ 53 (d := ⟨fun K => Oh.getterOf K "Book" "names", "names", "Book.names", defArgs (inClass (top 23) 2), defBody (inClass (top 23) 2), defScope (inClass (top 23) 2), [], []⟩) rfl
  have F_bnames : Fun K "names" "Book.names" (inClass (top 23) 2) (Oh.getterOf K "Book" "names") fd_bnames := He5.fun_of D_bnames
  have b_bnames : Binds K fd_bnames ["self"] [] := F_bnames.binds (ps := ["self"]) fun _ _ _ _ _ _ us hl => match us, hl with | [_], _ => rfl
  have k_finit := kbn_finit D_finit
  have C_binit := funC_of D_binit
  have k_tinit := kbn_tinit D_tinit
  obtain ⟨ds0, r0, b0⟩ := bn_tinit (tp := Oh.ptAt K) D_tinit
  have m_Function : mg "Function" = some (.ref (He.ga K "Function")) := He.glo_ok X G (c.fact 0 (f := Oh.faF (.glo "Function")) rfl)
  have m_Book : mg "Book" = some (.ref (He.ga K "Book")) := He.glo_ok X G (c.fact 1 (f := Oh.faF (.glo "Book")) rfl)
  have m_Task : mg "Task" = some (.ref (He.ga K "Task")) := He.glo_ok X G (c.fact 2 (f := Oh.faF (.glo "Task")) rfl)
  have m_Span : mg "Span" = some (.ref (He.ga K "Span")) := He.glo_ok X G (c.fact 3 (f := Oh.faF (.glo "Span")) rfl)
  have m_Layout : mg "Layout" = some (.ref (He.ga K "Layout")) := He.glo_ok X G (c.fact 4 (f := Oh.faF (.glo "Layout")) rfl)
  have m_SIGNS : mg "SIGNS" = some (.ref (He.ga K "SIGNS")) := He.glo_ok X G (c.fact 5 (f := Oh.faF (.glo "SIGNS")) rfl)
  have m_LENGTHS : mg "LENGTHS" = some (.ref (He.ga K "LENGTHS")) := He.glo_ok X G (c.fact 6 (f := Oh.faF (.glo "LENGTHS")) rfl)
  have m_FIRST_OPERANDS : mg "FIRST_OPERANDS" = some (.ref (He.ga K "FIRST_OPERANDS")) := He.glo_ok X G (c.fact 7 (f := Oh.faF (.glo "FIRST_OPERANDS")) rfl)
  have m_OWN_STEPS : mg "OWN_STEPS" = some (.ref (He.ga K "OWN_STEPS")) := He.glo_ok X G (c.fact 8 (f := Oh.faF (.glo "OWN_STEPS")) rfl)
  have m_GUARDS : mg "GUARDS" = some (.ref (He.ga K "GUARDS")) := He.glo_ok X G (c.fact 9 (f := Oh.faF (.glo "GUARDS")) rfl)
  have m_is_integer : mg "is_integer" = some (.ref (He.ga K "is_integer")) := He.glo_ok X G (c.fact 10 (f := Oh.faF (.glo "is_integer")) rfl)
  have m_is_ascending : mg "is_ascending" = some (.ref (He.ga K "is_ascending")) := He.glo_ok X G (c.fact 11 (f := Oh.faF (.glo "is_ascending")) rfl)
  have m_is_name : mg "is_name" = some (.ref (He.ga K "is_name")) := He.glo_ok X G (c.fact 12 (f := Oh.faF (.glo "is_name")) rfl)
  have m_are_places : mg "are_places" = some (.ref (He.ga K "are_places")) := He.glo_ok X G (c.fact 13 (f := Oh.faF (.glo "are_places")) rfl)
  have m_same_function : mg "same_function" = some (.ref (He.ga K "same_function")) := He.glo_ok X G (c.fact 14 (f := Oh.faF (.glo "same_function")) rfl)
  have m_is_form : mg "is_form" = some (.ref (He.ga K "is_form")) := He.glo_ok X G (c.fact 15 (f := Oh.faF (.glo "is_form")) rfl)
  have m_is_change : mg "is_change" = some (.ref (He.ga K "is_change")) := He.glo_ok X G (c.fact 16 (f := Oh.faF (.glo "is_change")) rfl)
  have m_is_call : mg "is_call" = some (.ref (He.ga K "is_call")) := He.glo_ok X G (c.fact 17 (f := Oh.faF (.glo "is_call")) rfl)
  have m_operands : mg "operands" = some (.ref (He.ga K "operands")) := He.glo_ok X G (c.fact 18 (f := Oh.faF (.glo "operands")) rfl)
  have m_nodes_of : mg "nodes_of" = some (.ref (He.ga K "nodes_of")) := He.glo_ok X G (c.fact 19 (f := Oh.faF (.glo "nodes_of")) rfl)
  have m_node_at : mg "node_at" = some (.ref (He.ga K "node_at")) := He.glo_ok X G (c.fact 20 (f := Oh.faF (.glo "node_at")) rfl)
  have m_is_open : mg "is_open" = some (.ref (He.ga K "is_open")) := He.glo_ok X G (c.fact 21 (f := Oh.faF (.glo "is_open")) rfl)
  have m_is_guard : mg "is_guard" = some (.ref (He.ga K "is_guard")) := He.glo_ok X G (c.fact 22 (f := Oh.faF (.glo "is_guard")) rfl)
  have m_is_open_path : mg "is_open_path" = some (.ref (He.ga K "is_open_path")) := He.glo_ok X G (c.fact 23 (f := Oh.faF (.glo "is_open_path")) rfl)
  have m_are_points : mg "are_points" = some (.ref (He.ga K "are_points")) := He.glo_ok X G (c.fact 24 (f := Oh.faF (.glo "are_points")) rfl)
  have m_own_steps : mg "own_steps" = some (.ref (He.ga K "own_steps")) := He.glo_ok X G (c.fact 25 (f := Oh.faF (.glo "own_steps")) rfl)
  have m_span_of : mg "span_of" = some (.ref (He.ga K "span_of")) := He.glo_ok X G (c.fact 26 (f := Oh.faF (.glo "span_of")) rfl)
  have m_is_in_order : mg "is_in_order" = some (.ref (He.ga K "is_in_order")) := He.glo_ok X G (c.fact 27 (f := Oh.faF (.glo "is_in_order")) rfl)
  have m_spans_within : mg "spans_within" = some (.ref (He.ga K "spans_within")) := He.glo_ok X G (c.fact 28 (f := Oh.faF (.glo "spans_within")) rfl)
  have m_step_of : mg "step_of" = some (.ref (He.ga K "step_of")) := He.glo_ok X G (c.fact 29 (f := Oh.faF (.glo "step_of")) rfl)
  have m_below_ahead : mg "below_ahead" = some (.ref (He.ga K "below_ahead")) := He.glo_ok X G (c.fact 30 (f := Oh.faF (.glo "below_ahead")) rfl)
  have m_joined : mg "joined" = some (.ref (He.ga K "joined")) := He.glo_ok X G (c.fact 31 (f := Oh.faF (.glo "joined")) rfl)
  have m_relations : mg "relations" = some (.ref (He.ga K "relations")) := He.glo_ok X G (c.fact 32 (f := Oh.faF (.glo "relations")) rfl)
  have m_unasked_within : mg "unasked_within" = some (.ref (He.ga K "unasked_within")) := He.glo_ok X G (c.fact 33 (f := Oh.faF (.glo "unasked_within")) rfl)
  have m_is_asked_of : mg "is_asked_of" = some (.ref (He.ga K "is_asked_of")) := He.glo_ok X G (c.fact 34 (f := Oh.faF (.glo "is_asked_of")) rfl)
  have m_copied : mg "copied" = some (.ref (He.ga K "copied")) := He.glo_ok X G (c.fact 35 (f := Oh.faF (.glo "copied")) rfl)
  have m__law_bag : mg "_law_bag" = some (.ref (He.ga K "_law_bag")) := He.glo_ok X G (c.fact 36 (f := Oh.faF (.glo "_law_bag")) rfl)
  have m__law_take : mg "_law_take" = some (.ref (He.ga K "_law_take")) := He.glo_ok X G (c.fact 37 (f := Oh.faF (.glo "_law_take")) rfl)
  have m__law_of : mg "_law_of" = some (.ref (He.ga K "_law_of")) := He.glo_ok X G (c.fact 38 (f := Oh.faF (.glo "_law_of")) rfl)
  have m__law_some : mg "_law_some" = some (.ref (He.ga K "_law_some")) := He.glo_ok X G (c.fact 39 (f := Oh.faF (.glo "_law_some")) rfl)
  have m__law_kit : mg "_law_kit" = some (.ref (He.ga K "_law_kit")) := He.glo_ok X G (c.fact 40 (f := Oh.faF (.glo "_law_kit")) rfl)
  have m__law_book : mg "_law_book" = some (.ref (He.ga K "_law_book")) := He.glo_ok X G (c.fact 41 (f := Oh.faF (.glo "_law_book")) rfl)
  have m__law_leaf : mg "_law_leaf" = some (.ref (He.ga K "_law_leaf")) := He.glo_ok X G (c.fact 42 (f := Oh.faF (.glo "_law_leaf")) rfl)
  have m__law_guard : mg "_law_guard" = some (.ref (He.ga K "_law_guard")) := He.glo_ok X G (c.fact 43 (f := Oh.faF (.glo "_law_guard")) rfl)
  have m__law_expr : mg "_law_expr" = some (.ref (He.ga K "_law_expr")) := He.glo_ok X G (c.fact 44 (f := Oh.faF (.glo "_law_expr")) rfl)
  have m__law_root : mg "_law_root" = some (.ref (He.ga K "_law_root")) := He.glo_ok X G (c.fact 45 (f := Oh.faF (.glo "_law_root")) rfl)
  have m__law_operands : mg "_law_operands" = some (.ref (He.ga K "_law_operands")) := He.glo_ok X G (c.fact 46 (f := Oh.faF (.glo "_law_operands")) rfl)
  have m__law_nodes : mg "_law_nodes" = some (.ref (He.ga K "_law_nodes")) := He.glo_ok X G (c.fact 47 (f := Oh.faF (.glo "_law_nodes")) rfl)
  have m__law_open : mg "_law_open" = some (.ref (He.ga K "_law_open")) := He.glo_ok X G (c.fact 48 (f := Oh.faF (.glo "_law_open")) rfl)
  have m__law_points : mg "_law_points" = some (.ref (He.ga K "_law_points")) := He.glo_ok X G (c.fact 49 (f := Oh.faF (.glo "_law_points")) rfl)
  have m__law_asked : mg "_law_asked" = some (.ref (He.ga K "_law_asked")) := He.glo_ok X G (c.fact 50 (f := Oh.faF (.glo "_law_asked")) rfl)
  have m__law_values : mg "_law_values" = some (.ref (He.ga K "_law_values")) := He.glo_ok X G (c.fact 51 (f := Oh.faF (.glo "_law_values")) rfl)
  have m_law : mg "law" = some (.ref (He.ga K "law")) := He.glo_ok X G (c.fact 52 (f := Oh.faF (.glo "law")) rfl)
  have m_NoNode : mg "NoNode" = some (.ref (He.ga K "NoNode")) := He.glo_ok X G (c.fact 53 (f := Oh.faF (.glo "NoNode")) rfl)
  have n_tuple : mg "tuple" = none := He.free_ok X G (c.fact 54 (f := Oh.faF (.free "tuple")) rfl)
  have n_sorted : mg "sorted" = none := He.free_ok X G (c.fact 55 (f := Oh.faF (.free "sorted")) rfl)
  have n_len : mg "len" = none := He.free_ok X G (c.fact 56 (f := Oh.faF (.free "len")) rfl)
  have n_isinstance : mg "isinstance" = none := He.free_ok X G (c.fact 57 (f := Oh.faF (.free "isinstance")) rfl)
  have n_int : mg "int" = none := He.free_ok X G (c.fact 58 (f := Oh.faF (.free "int")) rfl)
  have n_bool : mg "bool" = none := He.free_ok X G (c.fact 59 (f := Oh.faF (.free "bool")) rfl)
  have n_all : mg "all" = none := He.free_ok X G (c.fact 60 (f := Oh.faF (.free "all")) rfl)
  have n_range : mg "range" = none := He.free_ok X G (c.fact 61 (f := Oh.faF (.free "range")) rfl)
  have n_max : mg "max" = none := He.free_ok X G (c.fact 62 (f := Oh.faF (.free "max")) rfl)
  have n_min : mg "min" = none := He.free_ok X G (c.fact 63 (f := Oh.faF (.free "min")) rfl)
  have n_enumerate : mg "enumerate" = none := He.free_ok X G (c.fact 64 (f := Oh.faF (.free "enumerate")) rfl)
  have n_str : mg "str" = none := He.free_ok X G (c.fact 65 (f := Oh.faF (.free "str")) rfl)
  have n_abs : mg "abs" = none := He.free_ok X G (c.fact 66 (f := Oh.faF (.free "abs")) rfl)
  have n_sum : mg "sum" = none := He.free_ok X G (c.fact 67 (f := Oh.faF (.free "sum")) rfl)
  have n_list : mg "list" = none := He.free_ok X G (c.fact 68 (f := Oh.faF (.free "list")) rfl)
  have n_repr : mg "repr" = none := He.free_ok X G (c.fact 69 (f := Oh.faF (.free "repr")) rfl)
  have n_super : mg "super" = none := He.free_ok X G (c.fact 70 (f := Oh.faF (.free "super")) rfl)
  have n_LookupError : mg "LookupError" = none := He.free_ok X G (c.fact 71 (f := Oh.faF (.free "LookupError")) rfl)
  have n_IndexError : mg "IndexError" = none := He.free_ok X G (c.fact 72 (f := Oh.faF (.free "IndexError")) rfl)
  have n_KeyError : mg "KeyError" = none := He.free_ok X G (c.fact 73 (f := Oh.faF (.free "KeyError")) rfl)
  obtain ⟨t_MOST_LETTERS, m_MOST_LETTERS⟩ := He.int_ok X G (c.fact 74 (f := Oh.faF (.int "MOST_LETTERS" 8)) rfl)
  obtain ⟨t_MOST_PLACES, m_MOST_PLACES⟩ := He.int_ok X G (c.fact 75 (f := Oh.faF (.int "MOST_PLACES" 4)) rfl)
  obtain ⟨t_MOST_ARGUMENTS, m_MOST_ARGUMENTS⟩ := He.int_ok X G (c.fact 76 (f := Oh.faF (.int "MOST_ARGUMENTS" 3)) rfl)
  obtain ⟨t_LARGEST, m_LARGEST⟩ := He.int_ok X G (c.fact 77 (f := Oh.faF (.int "LARGEST" 999999)) rfl)
  obtain ⟨t_LETTERS, m_LETTERS⟩ := He.str_ok X G (c.fact 78 (f := Oh.faF (.str "LETTERS" "abcdefghijklmnopqrstuvwxyz")) rfl)
  have cls_Function := He.cls_ok (c.fact 79 (f := Oh.faF (.cls "Function")) rfl)
  have mkr_Function := He.mkr_ok (c.fact 84 (f := Oh.faF (.mkr "Function")) rfl)
  have cls_Book := He.cls_ok (c.fact 80 (f := Oh.faF (.cls "Book")) rfl)
  have mkr_Book := He.mkr_ok (c.fact 85 (f := Oh.faF (.mkr "Book")) rfl)
  have cls_Task := He.cls_ok (c.fact 81 (f := Oh.faF (.cls "Task")) rfl)
  have mkr_Task := He.mkr_ok (c.fact 86 (f := Oh.faF (.mkr "Task")) rfl)
  have cls_Span := He.cls_ok (c.fact 82 (f := Oh.faF (.cls "Span")) rfl)
  have mkr_Span := He.mkr_ok (c.fact 87 (f := Oh.faF (.mkr "Span")) rfl)
  have cls_Layout := He.cls_ok (c.fact 83 (f := Oh.faF (.cls "Layout")) rfl)
  have mkr_Layout := He.mkr_ok (c.fact 88 (f := Oh.faF (.mkr "Layout")) rfl)
  have no_NoNode_path := He.noat_ok (c.fact 89 (f := Oh.faF (.noat "NoNode" "path")) rfl)
  have no_Function_name := He.noat_ok (c.fact 90 (f := Oh.faF (.noat "Function" "name")) rfl)
  have no_Function_arguments := He.noat_ok (c.fact 91 (f := Oh.faF (.noat "Function" "arguments")) rfl)
  have no_Function_reads := He.noat_ok (c.fact 92 (f := Oh.faF (.noat "Function" "reads")) rfl)
  have no_Function_stores := He.noat_ok (c.fact 93 (f := Oh.faF (.noat "Function" "stores")) rfl)
  have no_Book_functions := He.noat_ok (c.fact 94 (f := Oh.faF (.noat "Book" "functions")) rfl)
  have no_Task_book := He.noat_ok (c.fact 95 (f := Oh.faF (.noat "Task" "book")) rfl)
  have no_Task_expression := He.noat_ok (c.fact 96 (f := Oh.faF (.noat "Task" "expression")) rfl)
  have no_Task_points := He.noat_ok (c.fact 97 (f := Oh.faF (.noat "Task" "points")) rfl)
  have no_Task_rows := He.noat_ok (c.fact 98 (f := Oh.faF (.noat "Task" "rows")) rfl)
  have no_Task_layout := He.noat_ok (c.fact 99 (f := Oh.faF (.noat "Task" "layout")) rfl)
  have no_Task___bool__ := He.noat_ok (c.fact 100 (f := Oh.faF (.noat "Task" "__bool__")) rfl)
  have no_Span_path := He.noat_ok (c.fact 101 (f := Oh.faF (.noat "Span" "path")) rfl)
  have no_Span_form := He.noat_ok (c.fact 102 (f := Oh.faF (.noat "Span" "form")) rfl)
  have no_Span_below := He.noat_ok (c.fact 103 (f := Oh.faF (.noat "Span" "below")) rfl)
  have no_Span_is_fixed := He.noat_ok (c.fact 104 (f := Oh.faF (.noat "Span" "is_fixed")) rfl)
  have no_Span_size := He.noat_ok (c.fact 105 (f := Oh.faF (.noat "Span" "size")) rfl)
  have no_Span_own := He.noat_ok (c.fact 106 (f := Oh.faF (.noat "Span" "own")) rfl)
  have no_Span_inside := He.noat_ok (c.fact 107 (f := Oh.faF (.noat "Span" "inside")) rfl)
  have no_Span_is_idle := He.noat_ok (c.fact 108 (f := Oh.faF (.noat "Span" "is_idle")) rfl)
  have no_Layout_root := He.noat_ok (c.fact 109 (f := Oh.faF (.noat "Layout" "root")) rfl)
  have no_Layout_spans := He.noat_ok (c.fact 110 (f := Oh.faF (.noat "Layout" "spans")) rfl)
  have no_Layout_owners := He.noat_ok (c.fact 111 (f := Oh.faF (.noat "Layout" "owners")) rfl)
  have no_Layout_steps := He.noat_ok (c.fact 112 (f := Oh.faF (.noat "Layout" "steps")) rfl)
  have no_Layout_befores := He.noat_ok (c.fact 113 (f := Oh.faF (.noat "Layout" "befores")) rfl)
  have no_Layout_besides := He.noat_ok (c.fact 114 (f := Oh.faF (.noat "Layout" "besides")) rfl)
  have no_Layout_guard := He.noat_ok (c.fact 115 (f := Oh.faF (.noat "Layout" "guard")) rfl)
  have no_Layout_stored := He.noat_ok (c.fact 116 (f := Oh.faF (.noat "Layout" "stored")) rfl)
  have no_Layout_unasked := He.noat_ok (c.fact 117 (f := Oh.faF (.noat "Layout" "unasked")) rfl)
  have me_Book___contains__ := He.meth_ok (c.fact 118 (f := Oh.faF (.meth "Book" "__contains__")) rfl)
  have me_Book___getitem__ := He.meth_ok (c.fact 119 (f := Oh.faF (.meth "Book" "__getitem__")) rfl)
  have me_Task___len__ := He.meth_ok (c.fact 120 (f := Oh.faF (.meth "Task" "__len__")) rfl)
  have me_Task_open_nodes := He.meth_ok (c.fact 121 (f := Oh.faF (.meth "Task" "open_nodes")) rfl)
  have me_Task_nodes := He.meth_ok (c.fact 122 (f := Oh.faF (.meth "Task" "nodes")) rfl)
  have me_Task_node := He.meth_ok (c.fact 123 (f := Oh.faF (.meth "Task" "node")) rfl)
  have rd_Book := Oh.readB_ok (c.fact 124 (f := Oh.readB "Book") rfl)
  have rd_Task := Oh.readB_ok (c.fact 125 (f := Oh.readB "Task") rfl)
  obtain ⟨u6, c_MOST⟩ := Oh.conCB_ok (c.fact 126 (f := Oh.conCB "Book" "MOST" (.int 6)) rfl)
  obtain ⟨u200, c_NODES⟩ := Oh.conCB_ok (c.fact 127 (f := Oh.conCB "Task" "MOST_NODES" (.int 200)) rfl)
  obtain ⟨u30, c_DEPTH⟩ := Oh.conCB_ok (c.fact 128 (f := Oh.conCB "Task" "MOST_DEPTH" (.int 30)) rfl)
  have ti := isi_ok (c.fact 129 (f := Oh.isiB "Function") rfl)
  have pn := Oh.propB_ok (c.fact 130 (f := Oh.propB "Book" "names") rfl)
  have fg : PySem.W.fnIn K (He.ma K (He.ga K "Book") "__getitem__") = true := (c.fact 131 (f := Oh.fnInB "Book" "__getitem__") rfl)
  have sg := fun H => Oh.tupAB_ok (H := H) (c.fact 132 (f := Oh.tupAB (fun K => He.ga K "SIGNS") [.str "+", .str "-", .str "*", .str "<"]) rfl)
  have gg := fun H => Oh.tupAB_ok (H := H) (c.fact 133 (f := Oh.tupAB (fun K => He.ga K "GUARDS") [.str "and", .str "or", .str "choose"]) rfl)
  have tu_read := fun H => Oh.tupAB_ok (H := H) (c.fact 134 (f := Oh.tupAB (fun K => Oh.vAt K (He.ga K "OWN_STEPS") "read") [.str "read"]) rfl)
  have tu_store := fun H => Oh.tupAB_ok (H := H) (c.fact 135 (f := Oh.tupAB (fun K => Oh.vAt K (He.ga K "OWN_STEPS") "store") [.str "store"]) rfl)
  have tu_step := fun H => Oh.tupAB_ok (H := H) (c.fact 136 (f := Oh.tupAB (fun K => Oh.vAt K (He.ga K "OWN_STEPS") "step") [.str "read", .str "store"]) rfl)
  have tu_call := fun H => Oh.tupAB_ok (H := H) (c.fact 137 (f := Oh.tupAB (fun K => Oh.vAt K (He.ga K "OWN_STEPS") "call") [.str "call"]) rfl)
  have pt0 := fun H => Oh.tupAB_ok (H := H) (c.fact 138 (f := Oh.tupAB (Oh.ptAt) []) rfl)
  have tab0 : ∃ es n, KDict K w (He.ga K "LENGTHS") es n := c.tab 0 (t := (fun K => He.ga K "LENGTHS", Oh.lens.map (·.1))) rfl
  have tab1 : ∃ es n, KDict K w (He.ga K "FIRST_OPERANDS") es n := c.tab 1 (t := (fun K => He.ga K "FIRST_OPERANDS", Oh.firsts.map (·.1))) rfl
  have tab2 : ∃ es n, KDict K w (He.ga K "OWN_STEPS") es n := c.tab 2 (t := (fun K => He.ga K "OWN_STEPS", Oh.owns)) rfl
  have l_read := Oh.kdct_ok tab0 (c.fact 139 (f := Oh.dValB "LENGTHS" "read" fun _ => .int 2) rfl)
  have l_store := Oh.kdct_ok tab0 (c.fact 140 (f := Oh.dValB "LENGTHS" "store" fun _ => .int 3) rfl)
  have l_step := Oh.kdct_ok tab0 (c.fact 141 (f := Oh.dValB "LENGTHS" "step" fun _ => .int 4) rfl)
  have l_op := Oh.kdct_ok tab0 (c.fact 142 (f := Oh.dValB "LENGTHS" "op" fun _ => .int 4) rfl)
  have l_call := Oh.kdct_ok tab0 (c.fact 143 (f := Oh.dValB "LENGTHS" "call" fun _ => .int 3) rfl)
  have l_then := Oh.kdct_ok tab0 (c.fact 144 (f := Oh.dValB "LENGTHS" "then" fun _ => .int 3) rfl)
  have l_and := Oh.kdct_ok tab0 (c.fact 145 (f := Oh.dValB "LENGTHS" "and" fun _ => .int 3) rfl)
  have l_or := Oh.kdct_ok tab0 (c.fact 146 (f := Oh.dValB "LENGTHS" "or" fun _ => .int 3) rfl)
  have l_choose := Oh.kdct_ok tab0 (c.fact 147 (f := Oh.dValB "LENGTHS" "choose" fun _ => .int 4) rfl)
  have f_read := Oh.kdct_ok tab1 (c.fact 148 (f := Oh.dValB "FIRST_OPERANDS" "read" fun _ => .int 2) rfl)
  have f_store := Oh.kdct_ok tab1 (c.fact 149 (f := Oh.dValB "FIRST_OPERANDS" "store" fun _ => .int 2) rfl)
  have f_step := Oh.kdct_ok tab1 (c.fact 150 (f := Oh.dValB "FIRST_OPERANDS" "step" fun _ => .int 4) rfl)
  have f_op := Oh.kdct_ok tab1 (c.fact 151 (f := Oh.dValB "FIRST_OPERANDS" "op" fun _ => .int 2) rfl)
  have f_then := Oh.kdct_ok tab1 (c.fact 152 (f := Oh.dValB "FIRST_OPERANDS" "then" fun _ => .int 1) rfl)
  have f_and := Oh.kdct_ok tab1 (c.fact 153 (f := Oh.dValB "FIRST_OPERANDS" "and" fun _ => .int 1) rfl)
  have f_or := Oh.kdct_ok tab1 (c.fact 154 (f := Oh.dValB "FIRST_OPERANDS" "or" fun _ => .int 1) rfl)
  have f_choose := Oh.kdct_ok tab1 (c.fact 155 (f := Oh.dValB "FIRST_OPERANDS" "choose" fun _ => .int 1) rfl)
  have o_read := Oh.kdct_ok tab2 (c.fact 156 (f := Oh.dValB "OWN_STEPS" "read" fun K => .ref (Oh.vAt K (He.ga K "OWN_STEPS") "read")) rfl)
  have o_store := Oh.kdct_ok tab2 (c.fact 157 (f := Oh.dValB "OWN_STEPS" "store" fun K => .ref (Oh.vAt K (He.ga K "OWN_STEPS") "store")) rfl)
  have o_step := Oh.kdct_ok tab2 (c.fact 158 (f := Oh.dValB "OWN_STEPS" "step" fun K => .ref (Oh.vAt K (He.ga K "OWN_STEPS") "step")) rfl)
  have o_call := Oh.kdct_ok tab2 (c.fact 159 (f := Oh.dValB "OWN_STEPS" "call" fun K => .ref (Oh.vAt K (He.ga K "OWN_STEPS") "call")) rfl)
  have z_op := Oh.kmiss_ok tab2 (c.fact 160 (f := Oh.dMissB "OWN_STEPS" "op") rfl)
  have z_then := Oh.kmiss_ok tab2 (c.fact 161 (f := Oh.dMissB "OWN_STEPS" "then") rfl)
  have z_and := Oh.kmiss_ok tab2 (c.fact 162 (f := Oh.dMissB "OWN_STEPS" "and") rfl)
  have z_or := Oh.kmiss_ok tab2 (c.fact 163 (f := Oh.dMissB "OWN_STEPS" "or") rfl)
  have z_choose := Oh.kmiss_ok tab2 (c.fact 164 (f := Oh.dMissB "OWN_STEPS" "choose") rfl)
  have st0 : Oh.statB K = true := (c.fact 168 (f := Oh.statB) rfl)
  have noSup : (P0.main.scope.names.lookup ("super" : Str)).isSome = false := by kernel_rfl
  have X_NoNode := own_of (c.fact 165 (f := Oh.excB "LookupError" "LookupError.__new__" "LookupError.__init__" Oo.upLE "NoNode" "path") rfl)
  have C_NoNode := cat_of (c.fact 166 (f := Oh.xcB "NoNode") rfl)
  obtain ⟨fd_NoNode, cda_NoNode, cc_NoNode, F_NoNode, N_NoNode, S_NoNode⟩ := sup_of (P := P0) (mg := mg) (x := "NoNode") (m := "__init__") (q := "NoNode.__init__") (me := "self") (st := inClass (top 12) 0) (c.exc 0 (d := Oh.dM "NoNode" "__init__" "NoNode.__init__" (inClass (top 12) 0) []) rfl) (c.fact 167 (f := Oh.cloB "NoNode" "__init__" "NoNode.__init__" "self" (PySem.W.OpenLaw.row PySem.Challenge.rw_ordersopen_k04_nodes_and_paths).prog.main.file) rfl) st0 n_super noSup
  have b_NoNode : Binds K fd_NoNode ["self", "path"] [] := N_NoNode.binds (ps := ["self", "path"]) fun _ _ _ _ _ us hl => match us, hl with | [_, _], _ => rfl
  have kit_NoNode_LookupError : PySem.W.kitOne K (.ref (He.ga K "NoNode")) (.type "LookupError") = some true := of_decide_eq_true (c.fact 169 (f := Oh.kitB "NoNode" "LookupError" true) rfl)
  have kit_NoNode_KeyError : PySem.W.kitOne K (.ref (He.ga K "NoNode")) (.type "KeyError") = some false := of_decide_eq_true (c.fact 170 (f := Oh.kitB "NoNode" "KeyError" false) rfl)
  have kit_NoNode_IndexError : PySem.W.kitOne K (.ref (He.ga K "NoNode")) (.type "IndexError") = some false := of_decide_eq_true (c.fact 171 (f := Oh.kitB "NoNode" "IndexError" false) rfl)
  have G_is_integer := ok_isint (P := P0) (w := w) (mg := mg) (base := base) F_is_integer n_int n_bool n_isinstance
  have G_is_ascending := ok_asc (P := P0) (w := w) (mg := mg) (base := base) F_is_ascending n_all n_range n_len
  have G_is_name := ok_name (P := P0) (w := w) (mg := mg) (base := base) F_is_name n_all n_len n_str n_isinstance m_MOST_LETTERS m_LETTERS
  have G_are_places := ok_places F_are_places n_all n_len n_tuple n_isinstance m_MOST_PLACES G_is_name F_is_name.kp b_is_name m_is_name G_is_ascending F_is_ascending.kp b_is_ascending m_is_ascending
  have TF : TxF K (He.ga K "Function") := ⟨cls_Function, no_Function_name, no_Function_arguments, no_Function_reads, no_Function_stores⟩
  have TB : TxB K (He.ga K "Book") (.type "type") := ⟨cls_Book, no_Book_functions, rd_Book⟩
  have TT : TxT K (He.ga K "Task") (.type "type") := ⟨cls_Task, no_Task_book, no_Task_expression, no_Task_points, no_Task_rows, no_Task_layout, rd_Task⟩
  have TS : TxS K (He.ga K "Span") := ⟨cls_Span, no_Span_path, no_Span_form, no_Span_below, no_Span_is_fixed, no_Span_size, no_Span_own, no_Span_inside, no_Span_is_idle⟩
  have TL : TxL K (He.ga K "Layout") := ⟨cls_Layout, no_Layout_root, no_Layout_spans, no_Layout_owners, no_Layout_steps, no_Layout_befores, no_Layout_besides, no_Layout_guard, no_Layout_stored, no_Layout_unasked⟩
  have TG : TxG K (He.ga K "GUARDS") := ⟨gg⟩
  have G_finit := ok_finit D_finit TF m_MOST_ARGUMENTS G_is_name F_is_name.kp b_is_name m_is_name G_is_integer F_is_integer.kp b_is_integer m_is_integer G_are_places F_are_places.kp b_are_places m_are_places
  have G_same_function := ok_same F_same_function TF mkr_Function m_Function G_finit k_finit
  have G_binit := ok_binit (T := [((He.cT K ("Book", some "__init__")).2, ("Book.__init__" : Str) ++ ".<locals>." ++ "<lambda>")]) C_binit TF ti TB m_Function m_Book c_MOST n_enumerate n_isinstance n_len n_sorted n_tuple hTB List.mem_cons_self (fun p hp _ => by rw [List.mem_singleton.mp hp]) G_same_function F_same_function.kp b_same_function m_same_function
  have G_bnames := ok_bnames (P := P0) (w := w) (mg := mg) (base := base) F_bnames TF TB n_tuple
  have G_bcont := ok_bcont F_bcont TB pn G_bnames b_bnames
  have G_bget := ok_bget F_bget TF TB G_same_function F_same_function.kp b_same_function m_same_function
  have Dc : Dun K (He.ga K "Book") "__contains__" _ := ⟨me_Book___contains__.at_, me_Book___contains__.fn⟩
  have Dg : Dun K (He.ga K "Book") "__getitem__" _ := ⟨me_Book___getitem__.at_, me_Book___getitem__.fn⟩
  have G_is_change := ok_change F_is_change G_is_integer F_is_integer.kp b_is_integer m_is_integer
  have G_is_call := ok_iscall F_is_call TF n_tuple n_isinstance n_len G_bcont Dc b_bcont G_bget Dg fg b_bget
  have TE : TxE K w (He.ga K "LENGTHS") (He.ga K "FIRST_OPERANDS") (He.ga K "SIGNS") := by
    refine ⟨fun k => ?_, tab0.choose_spec.choose_spec.low, fun k hk => ?_, sg⟩
    · cases k
      · exact l_read
      · exact l_store
      · exact l_step
      · exact l_op
      · exact l_call
      · exact l_then
      · exact l_and
      · exact l_or
      · exact l_choose
    · cases k
      · exact f_read
      · exact f_store
      · exact f_step
      · exact f_op
      · cases hk
      · exact f_then
      · exact f_and
      · exact f_or
      · exact f_choose
  have TO2 : TxO2 K w (He.ga K "OWN_STEPS") := by
    refine ⟨tab2.choose_spec.choose_spec.low, fun k hk => ?_, fun k hk => ?_⟩
    · cases k
      · exact ⟨_, o_read, tu_read⟩
      · exact ⟨_, o_store, tu_store⟩
      · exact ⟨_, o_step, tu_step⟩
      · exact absurd rfl hk
      · exact ⟨_, o_call, tu_call⟩
      all_goals exact absurd rfl hk
    · cases k
      · cases hk
      · cases hk
      · cases hk
      · exact z_op
      · cases hk
      · exact z_then
      · exact z_and
      · exact z_or
      · exact z_choose
  have G_is_form := ok_form F_is_form TE n_tuple n_str n_isinstance n_len m_LARGEST m_LENGTHS m_SIGNS G_is_integer F_is_integer.kp b_is_integer m_is_integer G_is_name F_is_name.kp b_is_name m_is_name G_is_change F_is_change.kp b_is_change m_is_change G_is_call F_is_call.kp b_is_call m_is_call
  have G_operands := ok_ops F_operands TE m_FIRST_OPERANDS G_is_integer F_is_integer.kp b_is_integer m_is_integer
  have G_nodes_of := ok_nodesof F_nodes_of n_enumerate n_len G_is_form F_is_form.kp b_is_form m_is_form G_operands F_operands.kp b_operands m_operands
  have G_node_at := ok_nodeat F_node_at n_tuple n_isinstance n_len G_is_integer F_is_integer.kp b_is_integer m_is_integer G_operands F_operands.kp b_operands m_operands
  have G_is_open := ok_isopen F_is_open n_len G_is_integer F_is_integer.kp b_is_integer m_is_integer
  have G_is_open_path := ok_isopenpath F_is_open_path G_node_at F_node_at.kp b_node_at m_node_at G_is_open F_is_open.kp b_is_open m_is_open
  have G_are_points := ok_arepoints F_are_points n_all n_tuple n_isinstance G_is_open_path F_is_open_path.kp b_is_open_path m_is_open_path G_is_ascending F_is_ascending.kp b_is_ascending m_is_ascending
  have G_is_guard := ok_isguard F_is_guard TG m_GUARDS G_is_integer F_is_integer.kp b_is_integer m_is_integer
  have G_is_in_order := ok_isinorder F_is_in_order G_is_integer F_is_integer.kp b_is_integer m_is_integer G_is_guard F_is_guard.kp b_is_guard m_is_guard
  have G_kinds := ok_kinds F_own_steps TO2 m_OWN_STEPS G_is_integer F_is_integer.kp b_is_integer m_is_integer
  have G_sinit := fun mk => ok_sinit (mk := mk) D_sinit TS n_sum n_len n_tuple n_range G_kinds F_own_steps.kp b_own_steps m_own_steps n_all G_is_guard F_is_guard.kp b_is_guard m_is_guard
  have G_joined := fun mk => ok_joined (P := P0) (w := w) (mg := mg) (base := base) (mk := mk) F_joined TS
  have G_below_ahead := fun mk => ok_below (mk := mk) F_below_ahead TS n_min G_is_guard F_is_guard.kp b_is_guard m_is_guard
  have G_span_of : ∀ N, FnOk P0 w K mg base CX0 (N + 4) (He.ga K "span_of") fd_span_of ["node", "path", "first", "points"] (spSpanOf K (He.ga K "Span") N) := by
    intro N
    induction N with
    | zero => exact fn_none (no_spanof rfl)
    | succ n ih => exact ok_spanof F_span_of (Nat.le_add_left _ _) TS n_enumerate n_tuple G_operands F_operands.kp b_operands m_operands ih F_span_of.kp b_span_of m_span_of G_is_in_order F_is_in_order.kp b_is_in_order m_is_in_order mkr_Span m_Span G_sinit b_sinit
  have G_spans_within := ok_within (P := P0) (w := w) (mg := mg) (base := base) F_spans_within TS n_len
  have G_step_of := ok_stepof F_step_of TS TF G_kinds F_own_steps.kp b_own_steps m_own_steps G_bget Dg fg b_bget
  have G_relations := ok_rel F_relations TS n_len n_tuple n_enumerate G_joined F_joined.kp b_joined m_joined G_below_ahead F_below_ahead.kp b_below_ahead m_below_ahead
  have G_is_asked_of := ok_askof F_is_asked_of TF n_len G_is_guard F_is_guard.kp b_is_guard m_is_guard G_bget Dg fg b_bget
  have G_unasked_within : ∀ N, FnOk P0 w K mg base CX0 (N + 8) (He.ga K "unasked_within") fd_unasked_within ["book", "span", "is_asked"] (spUnask (He.ga K "Function") (He.ga K "Book") (He.ga K "Span") N) := by
    intro N
    induction N with
    | zero => exact fn_none (no_unask rfl)
    | succ n ih => exact ok_unask F_unasked_within (Nat.le_add_left _ _) TS n_enumerate G_is_asked_of F_is_asked_of.kp b_is_asked_of m_is_asked_of ih F_unasked_within.kp b_unasked_within m_unasked_within
  have G_linit := ok_linit D_linit TS TL n_len n_tuple n_range n_enumerate (G_span_of 25) F_span_of.kp b_span_of m_span_of G_spans_within F_spans_within.kp b_spans_within m_spans_within G_is_guard F_is_guard.kp b_is_guard m_is_guard G_step_of F_step_of.kp b_step_of m_step_of G_relations F_relations.kp b_relations m_relations n_sum (G_unasked_within 25) F_unasked_within.kp b_unasked_within m_unasked_within
  have G_tinit := ok_tinit D_tinit TT m_Task c_NODES c_DEPTH n_len n_max n_tuple G_nodes_of F_nodes_of.kp b_nodes_of m_nodes_of G_are_points F_are_points.kp b_are_points m_are_points mkr_Layout m_Layout G_linit b_linit
  have G_topen := ok_topen (CF := He.ga K "Function") (CB := He.ga K "Book") (CS := He.ga K "Span") (CL := He.ga K "Layout") F_topen TT G_is_open F_is_open.kp b_is_open m_is_open
  have G__law_take := ok_take (P := P0) (w := w) (mg := mg) (base := base) F__law_take n_int
  have G__law_bag := ok_bag (P := P0) (w := w) (mg := mg) (base := base) F__law_bag n_int n_abs n_len
  have G__law_of := ok_of F__law_of G__law_take F__law_take.kp b__law_take m__law_take n_len
  have G__law_some := ok_some F__law_some G__law_take F__law_take.kp b__law_take m__law_take n_tuple n_sorted
  have G__law_kit := ok_kit F__law_kit G__law_take F__law_take.kp b__law_take m__law_take G__law_of F__law_of.kp b__law_of m__law_of G__law_some F__law_some.kp b__law_some m__law_some
  have G__law_book := ok_lbook F__law_book TF mkr_Function m_Function mkr_Book m_Book n_len G_finit k_finit G_binit
  have G__law_leaf := ok_leaf F__law_leaf G__law_take F__law_take.kp b__law_take m__law_take G__law_of F__law_of.kp b__law_of m__law_of
  have G__law_expr : ∀ N, FnOk P0 w K mg base CX0 (3 + 2 * N) (He.ga K "_law_expr") fd__law_expr ["_law_bag_here", "_law_kit_here", "_law_left", "_law_depth"] (spExpr N) := by
    intro N
    induction N with
    | zero => exact expr_none rfl
    | succ n ih => exact ok_expr F__law_expr (Nat.le_add_right _ _) n_range n_tuple G__law_take F__law_take.kp b__law_take m__law_take G__law_of F__law_of.kp b__law_of m__law_of G__law_leaf F__law_leaf.kp b__law_leaf m__law_leaf ih F__law_expr.kp b__law_expr m__law_expr (ok_guard F__law_guard (Nat.le_trans (by decide) (Nat.le_add_right 3 _)) G__law_of F__law_of.kp b__law_of m__law_of ih F__law_expr.kp b__law_expr m__law_expr) F__law_guard.kp b__law_guard m__law_guard
  have G__law_root := ok_root F__law_root G__law_take F__law_take.kp b__law_take m__law_take G__law_of F__law_of.kp b__law_of m__law_of (G__law_expr 5) F__law_expr.kp b__law_expr m__law_expr
  have G__law_operands := ok_operands (P := P0) (w := w) (mg := mg) (base := base) F__law_operands n_int n_isinstance
  have G__law_nodes : ∀ N, FnOk P0 w K mg base CX0 (1 + N) (He.ga K "_law_nodes") fd__law_nodes ["_law_node", "_law_path"] (spNodes N) := by
    intro N
    induction N with
    | zero => exact fn_none (no_nodes rfl)
    | succ n ih => exact ok_nodes F__law_nodes (Nat.le_add_right _ _) n_enumerate G__law_operands F__law_operands.kp b__law_operands m__law_operands ih F__law_nodes.kp b__law_nodes m__law_nodes
  have G__law_open := ok_open F__law_open (by decide) n_int n_isinstance n_len n_sorted (G__law_nodes 80) F__law_nodes.kp b__law_nodes m__law_nodes
  have G__law_points := ok_points F__law_points (by decide) n_tuple G__law_take F__law_take.kp b__law_take m__law_take G__law_open F__law_open.kp b__law_open m__law_open
  have G_copied : ∀ N, FnOk P0 w K mg base CX0 N (He.ga K "copied") fd_copied ["value"] (spCopied K N) := by
    intro N
    induction N with
    | zero => exact fn_none (no_copied rfl)
    | succ n ih => exact ok_copied F_copied n_list n_tuple n_isinstance ih F_copied.kp b_copied m_copied
  have G_isD := ok_isD (P := P0) (w := w) (mg := mg) (base := base) F_is_integer n_int n_bool n_isinstance
  have G_NoNode := ok_nonode F_NoNode X_NoNode.T S_NoNode X_NoNode.free (G_copied 4) F_copied.kp b_copied m_copied
  have G_nodeatX := ok_nodeatX F_node_at n_tuple n_isinstance n_len G_isD F_is_integer.kp b_is_integer m_is_integer G_operands F_operands.kp b_operands m_operands
  have G_tnodes := ok_tnodes (P := P0) (w := w) (mg := mg) (base := base) (CF := He.ga K "Function") (CB := He.ga K "Book") (CS := He.ga K "Span") (CL := He.ga K "Layout") F_tnodes TT
  have G_tnode := ok_tnode (CF := He.ga K "Function") (CB := He.ga K "Book") (CS := He.ga K "Span") (CL := He.ga K "Layout") F_tnode TT G_nodeatX F_node_at.kp b_node_at m_node_at X_NoNode.T X_NoNode.iN X_NoNode.tN G_NoNode b_NoNode m_NoNode (by decide)
  have G__law_asked := ok_asked4 F__law_asked TT n_isinstance n_LookupError n_KeyError n_IndexError me_Task_node G_tnode b_tnode m_NoNode C_NoNode.ex C_NoNode.xc C_NoNode.xf no_NoNode_path kit_NoNode_LookupError kit_NoNode_KeyError kit_NoNode_IndexError
  have G__law_values := ok_values F__law_values n_range n_len n_list G__law_take F__law_take.kp b__law_take m__law_take
  exact ok_law F_law TT n_range n_max n_min n_len n_repr G__law_bag F__law_bag.kp b__law_bag m__law_bag G__law_take F__law_take.kp b__law_take m__law_take G__law_kit F__law_kit.kp b__law_kit m__law_kit G__law_root F__law_root.kp b__law_root m__law_root G__law_points F__law_points.kp b__law_points m__law_points G__law_open F__law_open.kp b__law_open m__law_open G__law_book F__law_book.kp b__law_book m__law_book (G__law_nodes 7) F__law_nodes.kp b__law_nodes m__law_nodes G__law_values F__law_values.kp b__law_values m__law_values (G__law_asked.up (by decide)) F__law_asked.kp b__law_asked m__law_asked mkr_Task m_Task G_tinit k_tinit b0 r0 pt0 me_Task_nodes G_tnodes b_tnodes me_Task_open_nodes G_topen b_topen
end
end Oo
namespace Oo
open PySem L2 PyProof.Rows LamX StX ClX
theorem law_at {P : Program} {w : World} {mg : Str → Option Value} {h : Heap} {fa : Addr} (Y : Oh.hk.says w h) (G : h.Ns mainGlobals mg) (hmg : mg "law" = some (.ref fa)) : ∃ K : PySem.W.Frag, K.In h ∧ LawAtG PySem.Challenge.rw_ordersopen_k04_nodes_and_paths w K 84 63 "_law_script" mg fa h := by
  obtain ⟨K, X, c⟩ := Y
  obtain ⟨fd, D⟩ := c.def_ 42 (d := Oh.dG "law" 77) rfl
  have F : Fun K "law" "law" sLaw (He.ga K "law") fd := He5.fun_of D
  have e := hmg.symm.trans (He.glo_ok X G (c.fact 52 (f := Oh.faF (.glo "law")) rfl))
  cases e
  refine ⟨K, X, fd, [He.cT K ("Book", some "__init__")], spLaw K [((He.cT K ("Book", some "__init__")).2, ("Book.__init__" : Str) ++ ".<locals>." ++ "<lambda>")], ?_, ?_, ?_, ?_⟩
  · intro p hp
    rw [List.mem_singleton.mp hp]
    exact ⟨c.empty _ List.mem_cons_self, c.out _ List.mem_cons_self, PySem.W.codeHd_of_K X (c.hd _ List.mem_cons_self)⟩
  · intro s u
    exact FunD.bindsA (ps := ["_law_script"]) D (fun _ _ _ _ _ _ us hl => match us, hl with | [_], _ => rfl) s [u] rfl
  · intro H a ns hl hT hS
    exact ⟨a, ns, rfl, hS, hl, fun q hq => by rw [List.mem_singleton.mp hq]; exact LamX.TabS.nil (hT _ List.mem_cons_self), fun H' => rfl⟩
  · intro base hb hns hTB
    exact all_ok X G c (hTB _ List.mem_cons_self) F
end Oo
open PySem PySem.W PySem.Calls PyProof.Rows
theorem PySem.Challenge.cw_ordersopen_k04_nodes_and_paths_holds : PySem.Challenge.rw_ordersopen_k04_nodes_and_paths.Holds := by
  w_on; o_law
  refine HandSHeadRun.head_any (r := OpenLaw.row PySem.Challenge.rw_ordersopen_k04_nodes_and_paths) (q := view (OpenLaw.row PySem.Challenge.rw_ordersopen_k04_nodes_and_paths).prog [77]) (H := Oh.hk) (ob := Oh.ob) (M := 9000) (loose := Oh.names) (d := HandSHeadRun.topDef (OpenLaw.row PySem.Challenge.rw_ordersopen_k04_nodes_and_paths).prog 77) (kwd := []) Oh.ob_eq
    (by kernel_rfl) (fun s => by kernel_rfl) Oh.run (by kernel_rfl) (by kernel_rfl) (by kernel_rfl) (by rfl) (by first | assumption | decide +kernel) (by decide +kernel) ⟨rfl, rfl, rfl, rfl, rfl, by decide +kernel⟩ ?hw ?hc
  case hw => w_witness2
  case hc =>
    refine Oo.walkG (l := PySem.Challenge.rw_ordersopen_k04_nodes_and_paths) (n := 63) (k := 84) (x := "_law_script") rfl (by decide) (by kernel_rfl) ⟨rfl, by decide, by decide⟩ ?F
    intro w mg fa h Y G hmg0
    have hmg : mg ("law" : PySem.Str) = some (.ref fa) := by
      have e : (HandSHeadRun.topDef (OpenLaw.row PySem.Challenge.rw_ordersopen_k04_nodes_and_paths).prog 77).name = ("law" : PySem.Str) := by kernel_rfl
      rw [← e]
      exact hmg0
    exact Oo.law_at (P := (PySem.Challenge.rw_ordersopen_k04_nodes_and_paths).prog) Y G hmg
