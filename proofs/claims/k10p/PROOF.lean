import PyProof.Rows.All
import Wide.All
import OpenK.AllK
import Wide.FinOn
import HandS.ForMost
import HandS.Wide
import HandS.Conv
import HandS.Flow
import HandS.Steps
import HandS.FStr
import HandS.Defaults
import HandS.MakeKwOnly
import HandS.Star
import HandS.Property
import HandS.IsInst
import HandS.Codes
import HandS.Head0
import HandS.Head1
import HandS.Head2
import HandS.HeadHook1
import HandS.HeadHook2
import HandS.HeadHook3
import HandS.HeadHook4
import HandS.HeadNt
import HandS.HeadWalk
import KE.GoesEnum
import HandS.Walk
import HandS.TupAny
import HandS.Zip
import HandS.Style
import HandS.Lambda
import PySem.Challenge.RW_ordersopen_k10_terms_shown
set_option Elab.async false
set_option linter.all false
set_option maxRecDepth 100000
set_option maxHeartbeats 0
namespace Oo
open PySem L2
def top (i : Nat) : Stmt := PySem.Challenge.pw_ordersopen_k10_terms_shown.main.body.getD i (.Pass ⟨0, 0, 0, 0⟩)
abbrev sBag : Stmt := top 7
abbrev sTake : Stmt := top 8
abbrev sOf : Stmt := top 9
abbrev sSome : Stmt := top 9999
/-! ### the bag of draws -/
/-- at a stands a bag from which at most n draws were made -/
def BagAt (H : Hp) (a : Addr) (n : Nat) : Prop := ∃ d x c : Int, H a = some (.lst [.int d, .int x, .int c]) ∧ 0 ≤ d ∧ 0 ≤ x ∧ x < 2 ^ 61 ∧ 0 ≤ c ∧ c ≤ (n : Int)
/-- all but what stands at a is as it was -/
def Kp (a : Addr) (H H' : Hp) : Prop := ∀ b o, b ≠ a → H b = some o → H' b = some o
theorem Kp.refl (a : Addr) (H : Hp) : Kp a H H := fun _ _ _ h => h
theorem Kp.trans {a : Addr} {H H1 H2 : Hp} (x : Kp a H H1) (y : Kp a H1 H2) : Kp a H H2 := fun b o n h => y b o n (x b o n h)
theorem Kp.upd {a : Addr} {H : Hp} (o : HO) : Kp a H (upd H a o) := fun b u n h => by rw [upd_ne n]; exact h
theorem Kp.new {a p : Addr} {H : Hp} {o : HO} (h : H p = none) : Kp a H (L2.upd H p o) := fun b u n e => by rw [upd_ne (ne_of_none e h)]; exact e
theorem BagAt.mono {H : Hp} {a : Addr} {n m : Nat} (b : BagAt H a n) (h : n ≤ m) : BagAt H a m := by
  obtain ⟨d, x, c, e, h1, h2, h3, h4, h5⟩ := b
  exact ⟨d, x, c, e, h1, h2, h3, h4, by omega⟩
theorem BagAt.new {H : Hp} {a p : Addr} {o : HO} {n : Nat} (b : BagAt H a n) (h : H p = none) : BagAt (upd H p o) a n := by
  obtain ⟨d, x, c, e, r⟩ := b
  exact ⟨d, x, c, by rw [upd_ne (ne_of_none e h)]; exact e, r⟩
def spTake : Sp := fun vs H Q _ => ∃ (a : Addr) (m : Int) (n : Nat), vs = [.ref a, .int m] ∧ BagAt H a n ∧ n < 1000000 ∧ 0 < m ∧ m < 1073741824 ∧
  ∀ (r : Int) (H' : Hp), 0 ≤ r → r < m → BagAt H' a (n + 1) → Kp a H H' → Q (.int r) H'
section
variable {P : Program} {w : World} {K : PySem.W.Frag} {mg : Str → Option Value} {base : Heap}
theorem scTake : FnScope ["_law_bag_here", "_law_many", "_law_digit", "_law_mixed"] ["_law_bag_here", "_law_many"] (defScope sTake) := ⟨rfl, rfl, rfl, by decide +kernel, rfl, by decide +kernel, by decide +kernel⟩
theorem ok_take {f : Addr} {fd : FuncData} (F : Fun K "_law_take" "_law_take" sTake f fd) (mi : mg "int" = none) : FnOk P w K mg base CX0 1 f fd ["_law_bag_here", "_law_many"] spTake := by
  refine F.ok scTake (fun vs H Q E h => ?_) (fun cdv A outer s H vs Q E hr h => ?_)
  · obtain ⟨a, m, n, rfl, _⟩ := h
    rfl
  obtain ⟨a, m, n, rfl, ⟨d, x, c, e, hd, hx0, hx1, hc0, hc1⟩, hn, hm0, hm1, k⟩ := h
  refine ⟨_, pss_cons (ps_if (pt_cmpR op_gt (pe_ix ix_list (pv 0) pe_int (fun _ _ => rfl)) pe_int (nomark _))
      (pss_cons (ps_set (i := 2) scTake.nd rfl (.inl rfl) (pe_op op_mod (pe_callTy call_int1 (by rfl) mi PyProof.Rows.boot_int (pa_cons (pe_ix ix_list (pv 0) pe_int (fun _ _ => rfl)) pa_nil)) (pv 1)))
        (pss_cons (ps_asg (pe_op op_fdiv (pe_ix ix_list (pv 0) pe_int (fun _ _ => rfl)) (pv 1)) (pg_sub (pv 0) pe_int set_list))
        (pss_one (ps_ret (pv 2))))) pss_nil)
    (pss_cons (ps_asg (pe_op op_add (pe_ix ix_list (pv 0) pe_int (fun _ _ => rfl)) pe_int) (pg_sub (pv 0) pe_int set_list))
    (pss_cons (ps_set (i := 3) scTake.nd rfl (.inl rfl) (pe_op op_mod (pe_op op_pow (pe_callTy call_int1 (by rfl) mi PyProof.Rows.boot_int (pa_cons (pe_op op_add (pe_ix ix_list (pv 0) pe_int (fun _ _ => rfl)) (pe_op op_mul pe_int (pe_ix ix_list (pv 0) pe_int (fun _ _ => rfl)))) pa_nil)) pe_int) pe_int))
    (pss_cons (ps_set (i := 3) scTake.nd rfl (.inl rfl) (pe_op op_mod (pe_op op_pow (pe_callTy call_int1 (by rfl) mi PyProof.Rows.boot_int (pa_cons (pe_op op_add (pv 3) (pe_op op_mul pe_int (pe_ix ix_list (pv 0) pe_int (fun _ _ => rfl)))) pa_nil)) pe_int) pe_int))
    (pss_one (ps_ret (pe_op op_mod (pe_op op_fdiv (pv 3) pe_int) (pv 1))))))), ?_⟩
  have i0 : atI [V.int d, V.int x, V.int c] 0 = some (.int d) := rfl
  refine ⟨_, rfl, a, _, _, _, rfl, rfl, SqL.of e, i0, _, _, rfl, rfl, _, rfl, ?_⟩
  refine ite2 (fun z => ?_) (fun z => ?_)
  · have z' : (0 : Int) < d := of_decide_eq_true z
    refine ⟨_, rfl, a, _, _, _, rfl, rfl, SqL.of e, i0, .inl ⟨_, rfl, _, rfl, _, _, rfl, rfl, hm0, ?_⟩⟩
    refine ⟨_, rfl, a, _, _, _, rfl, rfl, SqL.of e, i0, _, rfl, _, _, rfl, rfl, ⟨hm0, hm1⟩, _, rfl, a, _, _, 0, rfl, rfl, e, rfl, ?_⟩
    refine ⟨_, rfl, ?_⟩
    refine k _ _ (Int.emod_nonneg _ (by omega)) (Int.emod_lt_of_pos _ hm0) ⟨d / m, x, c, upd_same, Int.ediv_nonneg hd (by omega), hx0, hx1, hc0, by omega⟩ (Kp.upd _)
  · refine ⟨_, rfl, a, _, _, _, rfl, rfl, SqL.of e, (rfl : atI [V.int d, V.int x, V.int c] 2 = some (.int c)), _, _, rfl, rfl, _, rfl, a, _, _, 2, rfl, rfl, e, rfl, ?_⟩
    have e2 : (upd H a (.lst ([V.int d, V.int x, V.int c].set 2 (.int (c + 1))))) a = some (.lst [.int d, .int x, .int (c + 1)]) := upd_same
    refine ⟨_, rfl, a, _, _, _, rfl, rfl, SqL.of e2, (rfl : atI [V.int d, V.int x, V.int (c + 1)] 1 = some (.int x)), _, rfl, a, _, _, _, rfl, rfl, SqL.of e2, (rfl : atI [V.int d, V.int x, V.int (c + 1)] 2 = some (.int (c + 1))), ?_⟩
    refine ⟨_, _, rfl, rfl, .inl (by decide), _, _, rfl, rfl, .inl ⟨_, rfl, _, _, rfl, rfl, ⟨by decide, by decide, by omega⟩, _, _, rfl, rfl, (by show (0 : Int) < _; decide), ?_⟩⟩
    have b1 := Int.emod_nonneg ((x + 2654435761 * (c + 1)) ^ (3 : Int).toNat) (show (2305843009213693921 : Int) ≠ 0 by decide)
    have b2 := Int.emod_lt_of_pos ((x + 2654435761 * (c + 1)) ^ (3 : Int).toNat) (show (0 : Int) < 2305843009213693921 by decide)
    generalize ((x + 2654435761 * (c + 1)) ^ (3 : Int).toNat) % 2305843009213693921 = y at b1 b2 ⊢
    refine ⟨_, rfl, _, rfl, a, _, _, _, rfl, rfl, SqL.of e2, (rfl : atI [V.int d, V.int x, V.int (c + 1)] 2 = some (.int (c + 1))), ?_⟩
    refine ⟨_, _, rfl, rfl, .inl (by decide), _, _, rfl, rfl, .inl ⟨_, rfl, _, _, rfl, rfl, ⟨by decide, by decide, by omega⟩, _, _, rfl, rfl, (by show (0 : Int) < _; decide), ?_⟩⟩
    refine ⟨_, rfl, _, _, rfl, rfl, ⟨by decide, by decide⟩, _, rfl, _, _, rfl, rfl, hm0, ?_⟩
    exact k _ _ (Int.emod_nonneg _ (by omega)) (Int.emod_lt_of_pos _ hm0) ⟨d, x, c + 1, e2, hd, hx0, hx1, by omega, by push_cast; omega⟩ (Kp.upd _)
end
end Oo
/-! the head: what stands behind the top, read by one hook -/
namespace Oh
open PySem PySem.Spec PyProof.Rows L2 He
abbrev Fct : Type := PySem.W.Frag → Bool
abbrev AlO : Type := (List He5.FnW × List (Option (List (Option (Str × Int))))) × Bool
def rf (g : Addr → Option Obj) (as : List Addr) : List Addr := as.flatMap fun a => match g a with
  | some o => refsD o
  | none => []
def clsNs (g : Addr → Option Obj) (as : List Addr) : List Addr := as.filterMap fun a => match g a with
  | some ⟨_, _, .cls cd, _⟩ => some cd.ns
  | _ => none
def fnsOf (g : Addr → Option Obj) (as : List Addr) : List Addr := as.filter fun a => match g a with
  | some ⟨_, _, .func _, _⟩ => true
  | _ => false
/-- what the end looks at: the module's names, what they name, methods, their code objects -/
def as4 (g : Addr → Option Obj) (l1 l2 l3 l4 : List Addr) : List Addr := mainGlobals :: cStatics :: (l1 ++ (l2 ++ (l3 ++ (l4 ++ rf g (fnsOf g l4)))))
def as3 (g : Addr → Option Obj) (l1 l2 l3 : List Addr) : List Addr := as4 g l1 l2 l3 (rf g l3)
def as1 (g : Addr → Option Obj) (l1 : List Addr) : List Addr := as3 g l1 (rf g l1) (rf g (clsNs g l1))
def asF (g : Addr → Option Obj) : List Addr := as1 g (rf g [mainGlobals])
def obsO (fn : List He5.DefA) (ts : List Tab) (tf : List Defn) (fc : List Fct) (g : Addr → Option Obj) : AlO :=
  ((fn.map (fun d => He5.fnA (frT g (asF g)) (d.at_ (frT g (asF g)))), ts.map fun t => dicW (frT g (asF g)) (t.1 (frT g (asF g)))),
    (fn.all fun d => d.ok (frT g (asF g))) && ((fc.all fun f => f (frT g (asF g))) && tabsB g tf (frT g (asF g))))
def valO (fn : List He5.DefA) (ts : List Tab) (w : World) : AlO := ((fn.map He5.DefA.val, ts.map fun t => some (keysIn w.params t.2)), true)
structure SaysO (fn : List He5.DefA) (ts : List Tab) (tf : List Defn) (fc : List Fct) (w : World) (h : Heap) (K : PySem.W.Frag) : Prop where
  d : fn.map (fun d => He5.fnA K (d.at_ K)) = fn.map He5.DefA.val
  t : ts.map (fun t => dicW K (t.1 K)) = ts.map fun t => some (keysIn w.params t.2)
  ok : (fn.all fun d => d.ok K) = true
  f : (fc.all fun f => f K) = true
  hd : ∀ p ∈ tf, PySem.W.codeHdIn K (cT K p).1 (cT K p).2 = true
  out : ∀ p ∈ tf, K.lookup (cT K p).2 = none
  empty : ∀ p ∈ tf, h.get? (cT K p).2 = some { cls := .none, data := .fields #[] }
theorem saysO_of {fn : List He5.DefA} {ts : List Tab} {tf : List Defn} {fc : List Fct} {w : World} {h : Heap} (e : obsO fn ts tf fc h.get? = valO fn ts w) : SaysO fn ts tf fc w h (frT h.get? (asF h.get?)) := by
  have e1 : fn.map (fun d => He5.fnA (frT h.get? (asF h.get?)) (d.at_ (frT h.get? (asF h.get?)))) = fn.map He5.DefA.val := congrArg (fun z : AlO => z.1.1) e
  have e2 : ts.map (fun t => dicW (frT h.get? (asF h.get?)) (t.1 (frT h.get? (asF h.get?)))) = ts.map fun t => some (keysIn w.params t.2) := congrArg (fun z : AlO => z.1.2) e
  have e3 : ((fn.all fun d => d.ok (frT h.get? (asF h.get?))) && ((fc.all fun f => f (frT h.get? (asF h.get?))) && tabsB h.get? tf (frT h.get? (asF h.get?)))) = true := congrArg (fun z : AlO => z.2) e
  obtain ⟨h1, e4⟩ := ba e3
  obtain ⟨h2, h3⟩ := ba e4
  have key : ∀ p ∈ tf, PySem.W.codeHdIn (frT h.get? (asF h.get?)) (cT (frT h.get? (asF h.get?)) p).1 (cT (frT h.get? (asF h.get?)) p).2 = true ∧ ∃ o, h.get? (cT (frT h.get? (asF h.get?)) p).2 = some o ∧ emptyTab o = true := fun p hp => by
    obtain ⟨k1, k2⟩ := ba (List.all_eq_true.mp h3 p hp)
    refine ⟨k1, ?_⟩
    cases q : h.get? (cT (frT h.get? (asF h.get?)) p).2 with
    | none =>
      rw [q] at k2
      cases k2
    | some o =>
      rw [q] at k2
      exact ⟨o, rfl, k2⟩
  exact ⟨e1, e2, h1, h2, fun p hp => (key p hp).1, fun p hp => by
    obtain ⟨_, o, q, z⟩ := key p hp
    exact frT_none q z, fun p hp => by
    obtain ⟨_, o, q, z⟩ := key p hp
    rw [q, emptyTab_eq z]⟩
def hookO (fn : List He5.DefA) (ts : List Tab) (tf : List Defn) (fc : List Fct) : PySem.W.Hook where
  α := AlO
  obs := fun s => obsO fn ts tf fc s.heap.get?
  val := fun w => valO fn ts w
  says := fun w h => ∃ K : PySem.W.Frag, K.In h ∧ SaysO fn ts tf fc w h K
  of := fun _ _ e => ⟨_, frT_in, saysO_of e⟩
  keeps := fun _ _ _ ⟨K, hK, c⟩ k => ⟨K, PySem.W.Frag.In.keeps hK k, ⟨c.d, c.t, c.ok, c.f, c.hd, c.out, fun p hp => k _ _ (c.empty p hp)⟩⟩
theorem obsO_eq {fn : List He5.DefA} {ts : List Tab} {tf : List Defn} {fc : List Fct} {g : Addr → Option Obj} {s : Shared} (h : ∀ a, g a = s.heap.get? a) : obsO fn ts tf fc g = (hookO fn ts tf fc).obs s := by
  have e : g = s.heap.get? := funext h
  rw [e] <;> rfl
section
variable {fn : List He5.DefA} {ts : List Tab} {tf : List Defn} {fc : List Fct} {w : World} {h : Heap} {K : PySem.W.Frag}
theorem SaysO.fact (c : SaysO fn ts tf fc w h K) (i : Nat) {f : Fct} (e : fc[i]? = some f) : f K = true := List.all_eq_true.mp c.f f (List.mem_of_getElem? e)
theorem SaysO.def_ (c : SaysO fn ts tf fc w h K) (i : Nat) {d : He5.DefA} (e : fn[i]? = some d) : ∃ fd, FunD K d.name d.qual d.params d.body d.scope (d.dvs K) (d.kws K) (d.at_ K) fd := by
  have e2 : (fn.map fun d => He5.fnA K (d.at_ K))[i]? = (fn.map He5.DefA.val)[i]? := by rw [c.d]
  rw [List.getElem?_map, List.getElem?_map, e] at e2
  exact He5.DefA.funD (Option.some.inj e2) (List.all_eq_true.mp c.ok d (List.mem_of_getElem? e))
theorem SaysO.tab (c : SaysO fn ts tf fc w h K) (i : Nat) {t : Tab} (e : ts[i]? = some t) : ∃ es n, KDict K w (t.1 K) es n := by
  have e2 : (ts.map fun t => dicW K (t.1 K))[i]? = (ts.map fun t => some (keysIn w.params t.2))[i]? := by rw [c.t]
  rw [List.getElem?_map, List.getElem?_map, e] at e2
  exact dicW_ok (Option.some.inj e2)
end
/-! ### what is looked at -/
/-- a value of a written dict -/
def vAt (K : PySem.W.Frag) (d : Addr) (x : Str) : Addr := match PySem.W.nsIn K d x with
  | some (some (.ref a)) => a
  | _ => 0
def dValB (d x : Str) (v : PySem.W.Frag → V) : Fct := fun K => match PySem.W.nsIn K (ga K d) x with
  | some (some u) => relB (v K) u
  | _ => false
def dMissB (d x : Str) : Fct := fun K => eqO (PySem.W.nsIn K (ga K d) x) (some none)
def tupAB (a : PySem.W.Frag → Addr) (vs : List V) : Fct := fun K => match K.lookup (a K) with
  | some ⟨.type c, _, .seq its _, _⟩ => decide (c = "tuple") && (decide (its.size ≤ sizeLine) && relAll vs its.toList)
  | _ => false
def readB (C : Str) : Fct := fun K => PySem.W.readsIn K (ga K C) (.type "type") && eqO (PySem.W.specialIn K (.ref (ga K C)) "__getattribute__") (some (some (.builtin "type.__getattribute__")))
def conCB (C f : Str) (v : V) : Fct := fun K => match PySem.W.findCls K (.ref (ga K C)) (.type "type") f with
  | some (.val u) => relB v u
  | _ => false
def isiB (C : Str) : Fct := fun K => eqO (PySem.W.findIn K (.ref (ga K C)) "__class__") (some (some (.builtin "object.__class__"))) && (eqO (PySem.W.specialIn K (.builtin "object.__class__") "__get__") (some (some (.builtin "getset_descriptor.__get__"))) &&
  (decide (PySem.W.takesIn K (.builtin "object.__class__") = some true) && decide (PySem.W.mroIn K (ga K C) (.type "object") = some true)))
def getterOf (K : PySem.W.Frag) (C m : Str) : Addr := match PySem.W.recIn K (ma K (ga K C) m) "property" with
  | some (.ref g :: _) => g
  | _ => 0
def propB (C m : Str) : Fct := fun K => eqO (PySem.W.findIn K (.ref (ga K C)) m) (some (some (.ref (ma K (ga K C) m)))) && (eqO (PySem.W.specialIn K (.ref (ma K (ga K C) m)) "__get__") (some (some (.builtin "property.__get__"))) &&
  (decide (PySem.W.takesIn K (.ref (ma K (ga K C) m)) = some true) && (match PySem.W.recIn K (ma K (ga K C) m) "property" with
    | some (.ref _ :: _) => true
    | _ => false)))
def fnInB (C m : Str) : Fct := fun K => PySem.W.fnIn K (ma K (ga K C) m)
def faF (f : Fa) : Fct := fun K => f.ok K
def fc0 : List Fct := [Oh.faF (.glo "is_integer"), Oh.faF (.glo "show_term"), Oh.faF (.glo "pieces_of"), Oh.faF (.glo "call_pieces"), Oh.faF (.glo "_law_bag"), Oh.faF (.glo "_law_take"), Oh.faF (.glo "_law_of"), Oh.faF (.glo "_law_term"), Oh.faF (.glo "_law_written"), Oh.faF (.glo "_law_bent"), Oh.faF (.glo "law")]
def fc1 : List Fct := [Oh.faF (.free "int"), Oh.faF (.free "bool"), Oh.faF (.free "str"), Oh.faF (.free "len"), Oh.faF (.free "isinstance"), Oh.faF (.free "enumerate"), Oh.faF (.free "abs"), Oh.faF (.free "tuple"), Oh.faF (.free "list"), Oh.faF (.free "range"), Oh.faF (.free "max"), Oh.faF (.free "min"), Oh.faF (.free "zip")]
def fc : List Fct := fc0 ++ fc1
def ts : List Tab := []
def tf : List Defn := []
def dG (x : Str) (i : Nat) : He5.DefA := ⟨fun K => ga K x, x, x, defArgs (Oo.top i), defBody (Oo.top i), defScope (Oo.top i), [], []⟩
def fn : List He5.DefA := [Oh.dG "is_integer" 1, Oh.dG "show_term" 3, Oh.dG "pieces_of" 4, Oh.dG "call_pieces" 5, Oh.dG "_law_bag" 7, Oh.dG "_law_take" 8, Oh.dG "_law_of" 9, Oh.dG "_law_term" 10, Oh.dG "_law_written" 11, Oh.dG "_law_bent" 12, Oh.dG "law" 13]
abbrev R : PySem.W.OpenRow := PySem.W.OpenLaw.row PySem.Challenge.rw_ordersopen_k10_terms_shown
abbrev hk : PySem.W.Hook := hookO fn ts tf fc
def ob (s : PySem.W.SharedT) : AlO := obsO fn ts tf fc (HandSHeadRun.getT s)
theorem ob_eq (s : PySem.W.SharedT) : ob s = hk.obs s.abs := obsO_eq (HandSHeadRun.getT_eq s)
def names : List Str := ["is_integer", "show_term", "pieces_of", "call_pieces", "_law_bag", "_law_take", "_law_of", "_law_term", "_law_written", "_law_bent"]
theorem run_f (w : World) : HandSHeadRun.RunEq R (PySem.W.view R.prog [13]) hk ob 6000 names (w.withFollow "special-get-raises" false) := by
  intro os
  kernel_rfl
theorem run_t (w : World) : HandSHeadRun.RunEq R (PySem.W.view R.prog [13]) hk ob 6000 names (w.withFollow "special-get-raises" true) := by
  intro os
  kernel_rfl
theorem run (w : World) : HandSHeadRun.RunEq R (PySem.W.view R.prog [13]) hk ob 6000 names w := PySem.W.byRow2 "special-get-raises" (P := fun w => HandSHeadRun.RunEq R (PySem.W.view R.prog [13]) hk ob 6000 names w) run_f run_t w
end Oh
namespace Oo
open PySem L2
/-! ### readings in other words -/
theorem pe_as {X : Cx} {e : Expr} {t t' : TE} (h : PE X e t) (i : ∀ σ H Q, t' σ H Q → t σ H Q) : PE X e t' := ⟨fun pins s σ H Q I q => h.run pins s σ H Q I (i σ H Q q)⟩
theorem pt_as {X : Cx} {e : Expr} {t t' : TT} (h : PT X e t) (i : ∀ σ H Q, t' σ H Q → t σ H Q) : PT X e t' := ⟨fun pins s σ H Q I q => h.run pins s σ H Q I (i σ H Q q)⟩
theorem ps_as {X : Cx} {e : Stmt} {t t' : TS} (h : PS X e t) (i : ∀ D σ H, t' D σ H → t D σ H) : PS X e t' := ⟨fun pins s σ H D I q => h.run pins s σ H D I (i D σ H q)⟩
theorem Kp.seqL {K : PySem.W.Frag} {H H' : Hp} {a b : Addr} {xs : List V} (y : Kp a H H') (n : b ≠ a) (h : SqL K H b xs) : SqL K H' b xs := by
  rcases h with (h | ⟨o, h⟩) | h
  · exact .inl (.inl (y b _ n h))
  · exact .inl (.inr ⟨o, y b _ n h⟩)
  · exact .inr h
theorem same_bag {H H' : Hp} {a : Addr} {n : Nat} (s : Same H H') (b : BagAt H a n) : BagAt H' a n := by
  obtain ⟨d, x, c, e, r⟩ := b
  exact ⟨d, x, c, s _ _ e, r⟩
theorem same_kp {H H' : Hp} {a : Addr} (s : Same H H') : Kp a H H' := fun b o _ h => s b o h
theorem same_up {H : Hp} {p : Addr} {o : HO} (h : H p = none) : Same H (upd H p o) := fun b u q => by rw [upd_ne (ne_of_none q h)]; exact q
theorem sz {n : Nat} (h : n ≤ 1000) : n ≤ sizeLine := Nat.le_of_lt (small1000 h)
/-! ### promises -/
def spBag (K : PySem.W.Frag) : Sp := fun vs H Q _ => ∃ (a : Addr) (ns : List Int) (i : Int), vs = [.ref a, .int i] ∧ SqL K H a (ns.map V.int) ∧ ns.length ≤ 63 ∧ 0 ≤ i ∧ i ≤ 10 ∧
  ∀ (p : Addr) (H' : Hp), H p = none → Same H H' → BagAt H' p 0 → Q (.ref p) H'
def spOf (K : PySem.W.Frag) : Sp := fun vs H Q _ => ∃ (a l : Addr) (xs : List V) (n : Nat), vs = [.ref a, .ref l] ∧ BagAt H a n ∧ n < 1000000 ∧ SqL K H l xs ∧ l ≠ a ∧ 0 < xs.length ∧ xs.length ≤ 1000 ∧
  ∀ (v : V) (H' : Hp), v ∈ xs → BagAt H' a (n + 1) → Kp a H H' → Q v H'
section
variable {P : Program} {w : World} {K : PySem.W.Frag} {mg : Str → Option Value} {base : Heap}
theorem scBag : FnScope ["_law_script", "_law_at", "_law_cell", "_law_digits"] ["_law_script", "_law_at"] (defScope sBag) := ⟨rfl, rfl, rfl, by decide +kernel, rfl, by decide +kernel, by decide +kernel⟩
theorem ok_bag {f : Addr} {fd : FuncData} (F : Fun K "_law_bag" "_law_bag" sBag f fd) (mi : mg "int" = none) (ma : mg "abs" = none) (ml : mg "len" = none) : FnOk P w K mg base CX0 1 f fd ["_law_script", "_law_at"] (spBag K) := by
  refine F.ok scBag (fun vs H Q E h => ?_) (fun cdv A outer s H vs Q E hr h => ?_)
  · obtain ⟨a, ns, i, rfl, _⟩ := h
    rfl
  obtain ⟨a, ns, i, rfl, hS, hl, h0, h1, k⟩ := h
  refine ⟨_, pss_cons (ps_set (i := 2) scBag.nd rfl (.inl rfl) (pe_as (t' := fun σ H Q => σ[0]? = some (some (.ref a)) ∧ σ[1]? = some (some (.int i)) ∧ SqL K H a (ns.map V.int) ∧ ∀ c : Int, Q (.int c) H)
        (pe_ifExp (pt_cmpR op_lt (pv 1) (pe_callB call_len_seq (by rfl) ml PySem.boot_len (pa_cons (pv 0) pa_nil)) (nomark _))
        (pe_callTy call_int1 (by rfl) mi PyProof.Rows.boot_int (pa_cons (pe_ix ix_list (pv 0) (pv 1) (fun _ _ => rfl)) pa_nil)) pe_int) ?c1))
    (pss_cons (ps_set (i := 3) scBag.nd rfl (.inl rfl) (pe_as (t' := fun σ H Q => (∃ c : Int, σ[2]? = some (some (.int c))) ∧ ∀ d : Int, 0 ≤ d → Q (.int d) H)
        (pe_ifExp (pt_cmpR op_ge (pe_callB call_abs (by rfl) ma PyProof.Rows.boot_abs (pa_cons (pv 2) pa_nil)) (pe_op op_pow pe_int pe_int) (nomark _))
        (pe_callB call_abs (by rfl) ma PyProof.Rows.boot_abs (pa_cons (pv 2) pa_nil)) pe_int) ?c2))
    (pss_one (ps_ret (pe_lst (pa_cons (pv 3) (pa_cons (pe_op op_mod (pe_op op_mul (pe_callTy call_int1 (by rfl) mi PyProof.Rows.boot_int (pa_cons (pe_op op_add (pe_op op_add (pe_op op_mod (pv 2) pe_int) (pe_op op_mul pe_int (pv 1))) pe_int) pa_nil)) pe_int) pe_int) (pa_cons pe_int pa_nil))))))), ?_⟩
  case c1 =>
    rintro σ H Q ⟨e0, e1, hS, q⟩
    have hlen : (ns.map V.int).length = ns.length := List.length_map _
    refine ⟨_, e1, _, e0, a, _, rfl, .inl hS, _, _, rfl, rfl, _, rfl, ?_⟩
    refine ite2 (fun z => ?_) (fun z => q 0)
    have z' : i < ((ns.map V.int).length : Int) := of_decide_eq_true z
    have hi : i.toNat < ns.length := by omega
    refine ⟨_, e0, _, e1, a, _, _, _, rfl, rfl, hS, at_of (j := i.toNat) (v := V.int ns[i.toNat]) (by omega) (by rw [List.getElem?_map, List.getElem?_eq_getElem hi] <;> rfl), .inl ⟨_, rfl, q _⟩⟩
  case c2 =>
    rintro σ H Q ⟨⟨c, e2⟩, q⟩
    refine ⟨_, e2, _, rfl, _, _, rfl, rfl, ⟨by decide, by decide, by decide⟩, _, _, rfl, rfl, _, rfl, ?_⟩
    refine ite2 (fun z => ?_) (fun z => q 0 (Int.le_refl 0))
    refine ⟨_, e2, _, rfl, q _ ?_⟩
    split <;> omega
  refine ⟨rfl, rfl, hS, fun c => ⟨⟨c, rfl⟩, fun d hd => ?_⟩⟩
  refine ⟨_, rfl, _, rfl, _, _, rfl, rfl, (by show (0 : Int) < 2305843009213693951; decide), _, rfl, _, _, rfl, rfl, .inl (by decide), _, _, rfl, rfl, _, _, rfl, rfl, .inl ⟨_, rfl, _, _, rfl, rfl, .inr (by decide), _, _, rfl, rfl, (by show (0 : Int) < 2305843009213693951; decide), sz (by show 3 ≤ 1000; decide), fun p hp => ?_⟩⟩
  refine k p _ hp (same_up hp) ⟨d, _, 0, upd_same, hd, ?_, ?_, by omega, by omega⟩
  · exact Int.emod_nonneg _ (by decide)
  · exact Int.lt_trans (Int.emod_lt_of_pos _ (show (0 : Int) < 2305843009213693951 by decide)) (by decide)
theorem scOf : FnScope ["_law_bag_here", "_law_items"] ["_law_bag_here", "_law_items"] (defScope sOf) := ⟨rfl, rfl, rfl, by decide +kernel, rfl, by decide +kernel, by decide +kernel⟩
theorem ok_of {f g : Addr} {fd gd : FuncData} (F : Fun K "_law_of" "_law_of" sOf f fd) (G : FnOk P w K mg base CX0 1 g gd ["_law_bag_here", "_law_many"] spTake) (kG : PySem.W.keepIn K (.ref g) = true) (bG : Binds K gd ["_law_bag_here", "_law_many"] []) (mG : mg "_law_take" = some (.ref g)) (ml : mg "len" = none) :
    FnOk P w K mg base CX0 2 f fd ["_law_bag_here", "_law_items"] (spOf K) := by
  refine F.ok scOf (fun vs H Q E h => ?_) (fun cdv A outer s H vs Q E hr h => ?_)
  · obtain ⟨a, l, xs, n, rfl, _⟩ := h
    rfl
  obtain ⟨a, l, xs, n, rfl, hB, hn, hS, hne, h0, h1, k⟩ := h
  refine ⟨_, pss_one (ps_ret (pe_ix ix_list (pv 1) (pe_call G hr rfl mG kG bG .nil pass0 (pa_cons (pv 0) (pa_cons (pe_callB call_len_seq (by rfl) ml PySem.boot_len (pa_cons (pv 1) pa_nil)) pa_nil))) (fun _ _ => rfl))), ?_⟩
  refine ⟨_, rfl, _, rfl, _, rfl, l, _, rfl, .inl hS, a, _, n, rfl, hB, hn, by omega, by omega, fun r H' r0 r1 hB' kp => ?_⟩
  have hr : r.toNat < xs.length := by omega
  exact ⟨l, xs, r, xs[r.toNat], rfl, rfl, kp.seqL hne hS, at_of (j := r.toNat) (by omega) (List.getElem?_eq_getElem hr), k _ H' (List.getElem_mem hr) hB' kp⟩
end
end Oo
/-! enumerate over a tuple -/
namespace Oo
open PySem L2 PyProof.Rows
theorem newMeets {v : Value} {it : Obj} {G : Heap → Prop} (B : Begins v it G) :
    Meets (Builtin.«enumerate.__new__» ⟨[.type "enumerate", v], []⟩) (fun _ R s => G s.heap ∧ R (.ok (.ret (.ref (s.heap.push it).objs.size)))
      { s with heap := (s.heap.push it).push { cls := .type "enumerate", data := .fields #[.none, .bool false, .ref s.heap.objs.size, rawInt 0, .none, .none] } }) :=
  .of_wp fun prog w A R s hh => by
    obtain ⟨hp, g, dr, tk, os⟩ := s
    obtain ⟨gs, hR⟩ := hh
    have hsub := sub_enumerate
    have step : ∀ {A' : Around} {E : Value → Shared → Prop} {Q : Value → Shared → Prop}, Q (.ref hp.objs.size) ⟨hp.push it, g, dr, tk, os⟩ → wpAny (model prog w) A' (pyIter v) Q E ⟨hp, g, dr, tk, os⟩ :=
      fun q => B.iter prog w _ _ ⟨hp, g, dr, tk, os⟩ _ gs q
    wp_walk using step
    refine wpAny_stack_any fun _ => wpAny_pure ?_
    split
    · rename_i c _ _ _ _ _
      cases (c == Value.type "enumerate") <;> (wp_walk using step; exact ⟨_, rfl, hR⟩)
    · wp_walk using step
      exact ⟨_, rfl, hR⟩
section
variable {prog : Program} {w : World} {A : Around} {E : Value → Shared → Prop} {s : Shared}
theorem call_enum1 {v : Value} {it : Obj} {G : Heap → Prop} {Q : Value → Shared → Prop} (B : Begins v it G) (gs : G s.heap)
    (hq : ∀ h', IsEnum h' (s.heap.objs.size + 1) s.heap.objs.size 0 .none → h'.get? s.heap.objs.size = some it → h'.objs.size = s.heap.objs.size + 2 → (∀ b u, s.heap.get? b = some u → h'.get? b = some u) → Q (.ref (s.heap.objs.size + 1)) { s with heap := h' }) :
    wpAny (model prog w) A (call (.type "enumerate") [v]) Q E s := by
  refine callType_new F.called_enumerate (by decide) (F.typeCall_enumerate_1 _) (F.newCall_enumerate_1 _) (fun obj => F.args_object_init_2 obj _) F.entry_enumerate_new (newMeets B) ⟨gs, ?_⟩
  have z : (s.heap.push it).objs.size = s.heap.objs.size + 1 := Heap.size_push ..
  show _ ∧ _
  rw [z]
  have he : IsEnum ((s.heap.push it).push { cls := .type "enumerate", data := .fields #[.none, .bool false, .ref s.heap.objs.size, rawInt 0, .none, .none] }) (s.heap.objs.size + 1) s.heap.objs.size 0 .none := by
    have y := Heap.get?_push_size (s.heap.push it) (o := { cls := .type "enumerate", data := .fields #[.none, .bool false, .ref s.heap.objs.size, rawInt 0, .none, .none] }) rfl
    rw [z] at y
    exact y
  exact ⟨⟨_, he, rfl⟩, hq _ he (Heap.get?_push_of_some _ (Heap.get?_push_size _ B.free)) (by rw [Heap.size_push, z]) fun b u x => Heap.get?_push_of_some _ (Heap.get?_push_of_some _ x)⟩
end
/-- the tuple at a, each item in a new pair with its number -/
def Itu (K : PySem.W.Frag) (a : Addr) : It :=
  ⟨fun i H => ∃ (xs : List V) (x : V), SqT K H a xs ∧ xs[i]? = some x, fun i H v H' => ∃ T x, v = .ref T ∧ H T = none ∧ H' = upd H T (.tup [.int (i : Nat), x]) ∧ ∀ xs, SqT K H a xs → xs[i]? = some x, fun i H => ∃ xs : List V, SqT K H a xs ∧ xs.length = i⟩
theorem turn_enumU {P : Program} {w : World} {K : PySem.W.Frag} {elts : List PySem.Expr} {kk : Nat} {tpos : Pos} (a e it : Addr) :
    Turn P w K (.Tuple elts kk tpos) (Itu K a) [e, it] e (fun i h => (∃ old, IsEnum h e it ((i : Nat) : Int) old) ∧ h.IsTupleIter it a i ∧ e ≠ it ∧ a ≠ it ∧ a ≠ e) where
  mem := by simp
  obj := fun i h st b hb => by
    obtain ⟨⟨old, he⟩, ⟨o, ho, hc, hd⟩, _⟩ := st
    rcases List.mem_cons.mp hb with z | z
    · exact ⟨_, by rw [z]; exact he, fun v q => by cases q⟩
    · exact ⟨o, by rw [List.mem_singleton.mp z]; exact ho, fun v q => by rw [hd] at q; cases q⟩
  keep := fun i h h' st k => let ⟨⟨old, he⟩, hi, hne⟩ := st; ⟨⟨old, k e (by simp) _ he⟩, hi.at fun o q => k it (by simp) o q, hne⟩
  item := by
    intro X hP hw hK hc i pins s σ H E I hf st hg
    subst hP hw hK
    obtain ⟨⟨old, he⟩, hit, hne, hai, hae⟩ := st
    obtain ⟨xs, x, hq, hx⟩ := hg
    obtain ⟨its, rv, p, hz⟩ := I.tuple hq
    obtain ⟨u, hu, ru⟩ := rv.get hx
    have hel : e < s.heap.objs.size := Heap.lt_size he
    have hil : it < s.heap.objs.size := by obtain ⟨_, q, _⟩ := hit; exact Heap.lt_size q
    have pt : s.heap.IsTuple a its.toArray := p
    have hi : i < its.toArray.size := by
      have := (List.getElem?_eq_some_iff.mp hu).1
      simpa using this
    refine wpAny_pyNext_enum_itemD (Draws.tuple (prog := X.prog) (w := X.w) (A := X.A.in1) (show X.A.in1.handled = none from I.ok.hd hc) it a hai its.toArray) he ⟨hit, pt⟩ hi hne (by simp [hne, hae.symm]) fun x' h' tk hx' ho hit' hT hsz hk => ?_
    have ex : x' = u := by
      have h2 : its.toArray[i]? = some x' := hx'
      rw [List.getElem?_toArray, hu] at h2
      exact (Option.some.inj h2).symm
    subst ex
    refine ⟨_, rfl, wpAny_letOwnedTupleGo_enum (s := { s with heap := h', toks := tk + 1 }) ho fun h'' he' sb => ?_⟩
    have hT2 : h''.get? s.heap.objs.size = some { cls := .type "tuple", data := .seq #[.int i tk, x'] } := (sb.2 _ (Nat.ne_of_gt hel)).trans hT
    have new : ObjOk X.prog X.w (upd H s.heap.objs.size (.tup [.int (i : Nat), x])) h'' s.heap.objs.size (.tup [.int (i : Nat), x]) :=
      ⟨by show 2 ≤ sizeLine; decide, [.int i tk, x'], .cons ⟨_, rfl⟩ (.cons ru .nil), ⟨_, hT2, rfl, _, rfl⟩⟩
    have I1 : Inv X pins σ (upd H s.heap.objs.size (.tup [.int (i : Nat), x])) { s with heap := h'', toks := tk + 1 } :=
      I.turnedNew (ch := [e, it]) (fun b ob hb q => (sb.2 b (fun z => hb (by simp [z]))).trans (hk b ob (fun z => hb (by simp [z])) (fun z => hb (by simp [z])) q)) hf (Nat.le_refl _) new
    refine ⟨.ref s.heap.objs.size, _, I1, rfl, ⟨_, x, rfl, I.hok.fresh (Nat.le_refl _), rfl, fun ys hy => by rw [I.tuple_inj hy hq]; exact hx⟩, ⟨⟨x', ?_⟩, hit'.1.at fun o q => (sb.2 it (Ne.symm hne)).trans q, hne, hai, hae⟩, fun b hb => ?_⟩
    · have e1 : ((i + 1 : Nat) : Int) = (i : Int) + 1 := by omega
      rw [e1]; exact he'
    · have hb' : b < s.heap.objs.size := by
        rcases List.mem_cons.mp hb with z | z
        · rw [z]; exact hel
        · rw [List.mem_singleton.mp z]; exact hil
      rw [upd_ne (Nat.ne_of_lt hb')]
      exact (hf b hb).1
  done := by
    intro X hP hw hK hc i pins s σ H E I hf st hg
    subst hP hw hK
    obtain ⟨⟨old, he⟩, hit, hne, hai, hae⟩ := st
    obtain ⟨xs, hq, hx⟩ := hg
    obtain ⟨its, rv, p, hz⟩ := I.tuple hq
    obtain ⟨f0, f1, f2, f3, f4, f5⟩ := hf it (by simp)
    have hl := rv.length
    have pt : s.heap.IsTuple a its.toArray := p
    have hn : i = its.toArray.size := by simp; omega
    refine wpAny_pyNext_enum_endD (Draws.tuple (prog := X.prog) (w := X.w) (A := X.A.in1) (show X.A.in1.handled = none from I.ok.hd hc) it a hai its.toArray) he (by rw [← hn]; exact ⟨hit, pt⟩) fun h' eb => ⟨rfl, I.turned (t' := s.toks) (fun b o hb q => eb b o hb q) f0 f1 f3 f4 f5⟩
  self := fun A i s Q E st h => let ⟨⟨_, he⟩, _⟩ := st; wpAny_pyIter_enum he h
def iEnumU (K : PySem.W.Frag) (ta : TA) : TI := fun σ H R => ta σ H fun vs H1 => ∃ a xs, vs = [.ref a] ∧ SqT K H1 a xs ∧ R (Itu K a) H1
theorem pi_enumT {X : Cx} {e : PySem.Expr} {ta : TA} {p pos tpos : Pos} {elts : List PySem.Expr} {kk : Nat} (hg : Gl X "enumerate") (hm : X.mg "enumerate" = none) (ha : PA X [e] ta) (hs : starEach [e] X.env = [(false, eval e X.env)] := by rfl) :
    PI X (.Tuple elts kk tpos) (.Call (.Name "enumerate" p) [e] [] pos) (iEnumU X.K ta) := by
  refine ⟨fun pins s σ H R I h => Call_ (ld_blt I hg hm boot_enumerate (PyProof.Rows.callWith_type1 (thn (ha.run pos pins s σ H _ I h) fun us s1 hq => ?_) hs rfl))⟩
  obtain ⟨vs, H1, I1, r1, a, xs, ex, hq, q⟩ := hq
  subst ex
  cases r1 with
  | cons r rr =>
    cases rr
    cases r
    obtain ⟨its, rv, p', hz⟩ := I1.tuple hq
    have pt : s1.heap.IsTuple a its.toArray := p'
    have hla : a < s1.heap.objs.size := by obtain ⟨_, y, _⟩ := pt; exact Heap.lt_size y
    refine call_enum1 (begins_tuple a its.toArray) pt fun h' he hit hsz hk => wpAny_pyIter_enum he ?_
    have I2 : Inv X pins σ H1 { s1 with heap := h' } := I1.kept (t' := s1.toks) hk
    refine ⟨s1.heap.objs.size + 1, [s1.heap.objs.size + 1, s1.heap.objs.size], _, _, H1, rfl, I2, turn_enumU a (s1.heap.objs.size + 1) s1.heap.objs.size, ⟨⟨.none, he⟩, ⟨_, hit, rfl, rfl⟩, Nat.succ_ne_self _, Nat.ne_of_lt hla, Nat.ne_of_lt (Nat.lt_succ_of_lt hla)⟩, fun b hb => ?_, q⟩
    have hle : s1.heap.objs.size ≤ b := by
      rcases List.mem_cons.mp hb with z | z
      · rw [z]; exact Nat.le_succ _
      · rw [List.mem_singleton.mp z]; exact Nat.le_refl _
    exact I1.fpOk hle (I1.hok.fresh hle)
theorem walk_enumU {K : PySem.W.Frag} {a : Addr} {xs : List V} : Walk (Itu K a) xs.length (fun H => SqT K H a xs) (YPair (fun i => some (.int (i : Nat))) (fun i => xs[i]?)) :=
  ⟨fun i _ hi q => ⟨xs, xs[i], q, by simp [hi]⟩, fun _ q => ⟨xs, q, rfl⟩, fun i H x H' _ q y => by
    obtain ⟨T, x', e1, e2, e3, e4⟩ := y
    exact ⟨T, _, x', e1, e2, e3, rfl, e4 xs q⟩⟩
end Oo
namespace Oo
open PySem L2 PyProof.Rows
theorem take_succ_get {α : Type} (xs : List α) (i : Nat) (h : i < xs.length) : xs.take (i + 1) = xs.take i ++ [xs[i]] := by
  rw [List.take_succ, List.getElem?_eq_getElem h]
  rfl

theorem yes_i {σ : L2.St} {H : Hp} {F G : Hp → Prop} (h : F H) : tYes σ H (fun b H' => if b = true then F H' else G H') := @iteT (F H) (G H) h

theorem paired_mem {α β : Type} {F : α → β → Prop} : ∀ {xs : List α} {ys : List β} {x : α}, Paired F xs ys → x ∈ xs → ∃ y, y ∈ ys ∧ F x y
  | _, _, _, .nil, h => by cases h
  | _, _, x, .cons f t, h => by
    rcases List.mem_cons.mp h with e | h
    · rw [e]; exact ⟨_, List.mem_cons_self, f⟩
    · obtain ⟨y, h1, h2⟩ := paired_mem t h
      exact ⟨y, List.mem_cons_of_mem _ h1, h2⟩

theorem at0 (x : V) (tl : List V) : atI (x :: tl) 0 = some x := at_of (j := 0) rfl rfl
theorem cut1 (a : V) (r : List V) : cutV (a :: r) (some 1) none = r := by
  unfold cutV
  simp [HT.sIx]
theorem cut2 (a b : V) (r : List V) : cutV (a :: b :: r) (some 2) none = r := by
  unfold cutV
  simp [HT.sIx]

theorem same_t {H H' : Hp} (s : Same H H') : ∀ q xs, H q = some (.tup xs) → H' q = some (.tup xs) := fun q xs z => s _ _ z
theorem paired_append {α β : Type} {F : α → β → Prop} : ∀ {a : List α} {b : List β} {c : List α} {d : List β}, Paired F a b → Paired F c d → Paired F (a ++ c) (b ++ d)
  | _, _, _, _, .nil, y => y
  | _, _, _, _, .cons f t, y => .cons f (paired_append t y)

theorem paired_get {α β : Type} {F : α → β → Prop} : ∀ {xs : List α} {ys : List β} {i : Nat} {x : α}, Paired F xs ys → xs[i]? = some x → ∃ y, ys[i]? = some y ∧ F x y
  | _, _, i, x, .nil, h => by simp at h
  | _, _, 0, x, .cons f t, h => by
    have : _ = x := Option.some.inj h
    exact ⟨_, rfl, this ▸ f⟩
  | _, _, i + 1, x, .cons f t, h => by
    obtain ⟨y, h1, h2⟩ := paired_get (i := i) t (by simpa using h)
    exact ⟨y, by simpa using h1, h2⟩

theorem paired_snoc_inv {α β : Type} {F : α → β → Prop} : ∀ {ys : List β} {y : β} {xs : List α}, Paired F xs (ys ++ [y]) → ∃ xs' x, xs = xs' ++ [x] ∧ Paired F xs' ys ∧ F x y
  | [], y, _, .cons f .nil => ⟨[], _, rfl, .nil, f⟩
  | z :: ys, y, _, .cons f t => by
    obtain ⟨xs', x, e, p, g⟩ := paired_snoc_inv (ys := ys) t
    exact ⟨_ :: xs', x, by rw [e]; rfl, .cons f p, g⟩
theorem paired_reverse {α β : Type} {F : α → β → Prop} : ∀ {xs : List α} {ys : List β}, Paired F xs ys → Paired F xs.reverse ys.reverse
  | _, _, .nil => .nil
  | _, _, .cons f t => by
    rw [List.reverse_cons, List.reverse_cons]
    exact paired_append (paired_reverse t) (.cons f .nil)

theorem at1 (x y : V) (tl : List V) : atI (x :: y :: tl) 1 = some y := at_of (j := 1) rfl rfl

theorem at_nat {xs : List V} {i : Nat} {y : V} (h : xs[i]? = some y) : atI xs (i : Int) = some y := at_of (j := i) (by first | rfl | omega) h

theorem iteNo {c A B : Prop} [Decidable c] (hc : ¬ c) (h : B) : if (decide c) = true then A else B := by
  rw [decide_eq_false hc]
  exact iteF h
theorem iteYes {c A B : Prop} [Decidable c] (hc : c) (h : A) : if (decide c) = true then A else B := by
  rw [decide_eq_true hc]
  exact iteT h
theorem sz2 {n : Nat} (h : n ≤ 100000) : n ≤ sizeLine := by rw [sizeLine_eq]; omega
theorem log_small {n : Int} (h0 : 0 ≤ n) (h1 : n ≤ 999999) : n.natAbs.log2 < 1920 := by
  by_cases h : n.natAbs = 0
  · rw [h]; decide
  · have : n.natAbs.log2 < 20 := (Nat.log2_lt h).mpr (by omega)
    omega

theorem slice_any {K : PySem.W.Frag} {H : Hp} {a : Addr} {xs : List V} {lo hi : Option Int} {Q : VK} (h : H a = some (.tup xs)) (k : ∀ t H', H' t = some (.tup (cutV xs lo hi)) → Same H H' → Q (.ref t) H') : rSlA K (.ref a) lo hi H Q := by
  refine ⟨a, xs, rfl, SqT.of h, fun hw => ?_, fun _ p np => k p _ upd_same (same_up np)⟩
  refine k a H ?_ (Same.refl _)
  rw [h]
  unfold cutV
  rw [hw.1, hw.2, List.drop_zero, Nat.sub_zero, List.take_length]

theorem cat_any {K : PySem.W.Frag} {H : Hp} {a b : Addr} {xs ys : List V} {Q : VK} (ha : H a = some (.tup xs)) (hb : H b = some (.tup ys)) (hl : xs.length + ys.length ≤ 1000) (k : ∀ t H', H' t = some (.tup (xs ++ ys)) → Same H H' → Q (.ref t) H') : rCatA K (.ref a) (.ref b) H Q := by
  refine ⟨a, b, xs, ys, rfl, rfl, SqT.of ha, SqT.of hb, sz hl, fun z => ?_, fun _ z => ?_, fun _ _ p np => k p _ upd_same (same_up np)⟩
  · subst z
    exact k b H (by rw [hb, List.nil_append]) (Same.refl _)
  · subst z
    exact k a H (by rw [ha, List.append_nil]) (Same.refl _)

def okName (x : Str) : Bool := decide (1 ≤ x.length) && decide (x.length ≤ 8) && x.cps.toList.all fun c => decide (97 ≤ c) && decide (c ≤ 122)

theorem okName_str {x : Str} (h : okName x = true) : PyData.strOk x = true := by
  unfold okName at h
  rw [Bool.and_eq_true] at h
  have h2 := h.2
  unfold PyData.strOk
  rw [Array.all_eq_true']
  rw [List.all_eq_true] at h2
  intro c hc
  have := h2 c (Array.mem_toList_iff.mpr hc)
  simp only [Bool.and_eq_true, decide_eq_true_eq] at this
  exact decide_eq_true (by omega)

end Oo
namespace Oo
open PySem L2 PyProof.Rows
/-! terms -/
inductive Tk where
  | fst (x : Str) | op (s : Str) | val (f : Str) | lef (f x : Str)
inductive Tm where
  | num (n : Nat) | nd (k : Tk) (ts : List Tm)
def tsigns : List Str := ["+", "-", "*", "<"]
def NodeT (H : Hp) (p : Addr) : Tk → List V → Prop
  | .fst x, _ => H p = some (.tup [.str "first", .str x])
  | .op s, vs => H p = some (.tup (.str s :: vs))
  | .val f, vs => ∃ q : Addr, H p = some (.tup [.str "value", .str f, .ref q]) ∧ H q = some (.tup vs)
  | .lef f x, vs => ∃ q : Addr, H p = some (.tup [.str "left", .str f, .str x, .ref q]) ∧ H q = some (.tup vs)
mutual
def InT (H : Hp) : Tm → V → Prop
  | .num n, v => v = .int (n : Int)
  | .nd k ts, v => ∃ (p : Addr) (vs : List V), v = .ref p ∧ InTs H ts vs ∧ NodeT H p k vs
def InTs (H : Hp) : List Tm → List V → Prop
  | [], vs => vs = []
  | t :: r, vs => ∃ v vs', vs = v :: vs' ∧ InT H t v ∧ InTs H r vs'
end
def KT (H H' : Hp) : Prop := ∀ q xs, H q = some (.tup xs) → H' q = some (.tup xs)
theorem KT.refl (H : Hp) : KT H H := fun _ _ z => z
theorem KT.trans {H H1 H2 : Hp} (a : KT H H1) (b : KT H1 H2) : KT H H2 := fun q xs z => b q xs (a q xs z)
theorem KT.same {H H' : Hp} (s : Same H H') : KT H H' := fun q xs z => s _ _ z
theorem KT.kp {H H' : Hp} {a : Addr} {n : Nat} (b : BagAt H a n) (k : Kp a H H') : KT H H' := fun q xs z => k q _ (fun w => by
  obtain ⟨d, x, c, e, _⟩ := b
  rw [w, e] at z
  cases z) z
theorem NodeT.keep {H H' : Hp} (k : KT H H') {p : Addr} : ∀ {t : Tk} {vs : List V}, NodeT H p t vs → NodeT H' p t vs
  | .fst x, vs, h => k _ _ h
  | .op s, vs, h => k _ _ h
  | .val f, vs, ⟨q, h1, h2⟩ => ⟨q, k _ _ h1, k _ _ h2⟩
  | .lef f x, vs, ⟨q, h1, h2⟩ => ⟨q, k _ _ h1, k _ _ h2⟩
mutual
theorem InT.keep {H H' : Hp} (k : KT H H') : ∀ (t : Tm) {v : V}, InT H t v → InT H' t v
  | .num n, v, h => by unfold InT at h ⊢; exact h
  | .nd t ts, v, h => by
    unfold InT at h ⊢
    obtain ⟨p, vs, e, h1, h2⟩ := h
    exact ⟨p, vs, e, InTs.keep k ts h1, h2.keep k⟩
theorem InTs.keep {H H' : Hp} (k : KT H H') : ∀ (ts : List Tm) {vs : List V}, InTs H ts vs → InTs H' ts vs
  | [], vs, h => by unfold InTs at h ⊢; exact h
  | t :: r, vs, h => by
    unfold InTs at h ⊢
    obtain ⟨v, vs', e, h1, h2⟩ := h
    exact ⟨v, vs', e, InT.keep k t h1, InTs.keep k r h2⟩
end
theorem InTs.len {H : Hp} : ∀ {ts : List Tm} {vs : List V}, InTs H ts vs → vs.length = ts.length
  | [], vs, h => by unfold InTs at h; rw [h]; rfl
  | t :: r, vs, h => by
    unfold InTs at h
    obtain ⟨v, vs', rfl, _, h2⟩ := h
    rw [List.length_cons, List.length_cons, h2.len]
theorem InTs.nil (H : Hp) : InTs H [] [] := by unfold InTs; rfl
theorem InTs.cons {H : Hp} {t : Tm} {ts : List Tm} {v : V} {vs : List V} (h : InT H t v) (hs : InTs H ts vs) : InTs H (t :: ts) (v :: vs) := by unfold InTs; exact ⟨v, vs, rfl, h, hs⟩
theorem InTs.snoc {H : Hp} : ∀ {ts : List Tm} {vs : List V} {t : Tm} {v : V}, InTs H ts vs → InT H t v → InTs H (ts ++ [t]) (vs ++ [v])
  | [], vs, t, v, h, hv => by
    unfold InTs at h
    subst h
    exact .cons hv (.nil H)
  | x :: r, vs, t, v, h, hv => by
    unfold InTs at h
    obtain ⟨u, vs', rfl, h1, h2⟩ := h
    exact .cons h1 (h2.snoc hv)
theorem InTs.get {H : Hp} : ∀ {ts : List Tm} {vs : List V}, InTs H ts vs → ∀ (i : Nat) (h : i < ts.length), ∃ v, vs[i]? = some v ∧ InT H ts[i] v
  | t :: r, vs, h, 0, hi => by
    unfold InTs at h
    obtain ⟨u, vs', rfl, h1, h2⟩ := h
    exact ⟨u, rfl, h1⟩
  | t :: r, vs, h, i + 1, hi => by
    unfold InTs at h
    obtain ⟨u, vs', rfl, h1, h2⟩ := h
    obtain ⟨v, hv, h3⟩ := h2.get i (by simpa using hi)
    exact ⟨v, by simpa using hv, by simpa using h3⟩
theorem InTs.set {H : Hp} : ∀ {ts : List Tm} {vs : List V}, InTs H ts vs → ∀ (i : Nat) {t : Tm} {v : V}, InT H t v → InTs H (ts.set i t) (vs.set i v)
  | [], vs, h, i, t, v, hv => by
    unfold InTs at h
    subst h
    exact .nil H
  | x :: r, vs, h, 0, t, v, hv => by
    unfold InTs at h
    obtain ⟨u, vs', rfl, h1, h2⟩ := h
    exact .cons hv h2
  | x :: r, vs, h, i + 1, t, v, hv => by
    unfold InTs at h
    obtain ⟨u, vs', rfl, h1, h2⟩ := h
    exact .cons h1 (h2.set i hv)
theorem InT.num {H : Hp} {n : Nat} : InT H (.num n) (.int (n : Int)) := by unfold InT; rfl
theorem InT.nd {H : Hp} {k : Tk} {ts : List Tm} {p : Addr} {vs : List V} (h : InTs H ts vs) (n : NodeT H p k vs) : InT H (.nd k ts) (.ref p) := by unfold InT; exact ⟨p, vs, rfl, h, n⟩
/-! which terms come about -/
def TkW : Tk → Nat → Prop
  | .fst x, n => okName x = true ∧ n = 0
  | .op s, n => s ∈ tsigns ∧ n = 2
  | .val f, n => okName f = true ∧ n ≤ 3
  | .lef f x, n => okName f = true ∧ okName x = true ∧ n ≤ 3
mutual
def TmW : Nat → Tm → Prop
  | _, .num n => n ≤ 999999
  | d, .nd k ts => TkW k ts.length ∧ TmWs d ts
def TmWs : Nat → List Tm → Prop
  | _, [] => True
  | 0, _ :: _ => False
  | d + 1, t :: r => TmW d t ∧ TmWs (d + 1) r
end
mutual
theorem TmW.mono : ∀ (t : Tm) {d d' : Nat}, TmW d t → d ≤ d' → TmW d' t
  | .num n, d, d', h, _ => by unfold TmW at h ⊢; exact h
  | .nd k ts, d, d', h, hd => by
    unfold TmW at h ⊢
    exact ⟨h.1, TmWs.mono ts h.2 hd⟩
theorem TmWs.mono : ∀ (ts : List Tm) {d d' : Nat}, TmWs d ts → d ≤ d' → TmWs d' ts
  | [], d, d', h, _ => by unfold TmWs; trivial
  | t :: r, 0, d', h, hd => by unfold TmWs at h; exact h.elim
  | t :: r, d + 1, d' + 1, h, hd => by
    unfold TmWs at h ⊢
    exact ⟨TmW.mono t h.1 (by omega), TmWs.mono r h.2 hd⟩
end
theorem TmWs.get : ∀ {ts : List Tm} {d : Nat}, TmWs (d + 1) ts → ∀ (i : Nat) (h : i < ts.length), TmW d ts[i]
  | t :: r, d, h, 0, hi => by unfold TmWs at h; exact h.1
  | t :: r, d, h, i + 1, hi => by
    unfold TmWs at h
    exact h.2.get i (by simpa using hi)
theorem TmWs.pos : ∀ {ts : List Tm} {d : Nat}, TmWs d ts → ts ≠ [] → ∃ d', d = d' + 1
  | [], d, h, n => absurd rfl n
  | t :: r, 0, h, n => by unfold TmWs at h; exact h.elim
  | t :: r, d + 1, h, n => ⟨d, rfl⟩
theorem TmWs.nil (d : Nat) : TmWs d [] := by unfold TmWs; trivial
theorem TmWs.cons {d : Nat} {t : Tm} {ts : List Tm} (h : TmW d t) (hs : TmWs (d + 1) ts) : TmWs (d + 1) (t :: ts) := by unfold TmWs; exact ⟨h, hs⟩
theorem TmWs.snoc {d : Nat} : ∀ {ts : List Tm} {t : Tm}, TmWs (d + 1) ts → TmW d t → TmWs (d + 1) (ts ++ [t])
  | [], t, h, ht => .cons ht (.nil _)
  | x :: r, t, h, ht => by
    unfold TmWs at h
    exact .cons h.1 (h.2.snoc ht)
theorem TmWs.set {d : Nat} : ∀ {ts : List Tm}, TmWs (d + 1) ts → ∀ (i : Nat) {t : Tm}, TmW d t → TmWs (d + 1) (ts.set i t)
  | [], h, i, t, ht => .nil _
  | x :: r, h, 0, t, ht => by
    unfold TmWs at h
    exact .cons ht h.2
  | x :: r, h, i + 1, t, ht => by
    unfold TmWs at h
    exact .cons h.1 (h.2.set i ht)
/-! terms as data -/
def Tk.head : Tk → List PyData
  | .fst x => [.str "first", .str x]
  | .op s => [.str s]
  | .val f => [.str "value", .str f]
  | .lef f x => [.str "left", .str f, .str x]
def Tk.data (k : Tk) (ds : List PyData) : PyData := match k with
  | .fst x => .tuple [.str "first", .str x]
  | .op s => .tuple (.str s :: ds)
  | .val f => .tuple [.str "value", .str f, .tuple ds]
  | .lef f x => .tuple [.str "left", .str f, .str x, .tuple ds]
mutual
def Tm.data : Tm → PyData
  | .num n => .int (n : Int)
  | .nd k ts => k.data (Tm.datas ts)
def Tm.datas : List Tm → List PyData
  | [] => []
  | t :: r => t.data :: Tm.datas r
end
mutual
theorem InT.dp {K : PySem.W.Frag} {H : Hp} : ∀ {t : Tm} {v : V}, InT H t v → Dp K H v t.data
  | .num n, v, h => by
    unfold InT at h
    subst h
    unfold Tm.data
    exact .int _
  | .nd k ts, v, h => by
    unfold InT at h
    obtain ⟨p, vs, rfl, h1, h2⟩ := h
    have h3 := InTs.dp (K := K) h1
    unfold Tm.data
    cases k with
    | fst x => exact .tup (SqT.of h2) (.cons (.str _) (.cons (.str _) .nil))
    | op s => exact .tup (SqT.of h2) (.cons (.str _) h3)
    | val f =>
      obtain ⟨q, h4, h5⟩ := h2
      exact .tup (SqT.of h4) (.cons (.str _) (.cons (.str _) (.cons (.tup (SqT.of h5) h3) .nil)))
    | lef f x =>
      obtain ⟨q, h4, h5⟩ := h2
      exact .tup (SqT.of h4) (.cons (.str _) (.cons (.str _) (.cons (.str _) (.cons (.tup (SqT.of h5) h3) .nil))))
theorem InTs.dp {K : PySem.W.Frag} {H : Hp} : ∀ {ts : List Tm} {vs : List V}, InTs H ts vs → DpAll K H vs (Tm.datas ts)
  | [], vs, h => by
    unfold InTs at h
    subst h
    unfold Tm.datas
    exact .nil
  | t :: r, vs, h => by
    unfold InTs at h
    obtain ⟨v, vs', rfl, h1, h2⟩ := h
    unfold Tm.datas
    exact .cons (InT.dp h1) (InTs.dp h2)
end
theorem sign_ok : ∀ s ∈ tsigns, PyData.strOk s = true := by decide +kernel
mutual
theorem data_lay : ∀ (t : Tm) {d : Nat}, TmW d t → PyData.canLay0 t.data = true
  | .num n, d, h => by unfold Tm.data; simp [PyData.canLay0]
  | .nd k ts, d, h => by
    unfold TmW at h
    have h3 := datas_lay ts h.2
    have c1 : PyData.strOk "first" = true := by decide +kernel
    have c2 : PyData.strOk "value" = true := by decide +kernel
    have c3 : PyData.strOk "left" = true := by decide +kernel
    unfold Tm.data
    cases k with
    | fst x => simp [Tk.data, PyData.canLay0, PyData.canLayAll0, c1, okName_str h.1.1]
    | op s => simp [Tk.data, PyData.canLay0, PyData.canLayAll0, sign_ok s h.1.1, h3]
    | val f => simp [Tk.data, PyData.canLay0, PyData.canLayAll0, c2, okName_str h.1.1, h3]
    | lef f x => simp [Tk.data, PyData.canLay0, PyData.canLayAll0, c3, okName_str h.1.1, okName_str h.1.2.1, h3]
theorem datas_lay : ∀ (ts : List Tm) {d : Nat}, TmWs d ts → PyData.canLayAll0 (Tm.datas ts) = true
  | [], d, h => by unfold Tm.datas; simp [PyData.canLayAll0]
  | t :: r, d, h => by
    obtain ⟨d', rfl⟩ := TmWs.pos h (by simp)
    unfold TmWs at h
    unfold Tm.datas
    simp [PyData.canLayAll0, data_lay t h.1, datas_lay r h.2]
end
mutual
theorem data_depth : ∀ (t : Tm) {d : Nat}, TmW d t → t.data.depth ≤ 2 * d + 2
  | .num n, d, h => by unfold Tm.data; simp [PyData.depth]
  | .nd k ts, d, h => by
    unfold TmW at h
    have h3 := datas_depth ts h.2
    unfold Tm.data
    cases k <;> simp [Tk.data, PyData.depth, PyData.depthAll] <;> omega
theorem datas_depth : ∀ (ts : List Tm) {d : Nat}, TmWs d ts → PyData.depthAll (Tm.datas ts) ≤ 2 * d
  | [], d, h => by unfold Tm.datas; simp [PyData.depthAll]
  | t :: r, d, h => by
    obtain ⟨d', rfl⟩ := TmWs.pos h (by simp)
    unfold TmWs at h
    unfold Tm.datas
    have h1 := data_depth t h.1
    have h2 := datas_depth r h.2
    simp [PyData.depthAll]
    omega
end
theorem data_shaped {t : Tm} {d : Nat} (h : TmW d t) (hd : d ≤ 20) : SeqAt.shaped t.data = true := by
  unfold SeqAt.shaped
  rw [Bool.and_eq_true]
  have := data_depth t h
  exact ⟨data_lay t h, decide_eq_true (by omega)⟩
end Oo
namespace Oo
open PySem L2 PyProof.Rows
/-! texts of terms, as codes -/
def lc_ (x : Str) : List Nat := x.cps.toList
theorem lc_app (a b : Str) : lc_ (a ++ b) = lc_ a ++ lc_ b := by
  show (a.cps ++ b.cps).toList = _
  rw [Array.toList_append]
  rfl
theorem lc_inj {a b : Str} (h : lc_ a = lc_ b) : a = b := by
  cases a with
  | mk x =>
    cases b with
    | mk y =>
      have : x = y := Array.toList_inj.mp h
      rw [this]
def dg (n : Nat) : List Nat := lc_ (Str.ofString (toString (n : Int)))
theorem dg_eq (n : Nat) : dg n = (Nat.toDigits 10 n).map Char.toNat := by
  unfold dg
  rw [Str.ofString_eq_toList]
  show ((Nat.repr n).toList.map Char.toNat).toArray.toList = _
  rw [List.toList_toArray]
  congr 1
  simp [Nat.repr]
theorem dg_inj {n m : Nat} (h : dg n = dg m) : n = m := by
  rw [dg_eq, dg_eq] at h
  have hj : ∀ (a b : List Char), a.map Char.toNat = b.map Char.toNat → a = b := fun a b h => (List.map_inj_right (fun x y z => by
    exact Char.ext (UInt32.toNat_inj.mp z))).mp h
  have h2 := hj _ _ h
  refine Nat.repr_injective ?_
  unfold Nat.repr
  rw [h2]
def isDg (c : Nat) : Bool := decide (48 ≤ c) && decide (c ≤ 57)
def isLt (c : Nat) : Bool := decide (97 ≤ c) && decide (c ≤ 122)
theorem dg_all (n : Nat) : ∀ c ∈ dg n, isDg c = true := by
  intro c hc
  rw [dg_eq] at hc
  obtain ⟨d, hd, rfl⟩ := List.mem_map.mp hc
  have := Nat.isDigit_of_mem_toDigits (by decide) (by decide) hd
  unfold Char.isDigit at this
  simp only [Bool.and_eq_true, decide_eq_true_eq] at this
  obtain ⟨h1, h2⟩ := this
  have h1' : 48 ≤ d.toNat := h1
  have h2' : d.toNat ≤ 57 := h2
  unfold isDg
  simp [h1', h2']
theorem dg_ne (n : Nat) : dg n ≠ [] := by
  rw [dg_eq]
  intro h
  have := List.map_eq_nil_iff.mp h
  exact Nat.toDigits_ne_nil this
theorem name_all {x : Str} (h : okName x = true) : ∀ c ∈ lc_ x, isLt c = true := by
  unfold okName at h
  rw [Bool.and_eq_true] at h
  exact List.all_eq_true.mp h.2
theorem name_ne {x : Str} (h : okName x = true) : lc_ x ≠ [] := by
  unfold okName at h
  simp only [Bool.and_eq_true, decide_eq_true_eq] at h
  intro z
  have h1 : 1 ≤ x.cps.size := h.1.1
  have : x.cps.toList.length = 0 := by show (lc_ x).length = 0; rw [z]; rfl
  rw [Array.length_toList] at this
  omega
def jn : List (List Nat) → List Nat
  | [] => []
  | [c] => c
  | c :: d :: r => c ++ 44 :: 32 :: jn (d :: r)
def Tk.cs (k : Tk) (cs : List (List Nat)) : List Nat := match k with
  | .fst x => lc_ x
  | .op s => match cs with
    | [a, b] => 40 :: (a ++ 32 :: (lc_ s ++ 32 :: (b ++ [41])))
    | _ => []
  | .val f => lc_ f ++ 40 :: (jn cs ++ [41])
  | .lef f x => lc_ f ++ 46 :: (lc_ x ++ 40 :: (jn cs ++ [41]))
mutual
def Tm.cs : Tm → List Nat
  | .num n => dg n
  | .nd k ts => k.cs (Tm.css ts)
def Tm.css : List Tm → List (List Nat)
  | [] => []
  | t :: r => t.cs :: Tm.css r
end
theorem span_eq {p : Nat → Bool} : ∀ {a a' r r' : List Nat}, (∀ c ∈ a, p c = true) → (∀ c ∈ a', p c = true) → (∀ c l, r = c :: l → p c = false) → (∀ c l, r' = c :: l → p c = false) → a ++ r = a' ++ r' → a = a' ∧ r = r'
  | [], [], r, r', _, _, _, _, h => ⟨rfl, h⟩
  | [], c :: l, r, r', _, h2, h3, _, h => by
    have e1 := h3 c _ h
    rw [h2 c List.mem_cons_self] at e1
    cases e1
  | c :: l, [], r, r', h1, _, _, h4, h => by
    have e1 := h4 c _ h.symm
    rw [h1 c List.mem_cons_self] at e1
    cases e1
  | c :: l, c' :: l', r, r', h1, h2, h3, h4, h => by
    have h' : c :: (l ++ r) = c' :: (l' ++ r') := h
    injection h' with e1 e2
    obtain ⟨e3, e4⟩ := span_eq (fun x hx => h1 x (List.mem_cons_of_mem _ hx)) (fun x hx => h2 x (List.mem_cons_of_mem _ hx)) h3 h4 e2
    exact ⟨by rw [e1, e3], e4⟩
def Stop (r : List Nat) : Prop := ∀ c l, r = c :: l → c = 32 ∨ c = 41 ∨ c = 44
theorem stop_lt {r : List Nat} (h : Stop r) : ∀ c l, r = c :: l → isLt c = false := fun c l e => by
  rcases h c l e with rfl | rfl | rfl <;> rfl
theorem stop_dg {r : List Nat} (h : Stop r) : ∀ c l, r = c :: l → isDg c = false := fun c l e => by
  rcases h c l e with rfl | rfl | rfl <;> rfl
theorem stop_c {c : Nat} {l : List Nat} (h : c = 32 ∨ c = 41 ∨ c = 44) : Stop (c :: l) := fun d m e => by
  injection e with e1 e2
  rw [← e1]
  exact h
theorem ne_lt {c : Nat} {l : List Nat} (h : isLt c = false) : ∀ d m, c :: l = d :: m → isLt d = false := fun d m e => by
  injection e with e1 e2
  rw [← e1]
  exact h
/-- how a text begins -/
def Beg (t : Tm) : Nat := match t with
  | .num _ => 0
  | .nd (.op _) _ => 1
  | .nd _ _ => 2
theorem tsign_cs : ∀ s ∈ tsigns, ∃ c, lc_ s = [c] ∧ c ≠ 32 := by
  intro s hs
  simp only [tsigns, List.mem_cons, List.not_mem_nil, or_false] at hs
  rcases hs with rfl | rfl | rfl | rfl
  · exact ⟨43, by decide +kernel, by decide⟩
  · exact ⟨45, by decide +kernel, by decide⟩
  · exact ⟨42, by decide +kernel, by decide⟩
  · exact ⟨60, by decide +kernel, by decide⟩
theorem two_of {ts : List Tm} (h : ts.length = 2) : ∃ a b, ts = [a, b] := by
  match ts, h with
  | [a, b], _ => exact ⟨a, b, rfl⟩
theorem css_len : ∀ ts : List Tm, (Tm.css ts).length = ts.length
  | [] => by unfold Tm.css; rfl
  | t :: r => by unfold Tm.css; rw [List.length_cons, List.length_cons, css_len r]
/-- the first code of a text -/
theorem cs_beg {t : Tm} {d : Nat} (h : TmW d t) : ∃ c l, t.cs = c :: l ∧ (Beg t = 0 → isDg c = true) ∧ (Beg t = 1 → c = 40) ∧ (Beg t = 2 → isLt c = true) := by
  have nm : ∀ (x : Str) (z : List Nat), okName x = true → ∃ c l, lc_ x ++ z = c :: l ∧ isLt c = true := fun x z hx => by
    cases hc : lc_ x with
    | nil => exact absurd hc (name_ne hx)
    | cons c l => exact ⟨c, l ++ z, rfl, name_all hx c (by rw [hc]; exact List.mem_cons_self)⟩
  cases t with
  | num n =>
    unfold Tm.cs
    cases hc : dg n with
    | nil => exact absurd hc (dg_ne n)
    | cons c l => exact ⟨c, l, rfl, fun _ => dg_all n c (by rw [hc]; exact List.mem_cons_self), (by intro z; cases z), (by intro z; cases z)⟩
  | nd k ts =>
    unfold TmW at h
    unfold Tm.cs
    cases k with
    | fst x =>
      obtain ⟨c, l, e, hc⟩ := nm x [] h.1.1
      rw [List.append_nil] at e
      exact ⟨c, l, e, (by intro z; cases z), (by intro z; cases z), fun _ => hc⟩
    | op s =>
      obtain ⟨a, b, rfl⟩ := two_of h.1.2
      unfold Tm.css Tm.css Tm.css
      exact ⟨40, _, rfl, (by intro z; cases z), fun _ => rfl, (by intro z; cases z)⟩
    | val f =>
      obtain ⟨c, l, e, hc⟩ := nm f _ h.1.1
      exact ⟨c, l, e, (by intro z; cases z), (by intro z; cases z), fun _ => hc⟩
    | lef f x =>
      obtain ⟨c, l, e, hc⟩ := nm f _ h.1.1
      exact ⟨c, l, e, (by intro z; cases z), (by intro z; cases z), fun _ => hc⟩
theorem beg_eq {t t' : Tm} {d d' : Nat} {r r' : List Nat} (h : TmW d t) (h' : TmW d' t') (e : t.cs ++ r = t'.cs ++ r') : Beg t = Beg t' := by
  obtain ⟨c, l, e1, a0, a1, a2⟩ := cs_beg h
  obtain ⟨c', l', e1', b0, b1, b2⟩ := cs_beg h'
  rw [e1, e1'] at e
  have e2 : c :: (l ++ r) = c' :: (l' ++ r') := e
  injection e2 with e3 e4
  subst e3
  have hb : ∀ t : Tm, Beg t = 0 ∨ Beg t = 1 ∨ Beg t = 2 := fun t => by
    cases t with
    | num n => exact .inl rfl
    | nd k ts => cases k <;> first | exact .inr (.inl rfl) | exact .inr (.inr rfl)
  have x1 : isDg 40 = false := rfl
  have x2 : isLt 40 = false := rfl
  have x3 : isDg c = true → isLt c = true → False := fun p q => by
    unfold isDg at p
    unfold isLt at q
    simp only [Bool.and_eq_true, decide_eq_true_eq] at p q
    omega
  rcases hb t with g | g | g <;> rcases hb t' with g' | g' | g' <;> first
    | exact g.trans g'.symm
    | (exfalso
       first
         | exact x3 (a0 g) (b2 g')
         | exact x3 (b0 g') (a2 g)
         | (have p := a0 g; rw [b1 g', x1] at p; cases p)
         | (have p := b0 g'; rw [a1 g, x1] at p; cases p)
         | (have p := a2 g; rw [b1 g', x2] at p; cases p)
         | (have p := b2 g'; rw [a1 g, x2] at p; cases p))
def jtail (ts : List Tm) (z : List Nat) : List Nat := match ts with
  | [] => z
  | u :: v => 44 :: 32 :: (jn (Tm.css (u :: v)) ++ z)
theorem jn_cons (t : Tm) (q : List Tm) (z : List Nat) : jn (Tm.css (t :: q)) ++ z = t.cs ++ jtail q z := by
  cases q with
  | nil => simp only [Tm.css, jtail, jn]
  | cons u v =>
    simp only [Tm.css, jtail, jn, List.append_assoc, List.cons_append]
theorem jn_head (t : Tm) (q : List Tm) (z : List Nat) : ∃ w, jn (Tm.css (t :: q)) ++ z = t.cs ++ w := ⟨_, jn_cons t q z⟩
theorem jn_stop (q : List Tm) (z : List Nat) : Stop (jtail q (41 :: z)) := by
  cases q with
  | nil => exact stop_c (.inr (.inl rfl))
  | cons u v => exact stop_c (.inr (.inr rfl))
theorem no41 {t : Tm} {d : Nat} {r w : List Nat} (h : TmW d t) (e : 41 :: r = t.cs ++ w) : False := by
  obtain ⟨c, l, e1, a0, a1, a2⟩ := cs_beg h
  rw [e1] at e
  have e2 : 41 :: r = c :: (l ++ w) := e
  injection e2 with e3 e4
  subst e3
  cases t with
  | num n => have := a0 rfl; cases this
  | nd k ts =>
    cases k with
    | fst x => have := a2 rfl; cases this
    | op s => have := a1 rfl; cases this
    | val f => have := a2 rfl; cases this
    | lef f x => have := a2 rfl; cases this
mutual
theorem cs_inj : ∀ (t : Tm) (d : Nat) (t' : Tm) (d' : Nat) (r r' : List Nat), TmW d t → TmW d' t' → Stop r → Stop r' → t.cs ++ r = t'.cs ++ r' → t = t' ∧ r = r'
  | .num n, d, t', d', r, r', h, h', s, s', e => by
    have hb := beg_eq h h' e
    cases t' with
    | nd k ts => cases k <;> cases hb
    | num n' =>
      unfold Tm.cs at e
      obtain ⟨e1, e2⟩ := span_eq (p := isDg) (dg_all n) (dg_all n') (stop_dg s) (stop_dg s') e
      exact ⟨by rw [dg_inj e1], e2⟩
  | .nd (.fst x) ts, d, t', d', r, r', h, h', s, s', e => by
    have hb := beg_eq h h' e
    cases t' with
    | num n => cases hb
    | nd k ts' =>
      unfold Tm.cs at e
      unfold TmW at h h'
      cases k with
      | op s => cases hb
      | fst x' =>
        obtain ⟨e1, e2⟩ := span_eq (p := isLt) (name_all h.1.1) (name_all h'.1.1) (stop_lt s) (stop_lt s') e
        have g1 : ts = [] := List.eq_nil_of_length_eq_zero h.1.2
        have g2 : ts' = [] := List.eq_nil_of_length_eq_zero h'.1.2
        exact ⟨by rw [lc_inj e1, g1, g2], e2⟩
      | val f =>
        have e' : lc_ x ++ r = lc_ f ++ (40 :: (jn (Tm.css ts') ++ [41]) ++ r') := by rw [← List.append_assoc]; exact e
        obtain ⟨e1, e2⟩ := span_eq (p := isLt) (name_all h.1.1) (name_all h'.1.1) (stop_lt s) (ne_lt rfl) e'
        rcases s 40 _ e2 with z | z | z <;> cases z
      | lef f y =>
        have e' : lc_ x ++ r = lc_ f ++ (46 :: (lc_ y ++ 40 :: (jn (Tm.css ts') ++ [41])) ++ r') := by rw [← List.append_assoc]; exact e
        obtain ⟨e1, e2⟩ := span_eq (p := isLt) (name_all h.1.1) (name_all h'.1.1) (stop_lt s) (ne_lt rfl) e'
        rcases s 46 _ e2 with z | z | z <;> cases z
  | .nd (.op sg) ts, d, t', d', r, r', h, h', s, s', e => by
    have hb := beg_eq h h' e
    cases t' with
    | num n => cases hb
    | nd k ts' =>
      cases k with
      | fst x => cases hb
      | val f => cases hb
      | lef f x => cases hb
      | op sg' =>
        unfold TmW at h h'
        match ts, h, ts', h', e with
        | [a, b], h, [a', b'], h', e =>
          obtain ⟨d1, rfl⟩ := TmWs.pos h.2 (by simp)
          obtain ⟨d2, rfl⟩ := TmWs.pos h'.2 (by simp)
          have ha := h.2
          have ha' := h'.2
          unfold TmWs TmWs at ha ha'
          unfold Tm.cs Tm.css Tm.css Tm.css at e
          have e' : 40 :: (a.cs ++ (32 :: (lc_ sg ++ (32 :: (b.cs ++ (41 :: r)))))) = 40 :: (a'.cs ++ (32 :: (lc_ sg' ++ (32 :: (b'.cs ++ (41 :: r')))))) := by
            simpa [Tk.cs] using e
          injection e' with _ e1
          obtain ⟨q1, q2⟩ := cs_inj a d1 a' d2 _ _ ha.1 ha'.1 (stop_c (.inl rfl)) (stop_c (.inl rfl)) e1
          injection q2 with _ q3
          obtain ⟨c, hc, hn⟩ := tsign_cs sg h.1.1
          obtain ⟨c', hc', hn'⟩ := tsign_cs sg' h'.1.1
          rw [hc, hc'] at q3
          have q3' : c :: 32 :: (b.cs ++ 41 :: r) = c' :: 32 :: (b'.cs ++ 41 :: r') := q3
          injection q3' with q4 q5
          injection q5 with _ q6
          obtain ⟨q7, q8⟩ := cs_inj b d1 b' d2 _ _ ha.2.1 ha'.2.1 (stop_c (.inr (.inl rfl))) (stop_c (.inr (.inl rfl))) q6
          injection q8 with _ q9
          have : sg = sg' := lc_inj (by rw [hc, hc', q4])
          exact ⟨by rw [q1, q7, this], q9⟩
  | .nd (.val f) ts, d, t', d', r, r', h, h', s, s', e => by
    have hb := beg_eq h h' e
    cases t' with
    | num n => cases hb
    | nd k ts' =>
      unfold Tm.cs at e
      unfold TmW at h h'
      cases k with
      | op s => cases hb
      | fst x =>
        have e' : lc_ f ++ (40 :: (jn (Tm.css ts) ++ [41]) ++ r) = lc_ x ++ r' := by rw [← List.append_assoc]; exact e
        obtain ⟨e1, e2⟩ := span_eq (p := isLt) (name_all h.1.1) (name_all h'.1.1) (ne_lt rfl) (stop_lt s') e'
        rcases s' 40 _ e2.symm with z | z | z <;> cases z
      | lef f' y =>
        have e' : lc_ f ++ (40 :: (jn (Tm.css ts) ++ [41]) ++ r) = lc_ f' ++ (46 :: (lc_ y ++ 40 :: (jn (Tm.css ts') ++ [41])) ++ r') := by rw [← List.append_assoc, ← List.append_assoc]; exact e
        obtain ⟨e1, e2⟩ := span_eq (p := isLt) (name_all h.1.1) (name_all h'.1.1) (ne_lt rfl) (ne_lt rfl) e'
        have e3 : 40 :: (jn (Tm.css ts) ++ [41] ++ r) = 46 :: (lc_ y ++ 40 :: (jn (Tm.css ts') ++ [41]) ++ r') := e2
        injection e3 with e4 e5
        cases e4
      | val f' =>
        have e' : lc_ f ++ (40 :: (jn (Tm.css ts) ++ [41]) ++ r) = lc_ f' ++ (40 :: (jn (Tm.css ts') ++ [41]) ++ r') := by rw [← List.append_assoc, ← List.append_assoc]; exact e
        obtain ⟨e1, e2⟩ := span_eq (p := isLt) (name_all h.1.1) (name_all h'.1.1) (ne_lt rfl) (ne_lt rfl) e'
        have e3 : 40 :: (jn (Tm.css ts) ++ [41] ++ r) = 40 :: (jn (Tm.css ts') ++ [41] ++ r') := e2
        injection e3 with e4 e5
        rw [List.append_assoc, List.append_assoc] at e5
        obtain ⟨e6, e7⟩ := jn_inj ts d ts' d' r r' h.2 h'.2 e5
        exact ⟨by rw [lc_inj e1, e6], e7⟩
  | .nd (.lef f x) ts, d, t', d', r, r', h, h', s, s', e => by
    have hb := beg_eq h h' e
    cases t' with
    | num n => cases hb
    | nd k ts' =>
      unfold Tm.cs at e
      unfold TmW at h h'
      cases k with
      | op s => cases hb
      | fst y =>
        have e' : lc_ f ++ (46 :: (lc_ x ++ 40 :: (jn (Tm.css ts) ++ [41])) ++ r) = lc_ y ++ r' := by rw [← List.append_assoc]; exact e
        obtain ⟨e1, e2⟩ := span_eq (p := isLt) (name_all h.1.1) (name_all h'.1.1) (ne_lt rfl) (stop_lt s') e'
        rcases s' 46 _ e2.symm with z | z | z <;> cases z
      | val f' =>
        have e' : lc_ f ++ (46 :: (lc_ x ++ 40 :: (jn (Tm.css ts) ++ [41])) ++ r) = lc_ f' ++ (40 :: (jn (Tm.css ts') ++ [41]) ++ r') := by rw [← List.append_assoc, ← List.append_assoc]; exact e
        obtain ⟨e1, e2⟩ := span_eq (p := isLt) (name_all h.1.1) (name_all h'.1.1) (ne_lt rfl) (ne_lt rfl) e'
        have e3 : 46 :: (lc_ x ++ 40 :: (jn (Tm.css ts) ++ [41]) ++ r) = 40 :: (jn (Tm.css ts') ++ [41] ++ r') := e2
        injection e3 with e4 e5
        cases e4
      | lef f' y =>
        have e' : lc_ f ++ (46 :: (lc_ x ++ 40 :: (jn (Tm.css ts) ++ [41])) ++ r) = lc_ f' ++ (46 :: (lc_ y ++ 40 :: (jn (Tm.css ts') ++ [41])) ++ r') := by rw [← List.append_assoc, ← List.append_assoc]; exact e
        obtain ⟨e1, e2⟩ := span_eq (p := isLt) (name_all h.1.1) (name_all h'.1.1) (ne_lt rfl) (ne_lt rfl) e'
        have e3 : 46 :: (lc_ x ++ 40 :: (jn (Tm.css ts) ++ [41]) ++ r) = 46 :: (lc_ y ++ 40 :: (jn (Tm.css ts') ++ [41]) ++ r') := e2
        injection e3 with e4 e5
        rw [List.append_assoc, List.append_assoc] at e5
        obtain ⟨e6, e7⟩ := span_eq (p := isLt) (name_all h.1.2.1) (name_all h'.1.2.1) (ne_lt rfl) (ne_lt rfl) e5
        have e8 : 40 :: (jn (Tm.css ts) ++ [41] ++ r) = 40 :: (jn (Tm.css ts') ++ [41] ++ r') := e7
        injection e8 with e9 e10
        rw [List.append_assoc, List.append_assoc] at e10
        obtain ⟨e11, e12⟩ := jn_inj ts d ts' d' r r' h.2 h'.2 e10
        exact ⟨by rw [lc_inj e1, lc_inj e6, e11], e12⟩
theorem jn_inj : ∀ (ts : List Tm) (d : Nat) (ts' : List Tm) (d' : Nat) (r r' : List Nat), TmWs d ts → TmWs d' ts' → jn (Tm.css ts) ++ 41 :: r = jn (Tm.css ts') ++ 41 :: r' → ts = ts' ∧ r = r'
  | [], d, [], d', r, r', h, h', e => by
    unfold Tm.css at e
    have e' : 41 :: r = 41 :: r' := e
    injection e' with _ e1
    exact ⟨rfl, e1⟩
  | [], d, t' :: q', d', r, r', h, h', e => by
    obtain ⟨d2, rfl⟩ := TmWs.pos h' (by simp)
    unfold TmWs at h'
    obtain ⟨w, e1⟩ := jn_head t' q' (41 :: r')
    rw [e1] at e
    have e2 : 41 :: r = t'.cs ++ w := e
    exact (no41 h'.1 e2).elim
  | t :: q, d, [], d', r, r', h, h', e => by
    obtain ⟨d2, rfl⟩ := TmWs.pos h (by simp)
    unfold TmWs at h
    obtain ⟨w, e1⟩ := jn_head t q (41 :: r)
    rw [e1] at e
    have e2 : t.cs ++ w = 41 :: r' := e
    exact (no41 h.1 e2.symm).elim
  | t :: q, d, t' :: q', d', r, r', h, h', e => by
    obtain ⟨d1, rfl⟩ := TmWs.pos h (by simp)
    obtain ⟨d2, rfl⟩ := TmWs.pos h' (by simp)
    unfold TmWs at h h'
    rw [jn_cons, jn_cons] at e
    obtain ⟨e1, e2⟩ := cs_inj t d1 t' d2 _ _ h.1 h'.1 (jn_stop _ _) (jn_stop _ _) e
    match q, q', h.2, h'.2, e2 with
    | [], [], _, _, e2 =>
      have e3 : 41 :: r = 41 :: r' := e2
      injection e3 with _ e4
      exact ⟨by rw [e1], e4⟩
    | [], _ :: _, _, _, e2 =>
      have e3 : 41 :: r = 44 :: _ := e2
      injection e3 with e4
      cases e4
    | _ :: _, [], _, _, e2 =>
      have e3 : 44 :: _ = 41 :: r' := e2
      injection e3 with e4
      cases e4
    | u :: v, u' :: v', g, g', e2 =>
      have e3 : 44 :: 32 :: (jn (Tm.css (u :: v)) ++ 41 :: r) = 44 :: 32 :: (jn (Tm.css (u' :: v')) ++ 41 :: r') := e2
      injection e3 with _ e4
      injection e4 with _ e5
      obtain ⟨e6, e7⟩ := jn_inj (u :: v) (d1 + 1) (u' :: v') (d2 + 1) r r' g g' e5
      exact ⟨by rw [e1, e6], e7⟩
end
/-- texts tell terms apart -/
theorem cs_eq {t t' : Tm} {d d' : Nat} (h : TmW d t) (h' : TmW d' t') : t.cs = t'.cs ↔ t = t' :=
  ⟨fun e => (cs_inj t d t' d' [] [] h h' (fun _ _ z => by cases z) (fun _ _ z => by cases z) (by rw [e])).1, fun e => by rw [e]⟩
end Oo
namespace Oo
open PySem L2 PyProof.Rows
abbrev sTerm : Stmt := top 10
def tcost : Nat → Nat
  | 0 => 4
  | d + 1 => 4 + 3 * tcost d
theorem tcost_pos : ∀ d, 4 ≤ tcost d
  | 0 => Nat.le_refl _
  | d + 1 => by have := tcost_pos d; show 4 ≤ 4 + 3 * tcost d; omega
def spTerm (N : Nat) : Sp := fun vs H Q _ => ∃ (a : Addr) (n d : Nat), vs = [.ref a, .int (d : Int)] ∧ BagAt H a n ∧ n + tcost d ≤ 900000 ∧ d < N ∧
  ∀ (v : V) (t : Tm) (H' : Hp), InT H' t v → TmW d t → BagAt H' a (n + tcost d) → Kp a H H' → Q v H'
theorem no_term {N : Nat} (h : N = 0) : ∀ vs H Q E, ¬ spTerm N vs H Q E := fun vs H Q E q => by
  obtain ⟨_, _, _, _, _, _, hd, _⟩ := q
  omega
def teSub (N : Nat) : TE := fun σ H Q => ∃ (a : Addr) (n d : Nat), σ[0]? = some (some (.ref a)) ∧ σ[1]? = some (some (.int ((d + 1 : Nat) : Int))) ∧ BagAt H a n ∧ n + tcost d ≤ 900000 ∧ d < N ∧
  ∀ (v : V) (t : Tm) (H' : Hp), InT H' t v → TmW d t → BagAt H' a (n + tcost d) → Kp a H H' → Q v H'
def tnames : List Str := ["x", "f", "g", "aa", "a", "abcdefgh"]
theorem tnames_ok : ∀ x ∈ tnames, okName x = true := by decide +kernel
theorem bag_ne {H : Hp} {a D : Addr} {n : Nat} (b : BagAt H a n) (h : H D = none) : a ≠ D := by
  obtain ⟨d, x, c, e, _⟩ := b
  exact ne_of_none e h
theorem bag_kp {H H' : Hp} {a p : Addr} {o : HO} (hp : H p = none) : Kp a H (upd H p o) := Kp.new hp
section
variable {P : Program} {w : World} {K : PySem.W.Frag} {mg : Str → Option Value} {base : Heap} {X : Cx}
theorem scTerm : FnScope ["_law_bag_here", "_law_depth", "_law_way", "_law_inputs", "_law_turn", "_law_name"] ["_law_bag_here", "_law_depth"] (defScope sTerm) := ⟨rfl, rfl, rfl, by decide +kernel, rfl, by decide +kernel, by decide +kernel⟩
theorem ok_term {N L : Nat} {f fT fO : Addr} {fd fdT fdO : FuncData} (F : Fun K "_law_term" "_law_term" sTerm f fd) (hL : 2 ≤ L) (mr : mg "range" = none) (mt : mg "tuple" = none)
    (GT : FnOk P w K mg base CX0 1 fT fdT ["_law_bag_here", "_law_many"] spTake) (kT : PySem.W.keepIn K (.ref fT) = true) (bT : Binds K fdT ["_law_bag_here", "_law_many"] []) (mT : mg "_law_take" = some (.ref fT))
    (GO : FnOk P w K mg base CX0 2 fO fdO ["_law_bag_here", "_law_items"] (spOf K)) (kO : PySem.W.keepIn K (.ref fO) = true) (bO : Binds K fdO ["_law_bag_here", "_law_items"] []) (mO : mg "_law_of" = some (.ref fO))
    (GN : FnOk P w K mg base CX0 L f fd ["_law_bag_here", "_law_depth"] (spTerm N)) (kN : PySem.W.keepIn K (.ref f) = true) (bN : Binds K fd ["_law_bag_here", "_law_depth"] []) (mN : mg "_law_term" = some (.ref f)) :
    FnOk P w K mg base CX0 (L + 1) f fd ["_law_bag_here", "_law_depth"] (spTerm (N + 1)) := by
  refine F.ok scTerm (fun vs H Q E h => ?_) (fun cdv A outer s H vs Q E hr h => ?_)
  · obtain ⟨a, n, d, rfl, _⟩ := h
    rfl
  obtain ⟨a, n, d, rfl, hB, hn, hd, q⟩ := h
  have hr1 : Room 1 _ := hr.mono (Nat.le_trans (by decide) hL)
  have hr2 : Room 2 _ := hr.mono hL
  refine ⟨_, (pss_cons (ps_set (i := 2) scTerm.nd rfl (.inl rfl) (pe_ifExp (pt_cmpR op_gt (pv 1) pe_int (nomark _)) (pe_call GT hr1 rfl mT kT bT .nil pass0 (pa_cons (pv 0) (pa_cons pe_int pa_nil))) (pe_call GT hr1 rfl mT kT bT .nil pass0 (pa_cons (pv 0) (pa_cons pe_int pa_nil)))))
    (pss_cons (ps_if (pt_cmpR op_eq (pv 2) pe_int (nomark _)) (pss_one (ps_ret (pe_call GO hr2 rfl mO kO bO .nil pass0 (pa_cons (pv 0) (pa_cons (pe_lst (pa_cons pe_int (pa_cons pe_int (pa_cons pe_int (pa_cons pe_int (pa_cons (pe_call GT hr1 rfl mT kT bT .nil pass0 (pa_cons (pv 0) (pa_cons pe_int pa_nil))) pa_nil)))))) pa_nil))))) pss_nil)
    (pss_cons (ps_if (pt_cmpR op_lt (pv 2) pe_int (nomark _)) (pss_one (ps_ret (pe_tup (pa_cons pe_str (pa_cons (pe_call GO hr2 rfl mO kO bO .nil pass0 (pa_cons (pv 0) (pa_cons (pe_lst (pa_cons pe_str (pa_cons pe_str (pa_cons pe_str (pa_cons pe_str (pa_cons pe_str (pa_cons pe_str pa_nil))))))) pa_nil))) pa_nil))))) pss_nil)
    (pss_cons (ps_if (pt_cmpR op_eq (pv 2) pe_int (nomark _)) (pss_one (ps_ret (pe_tup (pa_cons (pe_call GO hr2 rfl mO kO bO .nil pass0 (pa_cons (pv 0) (pa_cons (pe_lst (pa_cons pe_str (pa_cons pe_str (pa_cons pe_str (pa_cons pe_str pa_nil))))) pa_nil))) (pa_cons (pe_call GN hr rfl mN kN bN .nil pass0 (pa_cons (pv 0) (pa_cons (pe_op op_sub (pv 1) pe_int) pa_nil))) (pa_cons (pe_call GN hr rfl mN kN bN .nil pass0 (pa_cons (pv 0) (pa_cons (pe_op op_sub (pv 1) pe_int) pa_nil))) pa_nil)))))) pss_nil)
    (pss_cons (ps_set (i := 3) scTerm.nd rfl (.inl rfl) (pe_tupleOf (by rfl) mt (pe_lc (own := [("_law_turn", 4)]) (g := gName 4) (tt := tYes) (by rfl) scTerm.nd (pi_range1 (by rfl) mr (pa_cons (pe_call GT hr1 rfl mT kT bT .nil pass0 (pa_cons (pv 0) (pa_cons pe_int pa_nil))) pa_nil)) (blkOk_by (own := [("_law_turn", 4)]) (N := ["_law_bag_here", "_law_depth", "_law_way", "_law_inputs", "_law_turn", "_law_name"]) (sc := defScope sTerm) (by decide +kernel)) (fun _ _ _ _ _ => (pg_name (i := 4) scTerm.nd rfl (Or.inl rfl))) (fun _ _ _ _ _ => pts_nil) (fun _ _ _ _ _ => (pe_as (t' := teSub N) (pe_call GN hr rfl mN kN bN .nil pass0 (pa_cons (pv 0) (pa_cons (pe_op op_sub (pv 1) pe_int) pa_nil))) ?c1)))))
    (pss_cons (ps_set (i := 5) scTerm.nd rfl (.inl rfl) (pe_call GO hr2 rfl mO kO bO .nil pass0 (pa_cons (pv 0) (pa_cons (pe_lst (pa_cons pe_str (pa_cons pe_str (pa_cons pe_str (pa_cons pe_str pa_nil))))) pa_nil))))
    (pss_one (ps_ret (pe_ifExp (pt_cmpR op_eq (pv 2) pe_int (nomark _)) (pe_tup (pa_cons pe_str (pa_cons (pv 5) (pa_cons (pv 3) pa_nil)))) (pe_tup (pa_cons pe_str (pa_cons (pv 5) (pa_cons (pe_call GO hr2 rfl mO kO bO .nil pass0 (pa_cons (pv 0) (pa_cons (pe_lst (pa_cons pe_str (pa_cons pe_str (pa_cons pe_str pa_nil)))) pa_nil))) (pa_cons (pv 3) pa_nil)))))))))))))), ?_⟩
  case c1 =>
    rintro σ H Q ⟨a, n, d, e0, e1, hB, hn, hd, q⟩
    refine ⟨_, e0, _, e1, _, _, rfl, rfl, a, n, d, congrArg (fun z => [V.ref a, V.int z]) (by omega), hB, hn, hd, q⟩
  have hcp := tcost_pos d
  refine ⟨_, rfl, _, _, rfl, rfl, _, rfl, ?_⟩
  by_cases hd0 : (0 : Int) < (d : Int)
  case' pos =>
    refine iteYes hd0 ⟨_, rfl, a, 7, n, rfl, hB, by omega, by decide, by decide, fun r H1 r0 r1 hB1 kp1 => ?_⟩
    have hr7 : r < 7 := r1
    have hz : d = 0 → r < 3 := fun z => by omega
  case' neg =>
    refine iteNo hd0 ⟨_, rfl, a, 3, n, rfl, hB, by omega, by decide, by decide, fun r H1 r0 r1 hB1 kp1 => ?_⟩
    have hr7 : r < 7 := by omega
    have hz : d = 0 → r < 3 := fun _ => r1
  all_goals
    clear r1 hd0
    refine ⟨_, rfl, rfl, _, rfl, ?_⟩
    by_cases h0 : V.int r = V.int 0
    · refine iteYes h0 ?_
      refine ⟨_, rfl, _, rfl, a, 1000000, n + 1, rfl, hB1, by omega, by decide, by decide, fun m H2 m0 m1 hB2 kp2 => ⟨sz (by simp), fun l nl => ?_⟩⟩
      refine ⟨a, l, _, _, rfl, hB2.new nl, by omega, SqL.of upd_same, (bag_ne hB2 nl).symm, by simp, by simp, fun v H4 hv hB4 kp4 => ?_⟩
      simp only [List.mem_cons, List.not_mem_nil, or_false] at hv
      have hnum : ∃ k : Nat, v = .int (k : Int) ∧ k ≤ 999999 := by
        rcases hv with rfl | rfl | rfl | rfl | rfl
        · exact ⟨0, rfl, by omega⟩
        · exact ⟨1, rfl, by omega⟩
        · exact ⟨12, rfl, by omega⟩
        · exact ⟨999999, rfl, by omega⟩
        · exact ⟨m.toNat, congrArg V.int (by omega), by omega⟩
      obtain ⟨k, rfl, hk⟩ := hnum
      exact q _ (.num k) H4 .num (by unfold TmW; exact hk) (hB4.mono (by omega)) (kp1.trans (kp2.trans ((Kp.new nl).trans kp4)))
    refine iteNo h0 ⟨_, rfl, _, _, rfl, rfl, _, rfl, ?_⟩
    by_cases h3 : r < 3
    · refine iteYes h3 ?_
      refine ⟨_, rfl, sz (by simp), fun l nl => ?_⟩
      refine ⟨a, l, _, _, rfl, hB1.new nl, by omega, SqL.of upd_same, (bag_ne hB1 nl).symm, by simp, by simp, fun v H3 hv hB3 kp3 => ⟨sz (by simp), fun p np => ?_⟩⟩
      have hx : ∃ x ∈ tnames, v = .str x := by
        obtain ⟨x, hx, e⟩ := List.mem_map.mp (show v ∈ tnames.map V.str from hv)
        exact ⟨x, hx, e.symm⟩
      obtain ⟨x, hx, rfl⟩ := hx
      exact q _ (.nd (.fst x) []) _ (InT.nd (InTs.nil _) upd_same) (by unfold TmW; exact ⟨⟨tnames_ok x hx, rfl⟩, TmWs.nil _⟩) ((hB3.new np).mono (by omega)) (kp1.trans ((Kp.new nl).trans (kp3.trans (Kp.new np))))
    refine iteNo h3 ⟨_, rfl, rfl, _, rfl, ?_⟩
    obtain ⟨d', rfl⟩ : ∃ d', d = d' + 1 := ⟨d - 1, by omega⟩
    have ed : (((d' + 1 : Nat) : Int) - 1) = (d' : Int) := by push_cast; omega
    have ec : tcost (d' + 1) = 4 + 3 * tcost d' := rfl
    have hcd := tcost_pos d'
    by_cases h4 : V.int r = V.int 3
    · refine iteYes h4 ⟨_, rfl, sz (by simp), fun l nl => ⟨a, l, _, _, rfl, hB1.new nl, by omega, SqL.of upd_same, (bag_ne hB1 nl).symm, by simp, by simp, fun v H3 hv hB3 kp3 => ?_⟩⟩
      have hx : ∃ x ∈ tsigns, v = .str x := by
        obtain ⟨x, hx, e⟩ := List.mem_map.mp (show v ∈ tsigns.map V.str from hv)
        exact ⟨x, hx, e.symm⟩
      obtain ⟨x, hx, rfl⟩ := hx
      refine ⟨_, rfl, _, rfl, _, _, rfl, rfl, a, n + 1 + 1, d', congrArg (fun z => [V.ref a, V.int z]) ed, hB3, by omega, by omega, fun u t1 H4 i1 w1 hB4 kp4 => ?_⟩
      refine ⟨_, rfl, _, rfl, _, _, rfl, rfl, a, _, d', congrArg (fun z => [V.ref a, V.int z]) ed, hB4, by omega, by omega, fun u2 t2 H5 i2 w2 hB5 kp5 => ⟨sz (by simp), fun p np => ?_⟩⟩
      have k45 := KT.kp hB4 kp5
      have k56 := KT.same (same_up (o := .tup [V.str x, u, u2]) np)
      exact q _ (.nd (.op x) [t1, t2]) _ (InT.nd (.cons (i1.keep (k45.trans k56)) (.cons (i2.keep k56) (.nil _))) upd_same) (by unfold TmW; exact ⟨⟨hx, rfl⟩, .cons w1 (.cons w2 (.nil _))⟩) ((hB5.new np).mono (by omega)) (kp1.trans ((Kp.new nl).trans (kp3.trans (kp4.trans (kp5.trans (Kp.new np))))))
    refine iteNo h4 ?_
    refine ⟨_, rfl, a, 4, _, rfl, hB1, by omega, by decide, by decide, fun m H2 m0 m1 hB2 kp2 => ⟨m, rfl, by omega, by omega, fun D nD => ?_⟩⟩
    have nDa : D ≠ a := (bag_ne hB2 nD).symm
    refine lc_range (lo := 0) (n := m.toNat) (fun i H' => ∃ (ts : List Tm) (ws : List V), H' D = some (.lst ws) ∧ InTs H' ts ws ∧ ts.length = i ∧ TmWs (d' + 1) ts ∧ BagAt H' a (n + 2 + i * tcost d') ∧ Kp a H2 H') ⟨[], [], upd_same, .nil _, rfl, .nil _, (hB2.new nD).mono (by omega), Kp.new nD⟩ ?_ ?_
    · rintro i H' hi ⟨ts, ws, eD, its, hl, hw, hB', kp'⟩
      have hmul : (i + 1) * tcost d' ≤ 3 * tcost d' := Nat.mul_le_mul_right _ (by omega)
      have hmul2 : (i + 1) * tcost d' = i * tcost d' + tcost d' := Nat.succ_mul _ _
      refine ⟨rfl, yes_i ⟨a, _, d', rfl, rfl, hB', by omega, by omega, fun v t H4 i4 w4 hB4 kp4 => ?_⟩⟩
      have eD4 : H4 D = some (.lst ws) := kp4 _ _ nDa eD
      have kk : KT H4 (upd H4 D (.lst (ws ++ [v]))) := fun p' xs z => by
        rw [upd_ne (fun y => by rw [y, eD4] at z; cases z)]; exact z
      refine ⟨ws, eD4, small1000 (by rw [its.len]; omega), ts ++ [t], ws ++ [v], upd_same, ((its.keep ((KT.kp hB' kp4).trans kk)).snoc (i4.keep kk)), by simp [hl], hw.snoc w4, ?_, fun b o nb z => ?_⟩
      · obtain ⟨x1, x2, x3, e5, e6⟩ := hB4
        exact BagAt.mono ⟨x1, x2, x3, by rw [upd_ne nDa.symm]; exact e5, e6⟩ (by omega)
      · have := kp4 _ _ nb (kp' _ _ nb z)
        rw [upd_ne (ne_of_none z nD)]
        exact this
    rintro H5 ⟨ts, ws, eD, its, hl, hw, hB5, kp5⟩
    refine .inl ⟨D, ws, rfl, SqL.of eD, fun tp ntp => ?_⟩
    have hmul : m.toNat * tcost d' ≤ 3 * tcost d' := Nat.mul_le_mul_right _ (by omega)
    have s6 := same_up (o := .tup ws) ntp
    have its6 := its.keep (KT.same s6)
    have hB6 := hB5.new (o := .tup ws) ntp
    refine ⟨_, rfl, sz (by simp), fun l nl => ⟨a, l, _, _, rfl, hB6.new nl, by omega, SqL.of upd_same, (bag_ne hB6 nl).symm, by simp, by simp, fun v H7 hv hB7 kp7 => ?_⟩⟩
    have hx : ∃ x, okName x = true ∧ v = .str x := by
      simp only [List.mem_cons, List.not_mem_nil, or_false] at hv
      rcases hv with rfl | rfl | rfl | rfl
      · exact ⟨_, tnames_ok "x" (by decide), rfl⟩
      · exact ⟨_, tnames_ok "f" (by decide), rfl⟩
      · exact ⟨_, tnames_ok "a" (by decide), rfl⟩
      · exact ⟨_, tnames_ok "abcdefgh" (by decide), rfl⟩
    obtain ⟨x, hx, rfl⟩ := hx
    have kl := KT.same (same_up (o := .lst [V.str "x", .str "f", .str "a", .str "abcdefgh"]) nl)
    have k67 := kl.trans (KT.kp (hB6.new nl) kp7)
    have etp := k67 _ _ (upd_same (H := H5) (a := tp) (o := .tup ws))
    have its7 := its6.keep k67
    have kp17 : Kp a H H7 := kp1.trans (kp2.trans (kp5.trans ((Kp.new ntp).trans ((Kp.new nl).trans kp7))))
    refine ⟨_, rfl, rfl, _, rfl, ?_⟩
    by_cases h5 : V.int r = V.int 4
    · refine iteYes h5 ⟨_, rfl, _, rfl, sz (by simp), fun p np => ?_⟩
      have k78 := KT.same (same_up (o := .tup [V.str "value", .str x, .ref tp]) np)
      exact q _ (.nd (.val x) ts) _ (InT.nd (its7.keep k78) ⟨tp, upd_same, k78 _ _ etp⟩) (by unfold TmW; exact ⟨⟨hx, by omega⟩, hw⟩) ((hB7.new np).mono (by omega)) (kp17.trans (Kp.new np))
    refine iteNo h5 ⟨_, rfl, _, rfl, sz (by simp), fun l2 nl2 => ⟨a, l2, _, _, rfl, hB7.new nl2, by omega, SqL.of upd_same, (bag_ne hB7 nl2).symm, by simp, by simp, fun v2 H8 hv2 hB8 kp8 => ?_⟩⟩
    have hy : ∃ y, okName y = true ∧ v2 = .str y := by
      simp only [List.mem_cons, List.not_mem_nil, or_false] at hv2
      rcases hv2 with rfl | rfl | rfl
      · exact ⟨_, tnames_ok "x" (by decide), rfl⟩
      · exact ⟨_, tnames_ok "f" (by decide), rfl⟩
      · exact ⟨_, tnames_ok "aa" (by decide), rfl⟩
    obtain ⟨y, hy, rfl⟩ := hy
    have k78 := (KT.same (same_up (o := .lst [V.str "x", .str "f", .str "aa"]) nl2)).trans (KT.kp (hB7.new nl2) kp8)
    refine ⟨_, rfl, sz (by simp), fun p np => ?_⟩
    have k89 := KT.same (same_up (o := .tup [V.str "left", .str x, .str y, .ref tp]) np)
    exact q _ (.nd (.lef x y) ts) _ (InT.nd (its7.keep (k78.trans k89)) ⟨tp, upd_same, k89 _ _ (k78 _ _ etp)⟩) (by unfold TmW; exact ⟨⟨hx, hy, by omega⟩, hw⟩) ((hB8.new np).mono (by omega)) (kp17.trans ((Kp.new nl2).trans (kp8.trans (Kp.new np))))
end
end Oo
namespace Oo
open PySem L2 PyProof.Rows
abbrev sWri : Stmt := top 11
def Tm.txt (t : Tm) : Str := ⟨t.cs.toArray⟩
theorem lc_txt (t : Tm) : lc_ t.txt = t.cs := by
  show (t.cs.toArray).toList = _
  rw [List.toList_toArray]
theorem txt_of {t : Tm} {x : Str} (h : lc_ x = t.cs) : x = t.txt := lc_inj (by rw [h, lc_txt])
theorem lc_len (x : Str) : x.length = (lc_ x).length := by
  show x.cps.size = x.cps.toList.length
  rw [Array.length_toList]
def tl : Nat → Nat
  | 0 => 40
  | d + 1 => 3 * tl d + 40
theorem tl_mono : ∀ {d d' : Nat}, d ≤ d' → tl d ≤ tl d'
  | d, 0, h => by have : d = 0 := by omega
                  rw [this]; exact Nat.le_refl _
  | 0, d' + 1, h => by show 40 ≤ 3 * tl d' + 40; omega
  | d + 1, d' + 1, h => by
    have := tl_mono (d := d) (d' := d') (by omega)
    show 3 * tl d + 40 ≤ 3 * tl d' + 40
    omega
theorem name_len {x : Str} (h : okName x = true) : (lc_ x).length ≤ 8 := by
  unfold okName at h
  simp only [Bool.and_eq_true, decide_eq_true_eq] at h
  rw [← lc_len]
  exact h.1.2
def sumL (cs : List (List Nat)) : Nat := (cs.map List.length).sum
theorem jn_len : ∀ cs : List (List Nat), (jn cs).length ≤ sumL cs + 2 * cs.length
  | [] => by simp [jn]
  | [c] => by simp [jn, sumL]
  | c :: d :: r => by
    have := jn_len (d :: r)
    simp only [jn, List.length_append, List.length_cons, sumL, List.map_cons, List.sum_cons] at this ⊢
    omega
theorem tkW_len {k : Tk} {n : Nat} (h : TkW k n) : n ≤ 3 := by
  cases k with
  | fst x => have := h.2; omega
  | op s => have := h.2; omega
  | val f => exact h.2
  | lef f x => exact h.2.2
mutual
theorem cs_len : ∀ (t : Tm) {d : Nat}, TmW d t → t.cs.length ≤ tl d
  | .num n, d, h => by
    unfold TmW at h
    unfold Tm.cs dg
    have h1 : (Str.ofString (toString (n : Int))).length ≤ 10 := PyProof.Rows.toString_length_le (by omega) (by decide) (by omega)
    rw [← lc_len]
    have := tl_mono (Nat.zero_le d)
    have e : tl 0 = 40 := rfl
    omega
  | .nd k ts, d, h => by
    unfold TmW at h
    have h2 := jn_len (Tm.css ts)
    rw [css_len] at h2
    have h3 := tkW_len h.1
    have h0 := tl_mono (Nat.zero_le d)
    have e0 : tl 0 = 40 := rfl
    have hS : sumL (Tm.css ts) + 40 ≤ tl d := by
      cases d with
      | zero =>
        have hz : ts = [] := by
          cases ts with
          | nil => rfl
          | cons t r => exact absurd h.2 (by unfold TmWs; exact id)
        subst hz
        simp only [Tm.css, sumL, List.map_nil, List.sum_nil]
        omega
      | succ d =>
        have h1 := css_sum ts h.2
        have h4 : ts.length * tl d ≤ 3 * tl d := Nat.mul_le_mul_right _ h3
        show _ ≤ 3 * tl d + 40
        omega
    unfold Tm.cs
    cases k with
    | fst x =>
      have := name_len h.1.1
      show (lc_ x).length ≤ _
      omega
    | op s =>
      obtain ⟨a, b, rfl⟩ := two_of h.1.2
      obtain ⟨c, hc, _⟩ := tsign_cs s h.1.1
      simp only [Tm.css, sumL, List.map_cons, List.map_nil, List.sum_cons, List.sum_nil] at hS
      simp only [Tm.css, Tk.cs, hc, List.length_cons, List.length_append, List.length_nil]
      omega
    | val f =>
      have := name_len h.1.1
      simp only [Tk.cs, List.length_append, List.length_cons, List.length_nil]
      omega
    | lef f x =>
      have := name_len h.1.1
      have := name_len h.1.2.1
      simp only [Tk.cs, List.length_append, List.length_cons, List.length_nil]
      omega
theorem css_sum : ∀ (ts : List Tm) {d : Nat}, TmWs (d + 1) ts → sumL (Tm.css ts) ≤ ts.length * tl d
  | [], d, h => by simp [Tm.css, sumL]
  | t :: r, d, h => by
    unfold TmWs at h
    have h1 := cs_len t h.1
    have h2 := css_sum r h.2
    simp only [Tm.css, sumL, List.map_cons, List.sum_cons, List.length_cons] at h2 ⊢
    rw [Nat.succ_mul]
    omega
end
theorem tl_8 {d : Nat} (h : d ≤ 8) : tl d ≤ 400000 := Nat.le_trans (tl_mono h) (by decide)
theorem txt_len {t : Tm} {d : Nat} (h : TmW d t) (hd : d ≤ 8) : t.txt.length ≤ 400000 := by
  rw [lc_len, lc_txt]
  exact Nat.le_trans (cs_len t h) (tl_8 hd)
def Tm.txts (ts : List Tm) : List Str := ts.map Tm.txt
theorem lc_join : ∀ ts : List Tm, lc_ (Txt.join ", " (ts.map Tm.txt)) = jn (Tm.css ts)
  | [] => by
    show lc_ (Builtin.Str.glued _ _) = _
    rw [StrLaws.glued_eq_join]
    rfl
  | [t] => by
    show lc_ (Builtin.Str.glued _ _) = _
    rw [StrLaws.glued_eq_join]
    show lc_ t.txt = _
    rw [lc_txt]
    simp only [Tm.css, jn]
  | t :: u :: r => by
    have ih : lc_ (Builtin.Str.glued ", " ((u :: r).map Tm.txt)) = jn (Tm.css (u :: r)) := lc_join (u :: r)
    show lc_ (Builtin.Str.glued _ _) = _
    rw [StrLaws.glued_eq_join] at ih ⊢
    show lc_ (t.txt ++ ", " ++ Str.join ", " ((u :: r).map Tm.txt)) = _
    rw [lc_app, lc_app, ih, lc_txt]
    have : lc_ (", " : Str) = [44, 32] := by decide +kernel
    rw [this]
    simp only [Tm.css, jn, List.append_assoc, List.cons_append, List.nil_append]
def Tk.word : Tk → Str
  | .fst _ => "first"
  | .op s => s
  | .val _ => "value"
  | .lef _ _ => "left"
theorem NodeT.tup {H : Hp} {p : Addr} : ∀ {k : Tk} {vs : List V}, NodeT H p k vs → ∃ tl, H p = some (.tup (.str k.word :: tl))
  | .fst x, vs, h => ⟨_, h⟩
  | .op s, vs, h => ⟨_, h⟩
  | .val f, vs, ⟨q, h, _⟩ => ⟨_, h⟩
  | .lef f x, vs, ⟨q, h, _⟩ => ⟨_, h⟩
theorem sgn_ne {s : Str} (h : s ∈ tsigns) : V.str s ≠ V.str "first" ∧ V.str s ≠ V.str "value" ∧ V.str s ≠ V.str "left" ∧ inV (.str s) [.str "value", .str "left"] = false := by
  simp only [tsigns, List.mem_cons, List.not_mem_nil, or_false] at h
  rcases h with rfl | rfl | rfl | rfl <;> decide +kernel
theorem txts_sum : ∀ ts : List Tm, ((ts.map Tm.txt).map (·.length)).sum = sumL (Tm.css ts)
  | [] => by simp [Tm.css, sumL]
  | t :: r => by
    have := txts_sum r
    simp only [Tm.css, sumL, List.map_cons, List.sum_cons] at this ⊢
    rw [this, lc_len, lc_txt]
theorem sum_8 {ts : List Tm} {d : Nat} (h : TmWs d ts) (h3 : ts.length ≤ 3) (hd : d ≤ 8) : sumL (Tm.css ts) ≤ 1200000 := by
  cases d with
  | zero =>
    have hz : ts = [] := by
      cases ts with
      | nil => rfl
      | cons t r => exact absurd h (by unfold TmWs; exact id)
    subst hz
    simp [Tm.css, sumL]
  | succ d =>
    have h1 := css_sum ts h
    have h2 := tl_8 (show d ≤ 8 by omega)
    have h4 : ts.length * tl d ≤ 3 * 400000 := Nat.mul_le_mul h3 h2
    omega
def spWri (N : Nat) : Sp := fun vs H Q _ => ∃ (v : V) (t : Tm) (d : Nat), vs = [v] ∧ InT H t v ∧ TmW d t ∧ d < N ∧ d ≤ 8 ∧ ∀ H', Same H H' → Q (.str t.txt) H'
theorem no_wri {N : Nat} (h : N = 0) : ∀ vs H Q E, ¬ spWri N vs H Q E := fun vs H Q E q => by
  obtain ⟨_, _, _, _, _, _, hd, _⟩ := q
  omega
def teWri (N : Nat) : TE := fun σ H Q => ∃ (v : V) (t : Tm) (d : Nat), σ[2]? = some (some v) ∧ InT H t v ∧ TmW d t ∧ d < N ∧ d ≤ 8 ∧ ∀ H', Same H H' → Q (.str t.txt) H'
section
variable {P : Program} {w : World} {K : PySem.W.Frag} {mg : Str → Option Value} {base : Heap} {X : Cx}
theorem scWri : FnScope ["_law_thing", "_law_head", "_law_one"] ["_law_thing"] (defScope sWri) := ⟨rfl, rfl, rfl, by decide +kernel, rfl, by decide +kernel, by decide +kernel⟩
theorem ok_wri {N L : Nat} {f : Addr} {fd : FuncData} (F : Fun K "_law_written" "_law_written" sWri f fd) (mi : mg "int" = none) (mis : mg "isinstance" = none) (mst : mg "str" = none)
    (GN : FnOk P w K mg base CX0 L f fd ["_law_thing"] (spWri N)) (kN : PySem.W.keepIn K (.ref f) = true) (bN : Binds K fd ["_law_thing"] []) (mN : mg "_law_written" = some (.ref f)) :
    FnOk P w K mg base CX0 (L + 1) f fd ["_law_thing"] (spWri (N + 1)) := by
  refine F.ok scWri (fun vs H Q E h => ?_) (fun cdv A outer s H vs Q E hr h => ?_)
  · obtain ⟨v, t, d, rfl, _⟩ := h
    rfl
  obtain ⟨v, t, d, rfl, it, wt, hd, hd8, q⟩ := h
  refine ⟨_, (pss_cons (ps_if (pt_val (pe_callB call_isi (by rfl) mis boot_isinstance (pa_cons (pv 0) (pa_cons (pe_bltn (v := .ty "int") (by rfl) mi (by decide +kernel) rfl) pa_nil)))) (pss_one (ps_ret (pe_callTy call_str_int (by rfl) mst (by decide +kernel) (pa_cons (pv 0) pa_nil)))) pss_nil)
    (pss_cons (ps_if (pt_cmpR op_eq (pe_ix ix_tup (pv 0) pe_int (fun _ _ => rfl)) pe_str (nomark _)) (pss_one (ps_ret (pe_ix ix_tup (pv 0) pe_int (fun _ _ => rfl)))) pss_nil)
    (pss_cons (ps_if (pt_cmpR op_in_seq (pe_ix ix_tup (pv 0) pe_int (fun _ _ => rfl)) (pe_tup (pa_cons pe_str (pa_cons pe_str pa_nil))) (by rfl)) (pss_cons (ps_set (i := 1) scWri.nd rfl (.inl rfl) (pe_ifExp (pt_cmpR op_eq (pe_ix ix_tup (pv 0) pe_int (fun _ _ => rfl)) pe_str (nomark _)) (pe_ix ix_tup (pv 0) pe_int (fun _ _ => rfl)) (pe_op op_add_str (pe_op op_add_str (pe_ix ix_tup (pv 0) pe_int (fun _ _ => rfl)) pe_str) (pe_ix ix_tup (pv 0) pe_int (fun _ _ => rfl)))))
    (pss_one (ps_ret (pe_op op_add_str (pe_op op_add_str (pe_op op_add_str (pv 1) pe_str) (pe_join pe_str (pe_lc (own := [("_law_one", 2)]) (g := gName 2) (tt := tYes) (by rfl) scWri.nd (pi_tup (pe_ix ix_tup (pv 0) (pe_un un_neg pe_int) (fun _ _ => rfl))) (blkOk_by (own := [("_law_one", 2)]) (N := ["_law_thing", "_law_head", "_law_one"]) (sc := defScope sWri) (by decide +kernel)) (fun _ _ _ _ _ => (pg_name (i := 2) scWri.nd rfl (Or.inl rfl))) (fun _ _ _ _ _ => pts_nil) (fun _ _ _ _ _ => (pe_as (t' := teWri N) (pe_call GN hr rfl mN kN bN .nil pass0 (pa_cons (pv 2) pa_nil)) ?c1))))) pe_str)))) pss_nil)
    (pss_one (ps_ret (pe_op op_add_str (pe_op op_add_str (pe_op op_add_str (pe_op op_add_str (pe_op op_add_str (pe_op op_add_str pe_str (pe_call GN hr rfl mN kN bN .nil pass0 (pa_cons (pe_ix ix_tup (pv 0) pe_int (fun _ _ => rfl)) pa_nil))) pe_str) (pe_ix ix_tup (pv 0) pe_int (fun _ _ => rfl))) pe_str) (pe_call GN hr rfl mN kN bN .nil pass0 (pa_cons (pe_ix ix_tup (pv 0) pe_int (fun _ _ => rfl)) pa_nil))) pe_str)))))), ?_⟩
  case c1 =>
    rintro σ H Q ⟨v, t, d, e2, it, wt, hd, hd8, q⟩
    exact ⟨_, e2, v, t, d, rfl, it, wt, hd, hd8, q⟩
  cases t with
  | num n =>
    unfold InT at it
    subst it
    unfold TmW at wt
    refine ⟨_, rfl, _, _, _, _, true, rfl, .ty "int", .base (.int n), kit_ty (by decide +kernel), _, rfl, iteT ?_⟩
    refine ⟨_, rfl, n, rfl, log_small (by omega) (by omega), ?_⟩
    have : Str.ofString (toString (n : Int)) = (Tm.num n).txt := txt_of (by unfold Tm.cs; rfl)
    have := this ▸ q H (Same.refl H)
    exact this
  | nd k ts =>
    have it0 := it
    unfold InT at it
    obtain ⟨p, ws, rfl, its, na⟩ := it
    obtain ⟨tls, ht⟩ := na.tup
    have wt0 := wt
    unfold TmW at wt
    have hl8 := txt_len wt0 hd8
    refine ⟨_, rfl, _, _, _, _, false, rfl, .ty "int", .base (.tup ht), kit_ty (by decide +kernel), _, rfl, iteF ?_⟩
    refine ⟨_, rfl, p, _, _, _, rfl, rfl, SqT.of ht, at0 _ _, rfl, _, rfl, ?_⟩
    cases k
    case fst x =>
      refine iteYes rfl ⟨_, rfl, p, _, _, _, rfl, rfl, SqT.of na, at1 _ _ _, ?_⟩
      have : x = (Tm.nd (.fst x) ts).txt := txt_of (by unfold Tm.cs; rfl)
      exact this ▸ q H (Same.refl H)
    case op sg =>
      obtain ⟨n1, n2, n3, n4⟩ := sgn_ne wt.1.1
      refine iteNo n1 ⟨_, rfl, p, _, _, _, rfl, rfl, SqT.of ht, at0 _ _, sz (by decide), fun t1 ht1 => ?_⟩
      have s1 := same_up (o := .tup [.str "value", .str "left"]) ht1
      refine ⟨t1, _, rfl, .inr (SqT.of upd_same), rfl, rfl, _, rfl, ?_⟩
      show if inV (.str sg) [.str "value", .str "left"] = true then _ else _
      rw [n4]
      refine iteF ?_
      obtain ⟨ta, tb, rfl⟩ := two_of wt.1.2
      obtain ⟨va, hva, ia⟩ := its.get 0 (by simp)
      obtain ⟨vb, hvb, ib⟩ := its.get 1 (by simp)
      have hw2 : ws = [va, vb] := by
        have hl := its.len
        match ws, hl, hva, hvb with
        | [x, y], _, ha, hb => rw [Option.some.inj ha, Option.some.inj hb]
      subst hw2
      obtain ⟨d', rfl⟩ := TmWs.pos wt.2 (by simp)
      have wa : TmW d' ta := TmWs.get wt.2 0 (by simp)
      have wb : TmW d' tb := TmWs.get wt.2 1 (by simp)
      have la := txt_len wa (by omega)
      have lb := txt_len wb (by omega)
      obtain ⟨c, hc, _⟩ := tsign_cs sg wt.1.1
      have lsg : sg.length = 1 := by rw [lc_len, hc]; rfl
      have l1 : ("(" : Str).length = 1 := rfl
      have l2 : (" " : Str).length = 1 := rfl
      have l3 : (")" : Str).length = 1 := rfl
      have hfin : ("(" : Str) ++ ta.txt ++ " " ++ sg ++ " " ++ tb.txt ++ ")" = (Tm.nd (.op sg) [ta, tb]).txt := txt_of (by
        have c1 : lc_ ("(" : Str) = [40] := by decide +kernel
        have c2 : lc_ (" " : Str) = [32] := by decide +kernel
        have c3 : lc_ (")" : Str) = [41] := by decide +kernel
        simp only [lc_app, lc_txt, c1, c2, c3, Tm.cs, Tm.css, Tk.cs, List.append_assoc, List.cons_append, List.nil_append])
      have k1 := KT.same s1
      have hB : ∀ n : Nat, n ≤ 1000000 → n ≤ sizeLine := fun n h => Nat.le_trans h (by decide)
      refine ⟨_, rfl, p, _, _, _, rfl, rfl, SqT.of (s1 _ _ na), (rfl : atI [V.str sg, va, vb] 1 = some va), va, ta, d', rfl, ia.keep k1, wa, by omega, by omega, fun H2 s2 => ?_⟩
      refine ⟨_, _, rfl, rfl, hB _ (by omega), _, _, rfl, rfl, hB _ (by rw [Str.length_append]; omega), _, rfl, p, _, _, _, rfl, rfl, SqT.of ((s1.trans s2) _ _ na), (rfl : atI [V.str sg, va, vb] 0 = some (.str sg)), _, _, rfl, rfl, hB _ (by simp only [Str.length_append]; omega), _, _, rfl, rfl, hB _ (by simp only [Str.length_append]; omega), ?_⟩
      refine ⟨_, rfl, p, _, _, _, rfl, rfl, SqT.of ((s1.trans s2) _ _ na), (rfl : atI [V.str sg, va, vb] 2 = some vb), vb, tb, d', rfl, ib.keep (k1.trans (KT.same s2)), wb, by omega, by omega, fun H3 s3 => ?_⟩
      refine ⟨_, _, rfl, rfl, hB _ (by simp only [Str.length_append]; omega), _, _, rfl, rfl, hB _ (by simp only [Str.length_append]; omega), ?_⟩
      rw [hfin]
      exact q H3 ((s1.trans s2).trans s3)
    case' val fn =>
      obtain ⟨q0, hp0, hq0⟩ := na
      refine iteNo (show ¬ (V.str "value" = V.str "first") by decide +kernel) ⟨_, rfl, p, _, _, _, rfl, rfl, SqT.of hp0, at0 _ _, sz (by decide), fun t1 ht1 => ?_⟩
      have s1 := same_up (o := .tup [.str "value", .str "left"]) ht1
      refine ⟨t1, _, rfl, .inr (SqT.of upd_same), rfl, rfl, _, rfl, ?_⟩
      refine iteYes (show inV (.str "value") [.str "value", .str "left"] = true by decide +kernel) ?_
      refine ⟨_, rfl, p, _, _, _, rfl, rfl, SqT.of (s1 _ _ hp0), at0 _ _, rfl, _, rfl, iteYes rfl ⟨_, rfl, p, _, _, _, rfl, rfl, SqT.of (s1 _ _ hp0), at1 _ _ _, ?_⟩⟩
      have hpx := s1 _ _ hp0
      have hlast : atI [V.str "value", .str fn, .ref q0] (-1) = some (.ref q0) := rfl
      have hdl : fn.length ≤ 17 := by
        rw [lc_len]
        have := name_len wt.1.1
        omega
      have hfin : ∀ y : Str, y = fn ++ "(" ++ Txt.join ", " (ts.map Tm.txt) ++ ")" → y = (Tm.nd (.val fn) ts).txt := fun y e => txt_of (by
        have c1 : lc_ ("(" : Str) = [40] := by decide +kernel
        have c3 : lc_ (")" : Str) = [41] := by decide +kernel
        rw [e]
        simp only [lc_app, lc_join, c1, c3, Tm.cs, Tk.cs, List.append_assoc, List.cons_append, List.nil_append])
    case' lef fn x =>
      obtain ⟨q0, hp0, hq0⟩ := na
      refine iteNo (show ¬ (V.str "left" = V.str "first") by decide +kernel) ⟨_, rfl, p, _, _, _, rfl, rfl, SqT.of hp0, at0 _ _, sz (by decide), fun t1 ht1 => ?_⟩
      have s1 := same_up (o := .tup [.str "value", .str "left"]) ht1
      refine ⟨t1, _, rfl, .inr (SqT.of upd_same), rfl, rfl, _, rfl, ?_⟩
      refine iteYes (show inV (.str "left") [.str "value", .str "left"] = true by decide +kernel) ?_
      have l1 : ("." : Str).length = 1 := rfl
      have n1 : fn.length ≤ 8 := by rw [lc_len]; exact name_len wt.1.1
      have n2 : x.length ≤ 8 := by rw [lc_len]; exact name_len wt.1.2.1
      have hB1 : ∀ n : Nat, n ≤ 1000000 → n ≤ sizeLine := fun n h => Nat.le_trans h (by decide)
      refine ⟨_, rfl, p, _, _, _, rfl, rfl, SqT.of (s1 _ _ hp0), at0 _ _, rfl, _, rfl, iteNo (show ¬ (V.str "left" = V.str "value") by decide +kernel) ⟨_, rfl, p, _, _, _, rfl, rfl, SqT.of (s1 _ _ hp0), at1 _ _ _, _, _, rfl, rfl, hB1 _ (by omega), _, rfl, p, _, _, _, rfl, rfl, SqT.of (s1 _ _ hp0), (rfl : atI [V.str "left", .str fn, .str x, .ref q0] 2 = some (.str x)), _, _, rfl, rfl, hB1 _ (by rw [Str.length_append]; omega), ?_⟩⟩
      have hpx := s1 _ _ hp0
      have hlast : atI [V.str "left", .str fn, .str x, .ref q0] (-1) = some (.ref q0) := rfl
      have hdl : (fn ++ "." ++ x).length ≤ 17 := by
        rw [Str.length_append, Str.length_append]
        omega
      have hfin : ∀ y : Str, y = fn ++ "." ++ x ++ "(" ++ Txt.join ", " (ts.map Tm.txt) ++ ")" → y = (Tm.nd (.lef fn x) ts).txt := fun y e => txt_of (by
        have c0 : lc_ ("." : Str) = [46] := by decide +kernel
        have c1 : lc_ ("(" : Str) = [40] := by decide +kernel
        have c3 : lc_ (")" : Str) = [41] := by decide +kernel
        rw [e]
        simp only [lc_app, lc_join, c0, c1, c3, Tm.cs, Tk.cs, List.append_assoc, List.cons_append, List.nil_append])
    all_goals
      have hB : ∀ n : Nat, n ≤ 2000000 → n ≤ sizeLine := fun n h => Nat.le_trans h (by decide)
      have l1 : ("(" : Str).length = 1 := rfl
      have l2 : (")" : Str).length = 1 := rfl
      have l3 : (", " : Str).length = 2 := rfl
      have hq1 := s1 _ _ hq0
      have its1 := its.keep (KT.same s1)
      have hlen := its.len
      have h3 := tkW_len wt.1
      have hsum := sum_8 wt.2 h3 hd8
      refine ⟨_, rfl, _, _, rfl, rfl, hB _ (by omega), ⟨_, rfl⟩, _, rfl, _, rfl, p, _, _, _, rfl, rfl, SqT.of hpx, hlast, q0, rfl, ⟨_, SqT.of hq1⟩, fun D nD => ?_⟩
      refine lc_tup (K := K) (a := q0) (xs := ws) (fun i H' => H' D = some (.lst (((ts.take i).map Tm.txt).map V.str)) ∧ Same (upd H t1 (.tup [.str "value", .str "left"])) H') ⟨upd_same, same_up nD⟩ (fun i H' _ h => SqT.of (h.2 _ _ hq1)) ?_ ?_
      · rintro i u H2 hi ⟨eD, s2⟩
        have hil : i < ts.length := by rw [← hlen]; exact (List.getElem?_eq_some_iff.mp hi).1
        obtain ⟨v, hv, iv⟩ := its1.get i hil
        have : u = v := Option.some.inj (hi.symm.trans hv)
        subst this
        obtain ⟨d', rfl⟩ := TmWs.pos wt.2 (by intro z; rw [z] at hil; simp at hil)
        refine ⟨rfl, yes_i ⟨u, ts[i], d', rfl, iv.keep (KT.same s2), wt.2.get i hil, by omega, by omega, fun H3 s3 => ⟨_, s3 _ _ eD, small1000 (by rw [List.length_map, List.length_map, List.length_take]; omega), ?_, fun b o z => by rw [upd_ne (ne_of_none z nD)]; exact s3 _ _ (s2 _ _ z)⟩⟩⟩
        rw [take_succ_get _ i hil, List.map_append, List.map_append]
        exact upd_same
      rintro H2 ⟨eD, s2⟩
      rw [hlen, List.take_length] at eD
      have hjl : (Txt.join ", " (ts.map Tm.txt)).length ≤ 1200006 := by
        rw [lc_len, lc_join]
        have := jn_len (Tm.css ts)
        rw [css_len] at this
        omega
      refine ⟨", ", D, ts.map Tm.txt, rfl, rfl, .inl (SqL.of eD), ?_, ?_⟩
      · rw [txts_sum, List.length_map, l3]
        omega
      refine ⟨_, _, rfl, rfl, hB _ (by rw [Str.length_append]; omega), _, _, rfl, rfl, hB _ (by rw [Str.length_append, Str.length_append]; omega), ?_⟩
      rw [hfin _ rfl]
      exact q H2 (s1.trans s2)
end
end Oo
namespace Oo
open PySem L2 PyProof.Rows StX
abbrev sPieces : Stmt := top 4
abbrev sCallP : Stmt := top 5
abbrev sShow : Stmt := top 3
abbrev sIsInt : Stmt := top 1
/-! pieces of texts -/
inductive Pc where
  | s (x : Str) | t (u : Tm)
def PcAt (H : Hp) (v : V) : Pc → Prop
  | .s x => v = .str x
  | .t u => InT H u v
theorem PcAt.keep {H H' : Hp} (k : KT H H') {v : V} : ∀ {x : Pc}, PcAt H v x → PcAt H' v x
  | .s x, h => h
  | .t u, h => InT.keep k u h
def inner : List Tm → List Pc
  | [] => []
  | [t] => [.t t]
  | t :: u :: r => .t t :: .s ", " :: inner (u :: r)
theorem inner_snoc : ∀ (ts : List Tm) (u : Tm), inner (ts ++ [u]) = inner ts ++ (if ts = [] then [Pc.t u] else [Pc.s ", ", Pc.t u])
  | [], u => by simp [inner]
  | [t], u => by simp [inner]
  | t :: x :: r, u => by
    have := inner_snoc (x :: r) u
    simp only [List.cons_append, inner] at this ⊢
    rw [this]
    simp
def cps (name : Str) (ts : List Tm) : List Pc := Pc.s (name ++ "(") :: inner ts ++ [Pc.s ")"]
def Tm.pcs : Tm → List Pc
  | .num n => [.s (Str.ofString (toString (n : Int)))]
  | .nd (.fst x) _ => [.s x]
  | .nd (.op sg) ts => match ts with
    | [a, b] => [.s "(", .t a, .s (Str.empty ++ " " ++ sg ++ " "), .t b, .s ")"]
    | _ => []
  | .nd (.val f) ts => cps f ts
  | .nd (.lef f x) ts => cps (Str.empty ++ f ++ "." ++ x) ts
def Pc.cs : Pc → List Nat
  | .s x => lc_ x
  | .t u => u.cs
theorem inner_cs : ∀ ts : List Tm, (inner ts).flatMap Pc.cs = jn (Tm.css ts)
  | [] => by simp [inner, Tm.css, jn]
  | [t] => by simp [inner, Tm.css, jn, Pc.cs]
  | t :: u :: r => by
    have := inner_cs (u :: r)
    have c : lc_ (", " : Str) = [44, 32] := by decide +kernel
    simp only [inner, List.flatMap_cons, Pc.cs, c, this]
    simp [Tm.css, jn]
theorem lc_empty : lc_ Str.empty = [] := rfl
theorem pcs_cs {t : Tm} {d : Nat} (h : TmW d t) : t.pcs.flatMap Pc.cs = t.cs := by
  have c0 : lc_ ("." : Str) = [46] := by decide +kernel
  have c1 : lc_ ("(" : Str) = [40] := by decide +kernel
  have c2 : lc_ (" " : Str) = [32] := by decide +kernel
  have c3 : lc_ (")" : Str) = [41] := by decide +kernel
  cases t with
  | num n => simp [Tm.pcs, Pc.cs, Tm.cs, dg]
  | nd k ts =>
    unfold TmW at h
    cases k with
    | fst x => simp [Tm.pcs, Pc.cs, Tm.cs, Tk.cs]
    | op sg =>
      obtain ⟨a, b, rfl⟩ := two_of h.1.2
      simp [Tm.pcs, Pc.cs, Tm.cs, Tm.css, Tk.cs, lc_app, lc_empty, c1, c2, c3]
    | val f => simp [Tm.pcs, cps, Pc.cs, Tm.cs, Tk.cs, lc_app, c1, c3, inner_cs]
    | lef f x => simp [Tm.pcs, cps, Pc.cs, Tm.cs, Tk.cs, lc_app, lc_empty, c0, c1, c3, inner_cs]
mutual
def Tm.wt : Tm → Nat
  | .num _ => 2
  | .nd _ ts => 8 + Tm.wts ts
def Tm.wts : List Tm → Nat
  | [] => 0
  | t :: r => 1 + t.wt + Tm.wts r
end
def Pc.wt : Pc → Nat
  | .s _ => 1
  | .t u => u.wt
def psum (l : List Pc) : Nat := (l.map Pc.wt).sum
theorem psum_append (a b : List Pc) : psum (a ++ b) = psum a + psum b := by simp [psum]
theorem psum_rev (a : List Pc) : psum a.reverse = psum a := by simp [psum, List.sum_reverse]
theorem wt_pos (u : Tm) : 1 ≤ u.wt := by cases u <;> (unfold Tm.wt; omega)
theorem psum_len : ∀ a : List Pc, a.length ≤ psum a
  | [] => by simp [psum]
  | x :: r => by
    have h1 := psum_len r
    have h2 : 1 ≤ x.wt := by
      cases x with
      | s x => exact Nat.le_refl _
      | t u => exact wt_pos u
    simp only [psum, List.map_cons, List.sum_cons, List.length_cons] at h1 ⊢
    omega
theorem inner_wt : ∀ ts : List Tm, psum (inner ts) ≤ Tm.wts ts
  | [] => by simp [inner, psum]
  | [t] => by
    simp only [inner, psum, List.map_cons, List.map_nil, List.sum_cons, List.sum_nil, Pc.wt, Tm.wts]
    omega
  | t :: u :: r => by
    have h := inner_wt (u :: r)
    have e : Tm.wts (t :: u :: r) = 1 + t.wt + Tm.wts (u :: r) := by simp only [Tm.wts]
    rw [e]
    simp only [inner, psum, List.map_cons, List.sum_cons, Pc.wt] at h ⊢
    omega
theorem pcs_wt {t : Tm} {d : Nat} (h : TmW d t) : psum t.pcs < t.wt := by
  cases t with
  | num n => simp [Tm.pcs, psum, Pc.wt, Tm.wt]
  | nd k ts =>
    unfold TmW at h
    have hi := inner_wt ts
    unfold Tm.wt
    cases k with
    | fst x => simp only [Tm.pcs, psum, List.map_cons, List.map_nil, List.sum_cons, List.sum_nil, Pc.wt]; omega
    | op sg =>
      obtain ⟨a, b, rfl⟩ := two_of h.1.2
      simp only [Tm.pcs, psum, List.map_cons, List.map_nil, List.sum_cons, List.sum_nil, Pc.wt, Tm.wts]
      omega
    | val f =>
      simp only [Tm.pcs, cps, psum_append]
      simp only [psum, List.map_cons, List.map_nil, List.sum_cons, List.sum_nil, Pc.wt] at hi ⊢
      omega
    | lef f x =>
      simp only [Tm.pcs, cps, psum_append]
      simp only [psum, List.map_cons, List.map_nil, List.sum_cons, List.sum_nil, Pc.wt] at hi ⊢
      omega
def tw : Nat → Nat
  | 0 => 8
  | d + 1 => 8 + 3 * (1 + tw d)
theorem tw_mono : ∀ {d d' : Nat}, d ≤ d' → tw d ≤ tw d'
  | d, 0, h => by have : d = 0 := by omega
                  rw [this]; exact Nat.le_refl _
  | 0, d' + 1, h => by show 8 ≤ 8 + 3 * (1 + tw d'); omega
  | d + 1, d' + 1, h => by
    have := tw_mono (d := d) (d' := d') (by omega)
    show 8 + 3 * (1 + tw d) ≤ 8 + 3 * (1 + tw d')
    omega
mutual
theorem wt_le : ∀ (t : Tm) {d : Nat}, TmW d t → t.wt ≤ tw d
  | .num n, d, h => by
    have := tw_mono (Nat.zero_le d)
    have e : tw 0 = 8 := rfl
    unfold Tm.wt
    omega
  | .nd k ts, d, h => by
    unfold TmW at h
    unfold Tm.wt
    cases d with
    | zero =>
      have hz : ts = [] := by
        cases ts with
        | nil => rfl
        | cons t r => exact absurd h.2 (by unfold TmWs; exact id)
      subst hz
      unfold Tm.wts
      exact Nat.le_refl _
    | succ d =>
      have h1 := wts_le ts h.2
      have h4 : ts.length * (1 + tw d) ≤ 3 * (1 + tw d) := Nat.mul_le_mul_right _ (tkW_len h.1)
      show _ ≤ 8 + 3 * (1 + tw d)
      omega
theorem wts_le : ∀ (ts : List Tm) {d : Nat}, TmWs (d + 1) ts → Tm.wts ts ≤ ts.length * (1 + tw d)
  | [], d, h => by simp [Tm.wts]
  | t :: r, d, h => by
    unfold TmWs at h
    have h1 := wt_le t h.1
    have h2 := wts_le r h.2
    simp only [Tm.wts, List.length_cons]
    rw [Nat.succ_mul]
    omega
end
theorem wt_8 {t : Tm} {d : Nat} (h : TmW d t) (hd : d ≤ 8) : t.wt ≤ 200000 := Nat.le_trans (wt_le t h) (Nat.le_trans (tw_mono hd) (by decide))
def spIsInt : Sp := fun vs H Q _ => ∃ v, vs = [v] ∧ ((∃ n : Int, v = .int n ∧ Q (.bl true) H) ∨ ∃ (p : Addr) (xs : List V), v = .ref p ∧ H p = some (.tup xs) ∧ Q (.bl false) H)
def spCallP : Sp := fun vs H Q _ => ∃ (name : Str) (q : Addr) (ws : List V) (ts : List Tm), vs = [.str name, .ref q] ∧ H q = some (.tup ws) ∧ InTs H ts ws ∧ ts.length ≤ 3 ∧ name.length ≤ 17 ∧
  ∀ (l : Addr) (rr : List V) (H' : Hp), H' l = some (.lst rr) → Paired (PcAt H') rr (cps name ts) → Same H H' → Q (.ref l) H'
def spPieces : Sp := fun vs H Q _ => ∃ (v : V) (t : Tm) (d : Nat), vs = [v] ∧ InT H t v ∧ TmW d t ∧ ∀ (l : Addr) (rr : List V) (H' : Hp), H' l = some (.lst rr) → Paired (PcAt H') rr t.pcs → Same H H' → Q (.ref l) H'
def spShow : Sp := fun vs H Q _ => ∃ (v : V) (t : Tm) (d : Nat), vs = [v] ∧ InT H t v ∧ TmW d t ∧ d ≤ 8 ∧ ∀ H', Same H H' → Q (.str t.txt) H'
section
variable {P : Program} {w : World} {K : PySem.W.Frag} {mg : Str → Option Value} {base : Heap} {X : Cx}
theorem scCallP : FnScope ["name", "inputs", "found", "at", "term"] ["name", "inputs"] (defScope sCallP) := ⟨rfl, rfl, rfl, by decide +kernel, rfl, by decide +kernel, by decide +kernel⟩
theorem ok_callp {f : Addr} {fd : FuncData} (F : Fun K "call_pieces" "call_pieces" sCallP f fd) (men : mg "enumerate" = none) : FnOk P w K mg base CX0 1 f fd ["name", "inputs"] spCallP := by
  refine F.ok scCallP (fun vs H Q E h => ?_) (fun cdv A outer s H vs Q E hr h => ?_)
  · obtain ⟨name, q0, ws, ts, rfl, _⟩ := h
    rfl
  obtain ⟨name, q0, ws, ts, rfl, hq0, its, h3, hn, q⟩ := h
  refine ⟨_, (pss_cons (ps_set (i := 2) scCallP.nd rfl (.inl rfl) (pe_lst (pa_cons (pe_joined (.cons (pe_fmt (pv 0)) (.cons pe_str PJ.nil))) pa_nil)))
    (pss_cons (ps_for PassesOwn.never rfl (pi_enumT (by rfl) men (pa_cons (pv 1) pa_nil)) (pg_tup rfl (pgs_cons (pg_name (i := 3) scCallP.nd rfl (Or.inl rfl)) (pgs_cons (pg_name (i := 4) scCallP.nd rfl (Or.inl rfl)) pgs_nil))) (pss_cons (ps_if (pt_cmpR op_gt (pv 3) pe_int (nomark _)) (pss_one (ps_expr (pe_bm PySem.F.plainAttrs_list PySem.F.slot_list_append PySem.F.type_list_append mt_append (pv 2) (pa_cons pe_str pa_nil)))) pss_nil)
    (pss_one (ps_expr (pe_bm PySem.F.plainAttrs_list PySem.F.slot_list_append PySem.F.type_list_append mt_append (pv 2) (pa_cons (pv 4) pa_nil))))))
    (pss_one (ps_ret (pe_lst (pa_star (pv 2) (pa_cons pe_str pa_nil))))))), ?_⟩
  have l1 : ("(" : Str).length = 1 := rfl
  have hB : ∀ n : Nat, n ≤ 2000000 → n ≤ sizeLine := fun n h => Nat.le_trans h (by decide)
  refine ⟨_, rfl, .inl ⟨name, rfl, hB _ (by omega), name, rfl, hB _ (by rw [Str.empty_append]; omega), "(", rfl, hB _ (by rw [Str.empty_append, Str.length_append]; omega), sz (by simp), fun lb nlb => ?_⟩⟩
  rw [Str.empty_append]
  have s0 := same_up (o := .lst [V.str (name ++ "(")]) nlb
  refine ⟨_, rfl, q0, ws, rfl, SqT.of (s0 _ _ hq0), ?_⟩
  refine for_it walk_enumU (fun i σ H' => ∃ (x y : Option V) (rr : List V), σ = [some (.str name), some (.ref q0), some (.ref lb), x, y] ∧ H' lb = some (.lst rr) ∧ Paired (PcAt H') rr (Pc.s (name ++ "(") :: inner (ts.take i)) ∧ Same H H') ⟨none, none, _, rfl, upd_same, .cons rfl .nil, s0⟩ (fun i σ H' _ ⟨_, _, _, _, _, _, z⟩ => SqT.of (z _ _ hq0)) ?_ ?_
  · rintro i x σ H2 H3 hi ⟨x0, y0, rr, rfl, el, pr, s2⟩ ⟨T0, x', y', rfl, nT, rfl, hx, hy⟩
    have hx' : x' = .int (i : Int) := (Option.some.inj hx).symm
    subst hx'
    have hlen := its.len
    have hio : i < ts.length := by omega
    obtain ⟨v, hv, iv⟩ := its.get i hio
    have : y' = v := Option.some.inj (hy.symm.trans hv)
    subst this
    have sT := same_up (o := .tup [V.int (i : Int), y']) nT
    have el3 := sT _ _ el
    have pr3 := L2.Paired.mapP pr fun a b z => z.keep (KT.same sT)
    have iv3 := iv.keep (KT.same (s2.trans sT))
    have hrl : rr.length ≤ 50 := by
      have e1 := pr.length
      have e2 := psum_len (inner (ts.take i))
      have e3 : (inner (ts.take i)).length ≤ 2 * (ts.take i).length := by
        clear e2 e1 pr pr3
        generalize ts.take i = us
        induction us with
        | nil => simp [inner]
        | cons a r ih =>
          cases r with
          | nil => simp [inner]
          | cons b r => simp only [inner, List.length_cons] at ih ⊢; omega
      rw [List.length_take] at e3
      rw [List.length_cons] at e1
      omega
    have n3 : ∀ b o, H b = some o → b ≠ lb := fun b o z => ne_of_none z nlb
    refine ⟨T0, _, rfl, SqT.of upd_same, rfl, _, _, rfl, _, _, rfl, rfl, ?_⟩
    refine ⟨_, rfl, _, _, rfl, rfl, _, rfl, ?_⟩
    have hin : inner (ts.take (i + 1)) = inner (ts.take i) ++ (if ts.take i = [] then [Pc.t ts[i]] else [Pc.s ", ", Pc.t ts[i]]) := by
      rw [take_succ_get _ i hio, inner_snoc]
    by_cases h0 : (0 : Int) < (i : Int)
    · refine iteYes h0 ⟨_, rfl, .inl ⟨rfl, _, SqL.of el3⟩, lb, rr, _, rfl, rfl, el3, small1000 (by omega), ?_⟩
      have k4 : KT (upd H2 T0 (.tup [V.int (i : Int), y'])) (upd (upd H2 T0 (.tup [V.int (i : Int), y'])) lb (.lst (rr ++ [V.str ", "]))) := fun p xs z => by
        rw [upd_ne (fun y => by rw [y, el3] at z; cases z)]; exact z
      refine ⟨_, rfl, .inl ⟨rfl, _, SqL.of upd_same⟩, _, rfl, lb, _, _, rfl, rfl, upd_same, small1000 (by rw [List.length_append, List.length_singleton]; omega), ?_⟩
      have k5 : KT (upd (upd H2 T0 (.tup [V.int (i : Int), y'])) lb (.lst (rr ++ [V.str ", "]))) (upd (upd (upd H2 T0 (.tup [V.int (i : Int), y'])) lb (.lst (rr ++ [V.str ", "]))) lb (.lst (rr ++ [V.str ", "] ++ [y']))) := fun p xs z => by
        rw [upd_ne (fun y => by rw [y, upd_same] at z; cases z)]; exact z
      refine ⟨_, _, _, rfl, upd_same, ?_, fun b o z => ?_⟩
      · rw [hin, if_neg (by intro z; have := congrArg List.length z; rw [List.length_take, List.length_nil] at this; omega)]
        have e8 : Pc.s (name ++ "(") :: (inner (ts.take i) ++ [Pc.s ", ", Pc.t ts[i]]) = (Pc.s (name ++ "(") :: inner (ts.take i)) ++ [Pc.s ", ", Pc.t ts[i]] := rfl
        rw [e8]
        have pp := paired_append (L2.Paired.mapP pr3 fun a b z => z.keep (k4.trans k5)) (show Paired (PcAt (upd (upd (upd H2 T0 (.tup [V.int (i : Int), y'])) lb (.lst (rr ++ [V.str ", "]))) lb (.lst (rr ++ [V.str ", "] ++ [y'])))) ([V.str ", "] ++ [y']) [Pc.s ", ", Pc.t ts[i]] from .cons rfl (.cons (iv3.keep (k4.trans k5)) .nil))
        rw [← List.append_assoc] at pp
        exact pp
      · rw [upd_ne (n3 _ _ z), upd_ne (n3 _ _ z)]
        exact sT _ _ (s2 _ _ z)
    · refine iteNo h0 ⟨_, rfl, .inl ⟨rfl, _, SqL.of el3⟩, _, rfl, lb, rr, _, rfl, rfl, el3, small1000 (by omega), ?_⟩
      have k4 : KT (upd H2 T0 (.tup [V.int (i : Int), y'])) (upd (upd H2 T0 (.tup [V.int (i : Int), y'])) lb (.lst (rr ++ [y']))) := fun p xs z => by
        rw [upd_ne (fun y => by rw [y, el3] at z; cases z)]; exact z
      have hi0 : i = 0 := by omega
      refine ⟨_, _, _, rfl, upd_same, ?_, fun b o z => ?_⟩
      · rw [hin, if_pos (by rw [hi0, List.take_zero])]
        have e8 : Pc.s (name ++ "(") :: (inner (ts.take i) ++ [Pc.t ts[i]]) = (Pc.s (name ++ "(") :: inner (ts.take i)) ++ [Pc.t ts[i]] := rfl
        rw [e8]
        exact paired_append (L2.Paired.mapP pr3 fun a b z => z.keep k4) (.cons (iv3.keep k4) .nil)
      · rw [upd_ne (n3 _ _ z)]
        exact sT _ _ (s2 _ _ z)
  · rintro σ H2 ⟨x0, y0, rr, rfl, el, pr, s2⟩
    rw [its.len, List.take_length] at pr
    have e3 : (inner ts).length ≤ 2 * ts.length := by
      clear pr q its h3
      induction ts with
      | nil => simp [inner]
      | cons a r ih =>
        cases r with
        | nil => simp [inner]
        | cons b r => simp only [inner, List.length_cons] at ih ⊢; omega
    have e1 := pr.length
    rw [List.length_cons] at e1
    refine ⟨_, rfl, lb, rr, rfl, .inr (SqL.of el), sz (by simp; omega), fun l nl => ?_⟩
    have sl := same_up (o := .lst (rr ++ [V.str ")"])) nl
    exact q l _ _ upd_same (paired_append (L2.Paired.mapP pr fun a b z => z.keep (KT.same sl)) (.cons rfl .nil)) (s2.trans sl)
theorem scPieces : FnScope ["term"] ["term"] (defScope sPieces) := ⟨rfl, rfl, rfl, by decide +kernel, rfl, by decide +kernel, by decide +kernel⟩
theorem ok_pieces {f fi fc : Addr} {fd fdi fdc : FuncData} (F : Fun K "pieces_of" "pieces_of" sPieces f fd) (mst : mg "str" = none)
    (GI : FnOk P w K mg base CX0 1 fi fdi ["value"] spIsInt) (kI : PySem.W.keepIn K (.ref fi) = true) (bI : Binds K fdi ["value"] []) (mI : mg "is_integer" = some (.ref fi))
    (GC : FnOk P w K mg base CX0 1 fc fdc ["name", "inputs"] spCallP) (kC : PySem.W.keepIn K (.ref fc) = true) (bC : Binds K fdc ["name", "inputs"] []) (mC : mg "call_pieces" = some (.ref fc)) : FnOk P w K mg base CX0 2 f fd ["term"] spPieces := by
  refine F.ok scPieces (fun vs H Q E h => ?_) (fun cdv A outer s H vs Q E hr h => ?_)
  · obtain ⟨v, t, d, rfl, _⟩ := h
    rfl
  obtain ⟨v, t, d, rfl, it, wt, q⟩ := h
  have hr1 : Room 1 _ := hr
  refine ⟨_, (pss_cons (ps_if (pt_val (pe_call GI hr1 rfl mI kI bI .nil pass0 (pa_cons (pv 0) pa_nil))) (pss_one (ps_ret (pe_lst (pa_cons (pe_callTy call_str_int (by rfl) mst (by decide +kernel) (pa_cons (pv 0) pa_nil)) pa_nil)))) pss_nil)
    (pss_cons (ps_if (pt_cmpR op_eq (pe_ix ix_tup (pv 0) pe_int (fun _ _ => rfl)) pe_str (nomark _)) (pss_one (ps_ret (pe_lst (pa_cons (pe_ix ix_tup (pv 0) pe_int (fun _ _ => rfl)) pa_nil)))) pss_nil)
    (pss_cons (ps_if (pt_cmpR op_eq (pe_ix ix_tup (pv 0) pe_int (fun _ _ => rfl)) pe_str (nomark _)) (pss_one (ps_ret (pe_call GC hr rfl mC kC bC .nil pass0 (pa_cons (pe_ix ix_tup (pv 0) pe_int (fun _ _ => rfl)) (pa_cons (pe_ix ix_tup (pv 0) pe_int (fun _ _ => rfl)) pa_nil))))) pss_nil)
    (pss_cons (ps_if (pt_cmpR op_eq (pe_ix ix_tup (pv 0) pe_int (fun _ _ => rfl)) pe_str (nomark _)) (pss_one (ps_ret (pe_call GC hr rfl mC kC bC .nil pass0 (pa_cons (pe_joined (.cons (pe_fmt (pe_ix ix_tup (pv 0) pe_int (fun _ _ => rfl))) (.cons pe_str (.cons (pe_fmt (pe_ix ix_tup (pv 0) pe_int (fun _ _ => rfl))) PJ.nil)))) (pa_cons (pe_ix ix_tup (pv 0) pe_int (fun _ _ => rfl)) pa_nil))))) pss_nil)
    (pss_one (ps_ret (pe_lst (pa_cons pe_str (pa_cons (pe_ix ix_tup (pv 0) pe_int (fun _ _ => rfl)) (pa_cons (pe_joined (.cons pe_str (.cons (pe_fmt (pe_ix ix_tup (pv 0) pe_int (fun _ _ => rfl))) (.cons pe_str PJ.nil)))) (pa_cons (pe_ix ix_tup (pv 0) pe_int (fun _ _ => rfl)) (pa_cons pe_str pa_nil)))))))))))), ?_⟩
  have hB : ∀ n : Nat, n ≤ 2000000 → n ≤ sizeLine := fun n h => Nat.le_trans h (by decide)
  cases t with
  | num n =>
    unfold InT at it
    subst it
    unfold TmW at wt
    refine ⟨_, rfl, _, rfl, .inl ⟨n, rfl, true, rfl, iteT ?_⟩⟩
    refine ⟨_, rfl, n, rfl, log_small (by omega) (by omega), sz (by simp), fun l nl => ?_⟩
    exact q l _ _ upd_same (.cons rfl .nil) (same_up nl)
  | nd k ts =>
    unfold InT at it
    obtain ⟨p, ws, rfl, its, na⟩ := it
    obtain ⟨tls, ht⟩ := na.tup
    unfold TmW at wt
    refine ⟨_, rfl, _, rfl, .inr ⟨p, _, rfl, ht, false, rfl, iteF ?_⟩⟩
    refine ⟨_, rfl, p, _, _, _, rfl, rfl, SqT.of ht, at0 _ _, rfl, _, rfl, ?_⟩
    cases k with
    | fst x =>
      refine iteYes rfl ⟨_, rfl, p, _, _, _, rfl, rfl, SqT.of na, at1 _ _ _, sz (by simp), fun l nl => ?_⟩
      exact q l _ _ upd_same (.cons rfl .nil) (same_up nl)
    | val fn =>
      obtain ⟨q0, hp0, hq0⟩ := na
      have n1 : fn.length ≤ 8 := by rw [lc_len]; exact name_len wt.1.1
      refine iteNo (show ¬ (V.str "value" = V.str "first") by decide +kernel) ⟨_, rfl, p, _, _, _, rfl, rfl, SqT.of hp0, at0 _ _, rfl, _, rfl, iteYes rfl ?_⟩
      refine ⟨_, rfl, p, _, _, _, rfl, rfl, SqT.of hp0, at1 _ _ _, _, rfl, p, _, _, _, rfl, rfl, SqT.of hp0, (rfl : atI [V.str "value", .str fn, .ref q0] 2 = some (.ref q0)), fn, q0, ws, ts, rfl, hq0, its, tkW_len wt.1, by omega, fun l rr H' e1 p1 s1 => q l rr H' e1 p1 s1⟩
    | lef fn x =>
      obtain ⟨q0, hp0, hq0⟩ := na
      have n1 : fn.length ≤ 8 := by rw [lc_len]; exact name_len wt.1.1
      have n2 : x.length ≤ 8 := by rw [lc_len]; exact name_len wt.1.2.1
      have l1 : ("." : Str).length = 1 := rfl
      refine iteNo (show ¬ (V.str "left" = V.str "first") by decide +kernel) ⟨_, rfl, p, _, _, _, rfl, rfl, SqT.of hp0, at0 _ _, rfl, _, rfl, iteNo (show ¬ (V.str "left" = V.str "value") by decide +kernel) ⟨_, rfl, p, _, _, _, rfl, rfl, SqT.of hp0, at0 _ _, rfl, _, rfl, iteYes rfl ?_⟩⟩
      refine ⟨_, rfl, p, _, _, _, rfl, rfl, SqT.of hp0, at1 _ _ _, .inl ⟨fn, rfl, hB _ (by omega), fn, rfl, hB _ (by rw [Str.empty_append]; omega), ".", rfl, hB _ (by rw [Str.empty_append, Str.length_append]; omega), _, rfl, p, _, _, _, rfl, rfl, SqT.of hp0, (rfl : atI [V.str "left", .str fn, .str x, .ref q0] 2 = some (.str x)), .inl ⟨x, rfl, hB _ (by omega), x, rfl, hB _ (by rw [Str.empty_append, Str.length_append, Str.length_append]; omega), ?_⟩⟩⟩
      refine ⟨_, rfl, p, _, _, _, rfl, rfl, SqT.of hp0, (rfl : atI [V.str "left", .str fn, .str x, .ref q0] 3 = some (.ref q0)), _, q0, ws, ts, rfl, hq0, its, tkW_len wt.1, by rw [Str.empty_append, Str.length_append, Str.length_append]; omega, fun l rr H' e1 p1 s1 => q l rr H' e1 p1 s1⟩
    | op sg =>
      obtain ⟨n1, n2, n3, n4⟩ := sgn_ne wt.1.1
      obtain ⟨ta, tb, rfl⟩ := two_of wt.1.2
      obtain ⟨va, hva, ia⟩ := its.get 0 (by simp)
      obtain ⟨vb, hvb, ib⟩ := its.get 1 (by simp)
      have hw2 : ws = [va, vb] := by
        have hl := its.len
        match ws, hl, hva, hvb with
        | [x, y], _, ha, hb => rw [Option.some.inj ha, Option.some.inj hb]
      subst hw2
      obtain ⟨c, hc, _⟩ := tsign_cs sg wt.1.1
      have lsg : sg.length = 1 := by rw [lc_len, hc]; rfl
      have l1 : (" " : Str).length = 1 := rfl
      refine iteNo n1 ⟨_, rfl, p, _, _, _, rfl, rfl, SqT.of ht, at0 _ _, rfl, _, rfl, iteNo n2 ⟨_, rfl, p, _, _, _, rfl, rfl, SqT.of ht, at0 _ _, rfl, _, rfl, iteNo n3 ?_⟩⟩
      refine ⟨_, rfl, p, _, _, _, rfl, rfl, SqT.of na, (rfl : atI [V.str sg, va, vb] 1 = some va), " ", rfl, hB _ (by rw [Str.empty_append]; omega), _, rfl, p, _, _, _, rfl, rfl, SqT.of na, (rfl : atI [V.str sg, va, vb] 0 = some (.str sg)), .inl ⟨sg, rfl, hB _ (by omega), sg, rfl, hB _ (by rw [Str.empty_append, Str.length_append]; omega), " ", rfl, hB _ (by rw [Str.empty_append, Str.length_append, Str.length_append]; omega), _, rfl, p, _, _, _, rfl, rfl, SqT.of na, (rfl : atI [V.str sg, va, vb] 2 = some vb), sz (by simp), fun l nl => ?_⟩⟩
      have kl := KT.same (same_up (o := .lst [V.str "(", va, .str (Str.empty ++ " " ++ sg ++ " "), vb, .str ")"]) nl)
      exact q l _ _ upd_same (.cons rfl (.cons (ia.keep kl) (.cons rfl (.cons (ib.keep kl) (.cons rfl .nil))))) (same_up nl)
end
end Oo
namespace Oo
open PySem L2 PyProof.Rows StX
theorem lc_join0 : ∀ rr : List Str, lc_ (Txt.join "" rr) = rr.flatMap lc_
  | [] => by
    show lc_ (Builtin.Str.glued _ _) = _
    rw [StrLaws.glued_eq_join]
    rfl
  | [x] => by
    show lc_ (Builtin.Str.glued _ _) = _
    rw [StrLaws.glued_eq_join]
    simp [Str.join]
  | x :: y :: r => by
    have ih : lc_ (Builtin.Str.glued "" (y :: r)) = (y :: r).flatMap lc_ := lc_join0 (y :: r)
    show lc_ (Builtin.Str.glued _ _) = _
    rw [StrLaws.glued_eq_join] at ih ⊢
    show lc_ (x ++ "" ++ Str.join "" (y :: r)) = _
    have e : lc_ ("" : Str) = [] := by decide +kernel
    rw [lc_app, lc_app, ih, e]
    simp
theorem inner_t : ∀ (ts : List Tm) (u : Tm), Pc.t u ∈ inner ts → u ∈ ts
  | [], u, h => by simp [inner] at h
  | [t], u, h => by simpa [inner] using h
  | t :: x :: r, u, h => by
    simp only [inner, List.mem_cons] at h
    rcases h with h | h | h
    · injection h with e
      rw [e]
      exact List.mem_cons_self
    · cases h
    · exact List.mem_cons_of_mem _ (inner_t (x :: r) u h)
theorem TmWs.mem : ∀ {ts : List Tm} {d : Nat}, TmWs d ts → ∀ u ∈ ts, ∃ d', TmW d' u
  | [], d, h, u, hu => by cases hu
  | t :: r, d, h, u, hu => by
    obtain ⟨d1, rfl⟩ := TmWs.pos h (by simp)
    unfold TmWs at h
    rcases List.mem_cons.mp hu with e | hu
    · exact ⟨d1, e ▸ h.1⟩
    · exact h.2.mem u hu
theorem cps_t {name : Str} {ts : List Tm} {u : Tm} (h : Pc.t u ∈ cps name ts) : u ∈ ts := by
  unfold cps at h
  rcases List.mem_append.mp h with h | h
  · rcases List.mem_cons.mp h with h | h
    · cases h
    · exact inner_t ts u h
  · rw [List.mem_singleton] at h
    cases h
theorem pcs_w {t : Tm} {d : Nat} (h : TmW d t) : ∀ u, Pc.t u ∈ t.pcs → ∃ d', TmW d' u := by
  intro u hu
  cases t with
  | num n => simp [Tm.pcs] at hu
  | nd k ts =>
    unfold TmW at h
    cases k with
    | fst x => simp [Tm.pcs] at hu
    | op s =>
      obtain ⟨a, b, rfl⟩ := two_of h.1.2
      simp only [Tm.pcs, List.mem_cons, List.not_mem_nil, or_false] at hu
      rcases hu with e | e | e | e | e
      · cases e
      · injection e with e; exact h.2.mem u (by rw [e]; simp)
      · cases e
      · injection e with e; exact h.2.mem u (by rw [e]; simp)
      · cases e
    | val f => exact h.2.mem u (cps_t hu)
    | lef f x => exact h.2.mem u (cps_t hu)
section
variable {P : Program} {w : World} {K : PySem.W.Frag} {mg : Str → Option Value} {base : Heap} {X : Cx}
theorem scIsInt : FnScope ["value"] ["value"] (defScope sIsInt) := ⟨rfl, rfl, rfl, by decide +kernel, rfl, by decide +kernel, by decide +kernel⟩
theorem ok_isint {f : Addr} {fd : FuncData} (F : Fun K "is_integer" "is_integer" sIsInt f fd) (mi : mg "int" = none) (mb : mg "bool" = none) (mis : mg "isinstance" = none) : FnOk P w K mg base CX0 1 f fd ["value"] spIsInt := by
  refine F.ok scIsInt (fun vs H Q E h => ?_) (fun cdv A outer s H vs Q E hr h => ?_)
  · obtain ⟨v, rfl, h⟩ := h
    rfl
  obtain ⟨v, rfl, h⟩ := h
  refine ⟨_, (pss_one (ps_ret (pe_and (pe_callB call_isi (by rfl) mis boot_isinstance (pa_cons (pv 0) (pa_cons (pe_bltn (v := .ty "int") (by rfl) mi (by decide +kernel) rfl) pa_nil))) (pe_one (pe_not (pe_callB call_isi (by rfl) mis boot_isinstance (pa_cons (pv 0) (pa_cons (pe_bltn (v := .ty "bool") (by rfl) mb (by decide +kernel) rfl) pa_nil)))))))), ?_⟩
  rcases h with ⟨n, rfl, q⟩ | ⟨p, xs, rfl, e, q⟩
  · refine ⟨_, rfl, _, _, _, _, true, rfl, .ty "int", .base (.int n), kit_ty (by decide +kernel), true, rfl, iteT ?_⟩
    exact ⟨_, rfl, _, _, _, _, false, rfl, .ty "bool", .base (.int n), kit_ty (by decide +kernel), false, rfl, q⟩
  · exact ⟨_, rfl, _, _, _, _, false, rfl, .ty "int", .base (.tup e), kit_ty (by decide +kernel), false, rfl, iteF q⟩
theorem scShow : FnScope ["term", "texts", "waiting", "piece"] ["term"] (defScope sShow) := ⟨rfl, rfl, rfl, by decide +kernel, rfl, by decide +kernel, by decide +kernel⟩
theorem ok_show {f fp : Addr} {fd fdp : FuncData} (F : Fun K "show_term" "show_term" sShow f fd) (ml : mg "len" = none) (mis : mg "isinstance" = none) (mst : mg "str" = none)
    (GP : FnOk P w K mg base CX0 2 fp fdp ["term"] spPieces) (kP : PySem.W.keepIn K (.ref fp) = true) (bP : Binds K fdp ["term"] []) (mP : mg "pieces_of" = some (.ref fp)) : FnOk P w K mg base CX0 3 f fd ["term"] spShow := by
  refine F.ok scShow (fun vs H Q E h => ?_) (fun cdv A outer s H vs Q E hr h => ?_)
  · obtain ⟨v, t, d, rfl, _⟩ := h
    rfl
  obtain ⟨v, t, d, rfl, it, wt, hd8, q⟩ := h
  refine ⟨_, (pss_cons (ps_set (i := 1) scShow.nd rfl (.inl rfl) (pe_lst pa_nil))
    (pss_cons (ps_set (i := 2) scShow.nd rfl (.inl rfl) (pe_lst (pa_cons (pv 0) pa_nil)))
    (pss_cons (ps_while PassesOwn.never (pt_cmpR op_gt (pe_callB call_len_seq (by rfl) ml PySem.boot_len (pa_cons (pv 2) pa_nil)) pe_int (nomark _)) (pss_cons (ps_set (i := 3) scShow.nd rfl (.inl rfl) (pe_bm0 PySem.F.plainAttrs_list PySem.F.slot_list_pop PySem.F.type_list_pop mt_pop (pv 2)))
    (pss_one (ps_if (pt_val (pe_callB call_isi (by rfl) mis boot_isinstance (pa_cons (pv 3) (pa_cons (pe_bltn (v := .ty "str") (by rfl) mst (by decide +kernel) rfl) pa_nil)))) (pss_one (ps_expr (pe_bm PySem.F.plainAttrs_list PySem.F.slot_list_append PySem.F.type_list_append mt_append (pv 1) (pa_cons (pv 3) pa_nil)))) (pss_one (ps_expr (pe_bm PySem.F.plainAttrs_list PySem.F.slot_list_extend PySem.F.type_list_extend mt_extend (pv 2) (pa_cons (pe_revL (pe_call GP hr rfl mP kP bP .nil pass0 (pa_cons (pv 3) pa_nil))) pa_nil))))))))
    (pss_one (ps_ret (pe_join pe_str (pv 1))))))), ?_⟩
  have hB : ∀ n : Nat, n ≤ 2000000 → n ≤ sizeLine := fun n h => Nat.le_trans h (by decide)
  have hB' : ∀ n : Nat, n ≤ 2000000 → n < sizeLine := fun n h => Nat.lt_of_le_of_lt h (by decide)
  have hw8 := wt_8 wt hd8
  refine ⟨sz (by simp), fun lt nlt => ⟨_, rfl, sz (by simp), fun lw nlw => ?_⟩⟩
  have st0 := same_up (o := .lst []) nlt
  have sw0 := same_up (o := .lst [v]) nlw
  have s0 := st0.trans sw0
  have hlw : H lw = none := st0.free nlw
  have ntw : lt ≠ lw := ne_of_none (o := .lst []) upd_same nlw
  refine ⟨fun m σ H' => ∃ (x : Option V) (rr : List Str) (ww : List V) (st : List Pc), σ = [some v, some (.ref lt), some (.ref lw), x] ∧ m = psum st ∧ H' lt = some (.lst (rr.map V.str)) ∧ H' lw = some (.lst ww) ∧ Paired (PcAt H') ww st ∧
    (∀ u, Pc.t u ∈ st → ∃ d', TmW d' u) ∧ rr.flatMap lc_ ++ st.reverse.flatMap Pc.cs = t.cs ∧ rr.length + psum st ≤ t.wt ∧ Same H H',
    ⟨_, none, [], [v], [Pc.t t], rfl, rfl, sw0 _ _ upd_same, upd_same, .cons (it.keep (KT.same s0)) .nil, ?_, ?_, ?_, s0⟩, ?_⟩
  · intro u hu
    rw [List.mem_singleton] at hu
    injection hu with e
    exact ⟨d, e ▸ wt⟩
  · simp [Pc.cs]
  · simp [psum, Pc.wt]
  rintro m σ H1 ⟨x, rr, ww, st, rfl, rfl, er, ew, pw, hok, hcs, hwt, s1⟩
  have hww : ww.length = st.length := pw.length
  have hst := psum_len st
  refine ⟨_, rfl, lw, _, rfl, .inl (SqL.of ew), _, _, rfl, rfl, _, rfl, ?_⟩
  rcases List.eq_nil_or_concat st with rfl | ⟨st', y, rfl⟩
  · have : ww = [] := List.eq_nil_of_length_eq_zero hww
    subst this
    refine iteNo (by simp) ?_
    simp only [List.reverse_nil, List.flatMap_nil, List.append_nil] at hcs
    have hl := cs_len t wt
    have ht8 := tl_8 hd8
    have hsum : (rr.map (·.length)).sum = t.cs.length := by
      rw [← hcs, List.length_flatMap]
      first | rfl | (congr 1; exact List.map_congr_left fun a _ => lc_len a)
    refine ⟨⟨_, rfl⟩, _, rfl, "", lt, rr, rfl, rfl, .inl (SqL.of er), ?_, ?_⟩
    · have e : ("" : Str).length = 0 := rfl
      rw [hsum, e]
      omega
    have : Txt.join "" rr = t.txt := txt_of (by rw [lc_join0, hcs])
    rw [this]
    exact q H1 s1
  rw [List.concat_eq_append] at *
  obtain ⟨ww', u, rfl, pw', ru⟩ := paired_snoc_inv pw
  refine iteYes (by rw [List.length_append, List.length_singleton]; omega) ?_
  have hs2 : psum (st' ++ [y]) = psum st' + y.wt := by rw [psum_append]; simp [psum]
  refine ⟨fun σ' H' => ∃ m', m' < psum (st' ++ [y]) ∧ ∃ (x : Option V) (rr : List Str) (ww : List V) (st : List Pc), σ' = [some v, some (.ref lt), some (.ref lw), x] ∧ m' = psum st ∧ H' lt = some (.lst (rr.map V.str)) ∧ H' lw = some (.lst ww) ∧ Paired (PcAt H') ww st ∧
    (∀ u, Pc.t u ∈ st → ∃ d', TmW d' u) ∧ rr.flatMap lc_ ++ st.reverse.flatMap Pc.cs = t.cs ∧ rr.length + psum st ≤ t.wt ∧ Same H H', fun σ' H' h => h, ?_⟩
  refine ⟨_, rfl, .inl ⟨rfl, _, SqL.of ew⟩, lw, _, u, rfl, rfl, ew, by simp, ?_⟩
  rw [List.dropLast_concat]
  have k2 : KT H1 (upd H1 lw (.lst ww')) := fun p xs z => by rw [upd_ne (fun y => by rw [y, ew] at z; cases z)]; exact z
  have er2 : (upd H1 lw (.lst ww')) lt = some (.lst (rr.map V.str)) := by rw [upd_ne ntw]; exact er
  have ew2 : (upd H1 lw (.lst ww')) lw = some (.lst ww') := upd_same
  have s2 : Same H (upd H1 lw (.lst ww')) := fun b o z => by rw [upd_ne (ne_of_none z hlw)]; exact s1 _ _ z
  have pw2 := L2.Paired.mapP pw' fun a b z => z.keep k2
  have ru2 := ru.keep k2
  generalize (upd H1 lw (.lst ww')) = H2 at k2 er2 ew2 s2 pw2 ru2 ⊢
  rw [List.reverse_append, List.flatMap_append] at hcs
  cases y with
  | s z =>
    have eu : u = .str z := ru2
    subst eu
    refine ⟨_, rfl, _, _, _, _, true, rfl, .ty "str", .base (.str z), kit_ty (by decide +kernel), _, rfl, iteT ?_⟩
    have hrl : rr.length ≤ 200000 := by omega
    refine ⟨_, rfl, .inl ⟨rfl, _, SqL.of er2⟩, _, rfl, lt, _, _, rfl, rfl, er2, hB' _ (by rw [List.length_map]; omega), ?_⟩
    have k3 : KT H2 (upd H2 lt (.lst (rr.map V.str ++ [V.str z]))) := fun p xs z => by rw [upd_ne (fun y => by rw [y, er2] at z; cases z)]; exact z
    refine ⟨psum st', by rw [hs2]; show psum st' < psum st' + 1; omega, _, rr ++ [z], ww', st', rfl, rfl, by rw [List.map_append]; exact upd_same, by rw [upd_ne ntw.symm]; exact ew2, L2.Paired.mapP pw2 fun a b y => y.keep k3, fun u hu => hok u (List.mem_append_left _ hu), ?_, ?_, fun b o y => by rw [upd_ne (ne_of_none y nlt)]; exact s2 _ _ y⟩
    · rw [List.flatMap_append, ← hcs]
      simp [Pc.cs]
    · rw [hs2] at hwt
      have : (Pc.s z).wt = 1 := rfl
      rw [List.length_append, List.length_singleton]
      omega
  | t u' =>
    obtain ⟨d', wu⟩ := hok u' (List.mem_append_right _ List.mem_cons_self)
    have iu : InT H2 u' u := ru2
    have hpw := pcs_wt wu
    have hstr : ∃ (b : Bool), True := ⟨true, trivial⟩
    have isi : ∃ o, (o = V.int 0 ∨ True) := ⟨.int 0, .inl rfl⟩
    have cont : ∀ (l : Addr) (rr' : List V) (H3 : Hp), H3 l = some (.lst rr') → Paired (PcAt H3) rr' u'.pcs → Same H2 H3 → ∀ r, H3 r = none → ∃ m', m' < psum (st' ++ [Pc.t u']) ∧ ∃ (x : Option V) (rr : List Str) (ww : List V) (st : List Pc), [some v, some (V.ref lt), some (V.ref lw), some u] = [some v, some (.ref lt), some (.ref lw), x] ∧ m' = psum st ∧ (upd (upd H3 r (.lst rr'.reverse)) lw (.lst (ww' ++ rr'.reverse))) lt = some (.lst (rr.map V.str)) ∧ (upd (upd H3 r (.lst rr'.reverse)) lw (.lst (ww' ++ rr'.reverse))) lw = some (.lst ww) ∧ Paired (PcAt (upd (upd H3 r (.lst rr'.reverse)) lw (.lst (ww' ++ rr'.reverse)))) ww st ∧
        (∀ u, Pc.t u ∈ st → ∃ d', TmW d' u) ∧ rr.flatMap lc_ ++ st.reverse.flatMap Pc.cs = t.cs ∧ rr.length + psum st ≤ t.wt ∧ Same H (upd (upd H3 r (.lst rr'.reverse)) lw (.lst (ww' ++ rr'.reverse))) := fun l rr' H3 el pl s3 r nr => by
      have sr := same_up (o := .lst rr'.reverse) nr
      have ew3 := sr _ _ (s3 _ _ ew2)
      have er3 := sr _ _ (s3 _ _ er2)
      have k3 : KT (upd H3 r (.lst rr'.reverse)) (upd (upd H3 r (.lst rr'.reverse)) lw (.lst (ww' ++ rr'.reverse))) := fun p xs z => by rw [upd_ne (fun y => by rw [y, ew3] at z; cases z)]; exact z
      refine ⟨psum (st' ++ u'.pcs.reverse), ?_, some u, rr, _, st' ++ u'.pcs.reverse, rfl, rfl, by rw [upd_ne ntw]; exact er3, upd_same, ?_, ?_, ?_, ?_, fun b o y => by rw [upd_ne (ne_of_none y hlw)]; exact sr _ _ (s3 _ _ (s2 _ _ y))⟩
      · rw [hs2, psum_append, psum_rev]
        show _ < psum st' + u'.wt
        omega
      · exact paired_append (L2.Paired.mapP pw2 fun a b z => z.keep ((KT.same s3).trans ((KT.same sr).trans k3))) (paired_reverse (L2.Paired.mapP pl fun a b z => z.keep ((KT.same sr).trans k3)))
      · intro u2 hu2
        rcases List.mem_append.mp hu2 with h | h
        · exact hok u2 (List.mem_append_left _ h)
        · exact pcs_w wu u2 (List.mem_reverse.mp h)
      · rw [← hcs, List.reverse_append, List.reverse_reverse, List.flatMap_append, pcs_cs wu]
        simp [Pc.cs]
      · rw [hs2] at hwt
        have : (Pc.t u').wt = u'.wt := rfl
        rw [psum_append, psum_rev]
        omega
    have hlen : ww'.length = st'.length := pw2.length
    have hl' := psum_len st'
    rw [hs2] at hwt
    have ewt : (Pc.t u').wt = u'.wt := rfl
    have fin : ∀ (l : Addr) (rr' : List V) (H3 : Hp), H3 l = some (.lst rr') → Paired (PcAt H3) rr' u'.pcs → Same H2 H3 → ww'.length + rr'.length ≤ 2000000 := fun l rr' H3 el pl s3 => by
      have e1 := pl.length
      have e2 := psum_len u'.pcs
      omega
    cases u' with
    | num n =>
      have e : u = .int (n : Int) := by unfold InT at iu; exact iu
      subst e
      refine ⟨_, rfl, _, _, _, _, false, rfl, .ty "str", .base (.int n), kit_ty (by decide +kernel), _, rfl, iteF ?_⟩
      refine ⟨_, rfl, .inl ⟨rfl, _, SqL.of ew2⟩, _, rfl, _, _, d', rfl, iu, wu, fun l rr' H3 el pl s3 => ⟨l, rr', rfl, SqL.of el, fun r nr => ?_⟩⟩
      exact ⟨lw, r, ww', rr'.reverse, rfl, rfl, (same_up nr) _ _ (s3 _ _ ew2), upd_same, hB _ (by rw [List.length_reverse]; exact fin l rr' H3 el pl s3), cont l rr' H3 el pl s3 r nr⟩
    | nd k ts =>
      obtain ⟨p, hp, tls, ht⟩ : ∃ p : Addr, u = .ref p ∧ ∃ tls, H2 p = some (.tup (.str k.word :: tls)) := by
        unfold InT at iu
        obtain ⟨p, vs, e, _, na⟩ := iu
        obtain ⟨tls, ht⟩ := na.tup
        exact ⟨p, e, tls, ht⟩
      subst hp
      refine ⟨_, rfl, _, _, _, _, false, rfl, .ty "str", .base (.tup ht), kit_ty (by decide +kernel), _, rfl, iteF ?_⟩
      refine ⟨_, rfl, .inl ⟨rfl, _, SqL.of ew2⟩, _, rfl, _, _, d', rfl, iu, wu, fun l rr' H3 el pl s3 => ⟨l, rr', rfl, SqL.of el, fun r nr => ?_⟩⟩
      exact ⟨lw, r, ww', rr'.reverse, rfl, rfl, (same_up nr) _ _ (s3 _ _ ew2), upd_same, hB _ (by rw [List.length_reverse]; exact fin l rr' H3 el pl s3), cont l rr' H3 el pl s3 r nr⟩
end
end Oo
namespace Oo
open PySem L2 PyProof.Rows StX
abbrev sBent : Stmt := top 12
def spBent (N : Nat) : Sp := fun vs H Q _ => ∃ (a : Addr) (v : V) (n d : Nat) (t : Tm), vs = [.ref a, v] ∧ BagAt H a n ∧ n + (20 + 3 * d) ≤ 900000 ∧ InT H t v ∧ TmW d t ∧ d < N ∧ d ≤ 8 ∧
  ∀ (v' : V) (t' : Tm) (H' : Hp), InT H' t' v' → TmW (d + 1) t' → BagAt H' a (n + (20 + 3 * d)) → Kp a H H' → Q v' H'
theorem no_bent {N : Nat} (h : N = 0) : ∀ vs H Q E, ¬ spBent N vs H Q E := fun vs H Q E q => by
  obtain ⟨_, _, _, _, _, _, _, _, _, _, hd, _, _⟩ := q
  omega
section
variable {P : Program} {w : World} {K : PySem.W.Frag} {mg : Str → Option Value} {base : Heap} {X : Cx}
theorem scBent : FnScope ["_law_bag_here", "_law_thing", "_law_inputs", "_law_at", "_law_more"] ["_law_bag_here", "_law_thing"] (defScope sBent) := ⟨rfl, rfl, rfl, by decide +kernel, rfl, by decide +kernel, by decide +kernel⟩
theorem ok_bent {N L : Nat} {f fT fM : Addr} {fd fdT fdM : FuncData} (F : Fun K "_law_bent" "_law_bent" sBent f fd) (hL : 7 ≤ L) (mi : mg "int" = none) (mis : mg "isinstance" = none) (ml : mg "len" = none) (mli : mg "list" = none) (mt : mg "tuple" = none)
    (GT : FnOk P w K mg base CX0 1 fT fdT ["_law_bag_here", "_law_many"] spTake) (kT : PySem.W.keepIn K (.ref fT) = true) (bT : Binds K fdT ["_law_bag_here", "_law_many"] []) (mT : mg "_law_take" = some (.ref fT))
    (GM : FnOk P w K mg base CX0 7 fM fdM ["_law_bag_here", "_law_depth"] (spTerm 5)) (kM : PySem.W.keepIn K (.ref fM) = true) (bM : Binds K fdM ["_law_bag_here", "_law_depth"] []) (mM : mg "_law_term" = some (.ref fM))
    (GN : FnOk P w K mg base CX0 L f fd ["_law_bag_here", "_law_thing"] (spBent N)) (kN : PySem.W.keepIn K (.ref f) = true) (bN : Binds K fd ["_law_bag_here", "_law_thing"] []) (mN : mg "_law_bent" = some (.ref f)) :
    FnOk P w K mg base CX0 (L + 1) f fd ["_law_bag_here", "_law_thing"] (spBent (N + 1)) := by
  refine F.ok scBent (fun vs H Q E h => ?_) (fun cdv A outer s H vs Q E hr h => ?_)
  · obtain ⟨a, v, n, d, t, rfl, _⟩ := h
    rfl
  obtain ⟨a, v, n, d, t, rfl, hB, hn, it, wt, hd, hd8, q⟩ := h
  have hr1 : Room 1 _ := hr.mono (Nat.le_trans (by decide) hL)
  have hrm : Room 7 _ := hr.mono hL
  refine ⟨_, (pss_cons (ps_if (PW.pt (pw_or (pt_val (pe_callB call_isi (by rfl) mis boot_isinstance (pa_cons (pv 1) (pa_cons (pe_bltn (v := .ty "int") (by rfl) mi (by decide +kernel) rfl) pa_nil)))) (pw_or (pt_cmpR op_eq (pe_ix ix_tup (pv 1) pe_int (fun _ _ => rfl)) pe_str (nomark _)) (pw_or1 (pt_cmpR op_eq (pe_call GT hr1 rfl mT kT bT .nil pass0 (pa_cons (pv 0) (pa_cons pe_int pa_nil))) pe_int (nomark _)))))) (pss_one (ps_ret (pe_call GM hrm rfl mM kM bM .nil pass0 (pa_cons (pv 0) (pa_cons pe_int pa_nil))))) pss_nil)
    (pss_cons (ps_if (pt_cmpR op_in_seq (pe_ix ix_tup (pv 1) pe_int (fun _ _ => rfl)) (pe_tup (pa_cons pe_str (pa_cons pe_str pa_nil))) (by rfl)) (pss_cons (ps_set (i := 2) scBent.nd rfl (.inl rfl) (pe_ix ix_tup (pv 1) (pe_un un_neg pe_int) (fun _ _ => rfl)))
    (pss_cons (ps_if (pt_cmpR (op_eqD hr.units) (pv 2) (pe_tup pa_nil) (nomark _)) (pss_one (ps_ret (pe_op op_catA (pe_slice sl_tupA (pv 1) po_none (po_some (pe_un un_neg pe_int))) (pe_tup (pa_cons (pe_tup (pa_cons (pe_call GM hrm rfl mM kM bM .nil pass0 (pa_cons (pv 0) (pa_cons pe_int pa_nil))) pa_nil)) pa_nil))))) pss_nil)
    (pss_cons (ps_set (i := 3) scBent.nd rfl (.inl rfl) (pe_call GT hr1 rfl mT kT bT .nil pass0 (pa_cons (pv 0) (pa_cons (pe_callB call_len_seq (by rfl) ml PySem.boot_len (pa_cons (pv 2) pa_nil)) pa_nil))))
    (pss_cons (ps_set (i := 4) scBent.nd rfl (.inl rfl) (pe_callTy call_list_of (by rfl) mli (by decide +kernel) (pa_cons (pv 2) pa_nil)))
    (pss_cons (ps_asg (pe_call GN hr rfl mN kN bN .nil pass0 (pa_cons (pv 0) (pa_cons (pe_ix ix_tup (pv 2) (pv 3) (fun _ _ => rfl)) pa_nil))) (pg_sub (pv 4) (pv 3) set_list))
    (pss_one (ps_ret (pe_op op_catA (pe_slice sl_tupA (pv 1) po_none (po_some (pe_un un_neg pe_int))) (pe_tup (pa_cons (pe_tupleOf (by rfl) mt (pv 4)) pa_nil)))))))))) pss_nil)
    (pss_one (ps_ret (pe_ifExp (pt_cmpR op_eq (pe_call GT hr1 rfl mT kT bT .nil pass0 (pa_cons (pv 0) (pa_cons pe_int pa_nil))) pe_int (nomark _)) (pe_tup (pa_cons (pe_ix ix_tup (pv 1) pe_int (fun _ _ => rfl)) (pa_cons (pe_call GN hr rfl mN kN bN .nil pass0 (pa_cons (pv 0) (pa_cons (pe_ix ix_tup (pv 1) pe_int (fun _ _ => rfl)) pa_nil))) (pa_cons (pe_ix ix_tup (pv 1) pe_int (fun _ _ => rfl)) pa_nil)))) (pe_tup (pa_cons (pe_ix ix_tup (pv 1) pe_int (fun _ _ => rfl)) (pa_cons (pe_ix ix_tup (pv 1) pe_int (fun _ _ => rfl)) (pa_cons (pe_ix ix_tup (pv 1) pe_int (fun _ _ => rfl)) pa_nil))))))))), ?_⟩
  have c0 : tcost 0 = 4 := rfl
  have c1 : tcost 1 = 16 := rfl
  have it0 := it
  have wt0 := wt
  cases t with
  | num m =>
    unfold InT at it
    subst it
    refine ⟨_, rfl, _, _, _, _, true, rfl, .ty "int", .base (.int m), kit_ty (by decide +kernel), _, rfl, iteT (iteT ?_)⟩
    exact ⟨_, rfl, a, n, 1, rfl, hB, by omega, by omega, fun v' t' H' i' w' hB' kp' => q v' t' H' i' (w'.mono _ (by omega)) (hB'.mono (by omega)) kp'⟩
  | nd k ts =>
    unfold InT at it
    obtain ⟨p, ws, rfl, its, na⟩ := it
    obtain ⟨tls, ht⟩ := na.tup
    unfold TmW at wt
    refine ⟨_, rfl, _, _, _, _, false, rfl, .ty "int", .base (.tup ht), kit_ty (by decide +kernel), _, rfl, iteF ?_⟩
    refine ⟨_, rfl, p, _, _, _, rfl, rfl, SqT.of ht, at0 _ _, rfl, _, rfl, ?_⟩
    by_cases hk : V.str k.word = V.str "first"
    · exact iteYes hk ⟨_, rfl, a, n, 1, rfl, hB, by omega, by omega, fun v' t' H' i' w' hB' kp' => q v' t' H' i' (w'.mono _ (by omega)) (hB'.mono (by omega)) kp'⟩
    refine iteNo hk ?_
    refine ⟨_, rfl, a, 4, n, rfl, hB, by omega, by decide, by decide, fun r H1 r0 r1 hB1 kp1 => ⟨rfl, _, rfl, ?_⟩⟩
    by_cases h0 : V.int r = V.int 0
    · exact iteYes h0 ⟨_, rfl, a, n + 1, 1, rfl, hB1, by omega, by omega, fun v' t' H' i' w' hB' kp' => q v' t' H' i' (w'.mono _ (by omega)) (hB'.mono (by omega)) (kp1.trans kp')⟩
    refine iteNo h0 ?_
    have k01 := KT.kp hB kp1
    have its1 := its.keep k01
    have na1 := na.keep k01
    refine ⟨_, rfl, p, _, _, _, rfl, rfl, SqT.of (k01 _ _ ht), at0 _ _, sz (by simp), fun t1 nt1 => ⟨t1, _, rfl, .inr (SqT.of upd_same), rfl, rfl, _, rfl, ?_⟩⟩
    have s2 := same_up (o := .tup [V.str "value", .str "left"]) nt1
    have k12 := KT.same s2
    have hB2 := hB1.new (o := .tup [V.str "value", .str "left"]) nt1
    have kp2 : Kp a H (upd H1 t1 (.tup [V.str "value", .str "left"])) := kp1.trans (Kp.new nt1)
    have its2 := its1.keep k12
    have na2 := na1.keep k12
    generalize (upd H1 t1 (.tup [V.str "value", .str "left"])) = H2 at s2 k12 hB2 kp2 its2 na2 ⊢
    show if inV (.str k.word) [.str "value", .str "left"] = true then _ else _
    cases k
    case fst x => exact absurd rfl hk
    case op sg =>
      obtain ⟨n1, n2, n3, n4⟩ := sgn_ne wt.1.1
      rw [show (Tk.op sg).word = sg from rfl, n4]
      refine iteF ?_
      obtain ⟨ta, tb, rfl⟩ := two_of wt.1.2
      obtain ⟨va, hva, ia⟩ := its2.get 0 (by simp)
      obtain ⟨vb, hvb, ib⟩ := its2.get 1 (by simp)
      have hw2 : ws = [va, vb] := by
        have hl := its.len
        match ws, hl, hva, hvb with
        | [x, y], _, ha, hb => rw [Option.some.inj ha, Option.some.inj hb]
      subst hw2
      obtain ⟨d', rfl⟩ := TmWs.pos wt.2 (by simp)
      have wa : TmW d' ta := TmWs.get wt.2 0 (by simp)
      have wb : TmW d' tb := TmWs.get wt.2 1 (by simp)
      refine ⟨_, rfl, a, 2, n + 1, rfl, hB2, by omega, by decide, by decide, fun r2 H3 _ _ hB3 kp3 => ⟨rfl, _, rfl, ?_⟩⟩
      have k23 := KT.kp hB2 kp3
      have na3 := k23 _ _ na2
      have ia3 := ia.keep k23
      have ib3 := ib.keep k23
      by_cases h2 : V.int r2 = V.int 0
      · refine iteYes h2 ⟨_, rfl, p, _, _, _, rfl, rfl, SqT.of na3, (rfl : atI [V.str sg, va, vb] 0 = some (.str sg)), _, rfl, _, rfl, p, _, _, _, rfl, rfl, SqT.of na3, (rfl : atI [V.str sg, va, vb] 1 = some va), a, va, n + 1 + 1, d', ta, rfl, hB3, by omega, ia3, wa, by omega, by omega, fun v' t' H4 i4 w4 hB4 kp4 => ?_⟩
        have k34 := KT.kp hB3 kp4
        refine ⟨_, rfl, p, _, _, _, rfl, rfl, SqT.of (k34 _ _ na3), (rfl : atI [V.str sg, va, vb] 2 = some vb), sz (by simp), fun pp npp => ?_⟩
        have k45 := KT.same (same_up (o := .tup [V.str sg, v', vb]) npp)
        exact q _ (.nd (.op sg) [t', tb]) _ (InT.nd (.cons (i4.keep k45) (.cons (ib3.keep (k34.trans k45)) (.nil _))) upd_same) (by unfold TmW; exact ⟨⟨wt.1.1, rfl⟩, .cons w4 (.cons (wb.mono _ (by omega)) (.nil _))⟩) ((hB4.new npp).mono (by omega)) (kp2.trans (kp3.trans (kp4.trans (Kp.new npp))))
      · refine iteNo h2 ⟨_, rfl, p, _, _, _, rfl, rfl, SqT.of na3, (rfl : atI [V.str sg, va, vb] 0 = some (.str sg)), _, rfl, p, _, _, _, rfl, rfl, SqT.of na3, (rfl : atI [V.str sg, va, vb] 2 = some vb), _, rfl, p, _, _, _, rfl, rfl, SqT.of na3, (rfl : atI [V.str sg, va, vb] 1 = some va), sz (by simp), fun pp npp => ?_⟩
        have k34 := KT.same (same_up (o := .tup [V.str sg, vb, va]) npp)
        exact q _ (.nd (.op sg) [tb, ta]) _ (InT.nd (.cons (ib3.keep k34) (.cons (ia3.keep k34) (.nil _))) upd_same) (by unfold TmW; exact ⟨⟨wt.1.1, rfl⟩, .cons (wb.mono _ (by omega)) (.cons (wa.mono _ (by omega)) (.nil _))⟩) ((hB3.new npp).mono (by omega)) (kp2.trans (kp3.trans (Kp.new npp)))
    case' val fn =>
      obtain ⟨q0, hp0, hq0⟩ := na2
      refine iteYes (show inV (.str "value") [.str "value", .str "left"] = true by decide +kernel) ?_
      have hlast : atI [V.str "value", .str fn, .ref q0] (-1) = some (.ref q0) := rfl
      have hcut : cutV [V.str "value", .str fn, .ref q0] none (some (-1)) = [V.str "value", .str fn] := rfl
      have hnode : ∀ (H' : Hp) (pp qq : Addr) (vs : List V), H' pp = some (.tup ([V.str "value", .str fn] ++ [.ref qq])) → H' qq = some (.tup vs) → NodeT H' pp (.val fn) vs := fun H' pp qq vs h1 h2 => ⟨qq, h1, h2⟩
      have hkw : ∀ m, m ≤ 3 → TkW (.val fn) m := fun m hm => ⟨wt.1.1, hm⟩
      have hk3 : ts.length ≤ 3 := tkW_len wt.1
    case' lef fn x =>
      obtain ⟨q0, hp0, hq0⟩ := na2
      refine iteYes (show inV (.str "left") [.str "value", .str "left"] = true by decide +kernel) ?_
      have hlast : atI [V.str "left", .str fn, .str x, .ref q0] (-1) = some (.ref q0) := rfl
      have hcut : cutV [V.str "left", .str fn, .str x, .ref q0] none (some (-1)) = [V.str "left", .str fn, .str x] := rfl
      have hnode : ∀ (H' : Hp) (pp qq : Addr) (vs : List V), H' pp = some (.tup ([V.str "left", .str fn, .str x] ++ [.ref qq])) → H' qq = some (.tup vs) → NodeT H' pp (.lef fn x) vs := fun H' pp qq vs h1 h2 => ⟨qq, h1, h2⟩
      have hkw : ∀ m, m ≤ 3 → TkW (.lef fn x) m := fun m hm => ⟨wt.1.1, wt.1.2.1, hm⟩
      have hk3 : ts.length ≤ 3 := tkW_len wt.1
    all_goals
      refine ⟨_, rfl, _, rfl, p, _, _, _, rfl, rfl, SqT.of hp0, hlast, ?_⟩
      refine ⟨_, rfl, sz (by simp), fun te nte => ?_⟩
      have s3 := same_up (o := .tup ([] : List V)) nte
      have hB3 := hB2.new (o := .tup ([] : List V)) nte
      have kp3 : Kp a H (upd H2 te (.tup [])) := kp2.trans (Kp.new nte)
      have its3 := its2.keep (KT.same s3)
      have sh1 : SeqAt.shaped (.tuple (Tm.datas ts)) = true := by
        unfold SeqAt.shaped
        rw [Bool.and_eq_true]
        have h1 := datas_lay ts wt.2
        have h2 := datas_depth ts wt.2
        refine ⟨by simpa [PyData.canLay0] using h1, decide_eq_true ?_⟩
        simp only [PyData.depth]
        omega
      refine ⟨.tuple (Tm.datas ts), .tuple [], .tup (SqT.of (s3 _ _ hq0)) its3.dp, .tup (SqT.of upd_same) .nil, sh1, by decide +kernel, _, rfl, ?_⟩
      have hp3 := s3 _ _ hp0
      have hq3 := s3 _ _ hq0
      generalize (upd H2 te (.tup [])) = H3 at s3 hB3 kp3 its3 hp3 hq3 ⊢
      cases ts with
      | nil =>
        show if PyData.eqv (.tuple (Tm.datas [])) (.tuple []) = true then _ else _
        rw [show PyData.eqv (.tuple (Tm.datas [])) (.tuple []) = true from by simp [Tm.datas, PyData.eqv, PyData.eqvAll]]
        refine iteT ⟨_, rfl, _, rfl, _, rfl, ?_⟩
        refine slice_any (K := K) hp3 fun t4 H4 e4 s4 => ?_
        rw [hcut] at e4
        have hB4 := same_bag s4 hB3
        refine ⟨_, rfl, a, n + 1, 0, rfl, hB4, by omega, by omega, fun v' t' H5 i5 w5 hB5 kp5 => ⟨sz (by simp), fun t6 n6 => ⟨sz (by simp), fun t7 n7 => ?_⟩⟩⟩
        have s6 := same_up (o := .tup [v']) n6
        have s7 := same_up (o := .tup [V.ref t6]) n7
        have s67 := s6.trans s7
        have e47 := s67 _ _ (KT.kp hB4 kp5 _ _ e4)
        refine cat_any (K := K) e47 upd_same (by simp) fun t8 H8 e8 s8 => ?_
        have s58 := s67.trans s8
        exact q _ (.nd _ [t']) _ (InT.nd (.cons (i5.keep (KT.same s58)) (.nil _)) (hnode _ _ t6 _ e8 (s8 _ _ (s7 _ _ upd_same)))) (by unfold TmW; exact ⟨hkw 1 (by decide), .cons (w5.mono _ (by omega)) (.nil _)⟩) ((same_bag s58 hB5).mono (by omega)) (kp3.trans ((same_kp s4).trans (kp5.trans (same_kp s58))))
      | cons u0 us =>
        show if PyData.eqv (.tuple (Tm.datas (u0 :: us))) (.tuple []) = true then _ else _
        rw [show PyData.eqv (.tuple (Tm.datas (u0 :: us))) (.tuple []) = false from by simp [Tm.datas, PyData.eqv, PyData.eqvAll]]
        refine iteF ?_
        have hlen := its3.len
        have hlp : 0 < (u0 :: us).length := by simp
        refine ⟨_, rfl, _, rfl, q0, ws, rfl, .inr (SqT.of hq3), a, _, n + 1, rfl, hB3, by omega, by omega, by omega, fun r2 H4 r20 r21 hB4 kp4 => ?_⟩
        have k34 := KT.kp hB3 kp4
        have hq4 := k34 _ _ hq3
        have hp4 := k34 _ _ hp3
        refine ⟨_, rfl, q0, ws, rfl, .inr (SqT.of hq4), fun lm nlm => ?_⟩
        have s5 := same_up (o := .lst ws) nlm
        have hB5 := hB4.new (o := .lst ws) nlm
        have nma : lm ≠ a := (bag_ne hB4 nlm).symm
        obtain ⟨d', rfl⟩ := TmWs.pos wt.2 (by simp)
        obtain ⟨jx, hjx⟩ : ∃ j : Nat, r2 = (j : Int) := ⟨r2.toNat, by omega⟩
        subst hjx
        have hjl : jx < (u0 :: us).length := by omega
        have its5 := its3.keep (k34.trans (KT.same s5))
        obtain ⟨vj, hvj, ij⟩ := its5.get jx hjl
        have wj := wt.2.get jx hjl
        refine ⟨_, rfl, _, rfl, _, rfl, q0, ws, _, vj, rfl, rfl, SqT.of (s5 _ _ hq4), at_nat hvj, a, vj, n + 1 + 1, d', _, rfl, hB5, by omega, ij, wj, by omega, by omega, fun v' t' H6 i6 w6 hB6 kp6 => ?_⟩
        have k56 := KT.kp hB5 kp6
        have em6 : H6 lm = some (.lst ws) := kp6 _ _ nma upd_same
        have hp6 := k56 _ _ (s5 _ _ hp4)
        refine ⟨_, rfl, _, rfl, lm, ws, _, jx, rfl, rfl, em6, ?_, ?_⟩
        · unfold ixN
          have h1 : ¬ ((jx : Int) < 0) := by omega
          simp [h1]
          omega
        have k67 : KT H6 (upd H6 lm (.lst (ws.set jx v'))) := fun p xs z => by rw [upd_ne (fun y => by rw [y, em6] at z; cases z)]; exact z
        have hB7 : BagAt (upd H6 lm (.lst (ws.set jx v'))) a (n + 1 + 1 + (20 + 3 * d')) := by
          obtain ⟨x1, x2, x3, e5, e6⟩ := hB6
          exact ⟨x1, x2, x3, by rw [upd_ne nma.symm]; exact e5, e6⟩
        have kp7 : Kp a H (upd H6 lm (.lst (ws.set jx v'))) := fun b o nb z => by
          have z4 := kp4 _ _ nb (kp3 _ _ nb z)
          rw [upd_ne (ne_of_none z4 nlm)]
          exact kp6 _ _ nb (s5 _ _ z4)
        have em7 : (upd H6 lm (.lst (ws.set jx v'))) lm = some (.lst (ws.set jx v')) := upd_same
        have its7 := (its5.keep (k56.trans k67)).set jx (i6.keep k67)
        have hp7 := k67 _ _ hp6
        generalize (upd H6 lm (.lst (ws.set jx v'))) = H7 at k67 hB7 kp7 em7 its7 hp7 ⊢
        refine ⟨_, rfl, _, rfl, _, rfl, ?_⟩
        refine slice_any (K := K) hp7 fun t4 H8 e4 s8 => ?_
        rw [hcut] at e4
        refine ⟨_, rfl, .inl ⟨lm, _, rfl, SqL.of (s8 _ _ em7), fun t6 n6 => ⟨sz (by simp), fun t7 n7 => ?_⟩⟩⟩
        have s9 := same_up (o := .tup (ws.set jx v')) n6
        have s10 := same_up (o := .tup [V.ref t6]) n7
        have s910 := s9.trans s10
        refine cat_any (K := K) (s910 _ _ e4) upd_same (by simp) fun t8 H11 e8 s11 => ?_
        have s7_11 := s8.trans (s910.trans s11)
        refine q _ (.nd _ ((u0 :: us).set jx t')) _ (InT.nd (its7.keep (KT.same s7_11)) (hnode _ _ t6 _ e8 (s11 _ _ (s10 _ _ upd_same)))) (by unfold TmW; exact ⟨hkw _ (by rw [List.length_set]; exact hk3), (wt.2.mono _ (show d' + 1 ≤ d' + 1 + 1 by omega)).set jx w6⟩) ((same_bag s7_11 hB7).mono (by omega)) (kp7.trans (same_kp s7_11))
end
end Oo
namespace Oo
open PySem L2 PyProof.Rows StX
/-! texts can be laid, data tell terms apart -/
mutual
theorem cs_low : ∀ (t : Tm) {d : Nat}, TmW d t → ∀ c ∈ t.cs, c < 200
  | .num n, d, h, c, hc => by
    unfold Tm.cs at hc
    have := dg_all n c hc
    unfold isDg at this
    simp only [Bool.and_eq_true, decide_eq_true_eq] at this
    omega
  | .nd k ts, d, h, c, hc => by
    unfold TmW at h
    have hj := jn_low ts h.2
    have hn : ∀ (x : Str), okName x = true → ∀ c ∈ lc_ x, c < 200 := fun x hx c hc => by
      have := name_all hx c hc
      unfold isLt at this
      simp only [Bool.and_eq_true, decide_eq_true_eq] at this
      omega
    unfold Tm.cs at hc
    cases k with
    | fst x => exact hn x h.1.1 c hc
    | op s =>
      obtain ⟨a, b, rfl⟩ := two_of h.1.2
      obtain ⟨d', rfl⟩ := TmWs.pos h.2 (by simp)
      have h2 := h.2
      unfold TmWs TmWs at h2
      have ha := cs_low a h2.1
      have hb := cs_low b h2.2.1
      have hs : ∀ c ∈ lc_ s, c < 200 := by
        have := h.1.1
        simp only [tsigns, List.mem_cons, List.not_mem_nil, or_false] at this
        rcases this with rfl | rfl | rfl | rfl <;> decide +kernel
      simp only [Tm.css, Tk.cs, List.mem_cons, List.mem_append, List.not_mem_nil, or_false] at hc
      rcases hc with e | e | e | e | e | e | e
      · omega
      · exact ha c e
      · omega
      · exact hs c e
      · omega
      · exact hb c e
      · omega
    | val f =>
      simp only [Tk.cs, List.mem_cons, List.mem_append, List.not_mem_nil, or_false] at hc
      rcases hc with e | e | e | e
      · exact hn f h.1.1 c e
      · omega
      · exact hj c e
      · omega
    | lef f x =>
      simp only [Tk.cs, List.mem_cons, List.mem_append, List.not_mem_nil, or_false] at hc
      rcases hc with e | e | e | e | e | e
      · exact hn f h.1.1 c e
      · omega
      · exact hn x h.1.2.1 c e
      · omega
      · exact hj c e
      · omega
theorem jn_low : ∀ (ts : List Tm) {d : Nat}, TmWs d ts → ∀ c ∈ jn (Tm.css ts), c < 200
  | [], d, h, c, hc => by simp [Tm.css, jn] at hc
  | [t], d, h, c, hc => by
    obtain ⟨d', rfl⟩ := TmWs.pos h (by simp)
    unfold TmWs at h
    simp only [Tm.css, jn] at hc
    exact cs_low t h.1 c hc
  | t :: u :: r, d, h, c, hc => by
    obtain ⟨d', rfl⟩ := TmWs.pos h (by simp)
    unfold TmWs at h
    have e : Tm.css (t :: u :: r) = t.cs :: u.cs :: Tm.css r := by simp only [Tm.css]
    have e2 : Tm.css (u :: r) = u.cs :: Tm.css r := by simp only [Tm.css]
    rw [e] at hc
    simp only [jn, List.mem_cons, List.mem_append] at hc
    have ih := jn_low (u :: r) h.2
    rw [e2] at ih
    rcases hc with e | e | e | e
    · exact cs_low t h.1 c e
    · omega
    · omega
    · exact ih c e
end
theorem txt_ok {t : Tm} {d : Nat} (h : TmW d t) : PyData.strOk t.txt = true := by
  unfold PyData.strOk
  rw [Array.all_eq_true']
  intro c hc
  have h1 : c ∈ t.cs := by
    have : c ∈ lc_ t.txt := Array.mem_toList_iff.mpr hc
    rwa [lc_txt] at this
  have := cs_low t h c h1
  exact decide_eq_true (by omega)
theorem dpAll_txts {K : PySem.W.Frag} {H : Hp} : ∀ xs : List Str, DpAll K H (xs.map V.str) (xs.map PyData.str)
  | [] => .nil
  | x :: r => .cons (.str x) (dpAll_txts r)
theorem eqv_strs : ∀ xs : List Str, PyData.eqvAll (xs.map PyData.str) (xs.map PyData.str) = true
  | [] => by simp [PyData.eqvAll]
  | x :: r => by
    have := eqv_strs r
    simp [PyData.eqvAll, PyData.eqv, this]
theorem lay_strs : ∀ {xs : List Str}, (∀ x ∈ xs, PyData.strOk x = true) → PyData.canLayAll0 (xs.map PyData.str) = true
  | [], _ => by simp [PyData.canLayAll0]
  | x :: r, h => by
    simp only [List.map_cons, PyData.canLayAll0, PyData.canLay0, Bool.and_eq_true]
    exact ⟨h x List.mem_cons_self, lay_strs fun y hy => h y (List.mem_cons_of_mem _ hy)⟩
theorem dep_strs : ∀ (xs : List Str), PyData.depthAll (xs.map PyData.str) = 0
  | [] => by simp [PyData.depthAll]
  | x :: r => by simp [PyData.depthAll, PyData.depth, dep_strs r]
theorem shaped_txts {xs : List Str} (h : ∀ x ∈ xs, PyData.strOk x = true) : SeqAt.shaped (.list (xs.map PyData.str)) = true := by
  unfold SeqAt.shaped
  rw [Bool.and_eq_true]
  refine ⟨by simp only [PyData.canLay0]; exact lay_strs h, decide_eq_true ?_⟩
  simp only [PyData.depth, dep_strs]
  omega
theorem sgn_w {s : Str} (h : s ∈ tsigns) : (s == "value") = false ∧ (("value" : Str) == s) = false := by
  simp only [tsigns, List.mem_cons, List.not_mem_nil, or_false] at h
  rcases h with rfl | rfl | rfl | rfl <;> decide +kernel
theorem eqvAll_len : ∀ {xs ys : List PyData}, PyData.eqvAll xs ys = true → xs.length = ys.length
  | [], [], _ => rfl
  | [], _ :: _, h => by simp [PyData.eqvAll] at h
  | _ :: _, [], h => by simp [PyData.eqvAll] at h
  | x :: xs, y :: ys, h => by
    rw [PyData.eqvAll, Bool.and_eq_true] at h
    rw [List.length_cons, List.length_cons, eqvAll_len h.2]
theorem tup_len {xs ys : List PyData} {p : Prop} (h : xs.length ≠ ys.length) (hp : ¬ p) : (PyData.eqv (.tuple xs) (.tuple ys) = true ↔ p) :=
  ⟨fun e => absurd (eqvAll_len (by rw [PyData.eqv] at e; exact e)) h, fun z => absurd z hp⟩
theorem tup_hd {x y : Str} {xs ys : List PyData} {p : Prop} (h : (x == y) = false) (hp : ¬ p) : (PyData.eqv (.tuple (.str x :: xs)) (.tuple (.str y :: ys)) = true ↔ p) :=
  ⟨fun e => (by
    rw [PyData.eqv, PyData.eqvAll, PyData.eqv, h, Bool.false_and] at e
    cases e), fun z => absurd z hp⟩
theorem datas_len : ∀ ts : List Tm, (Tm.datas ts).length = ts.length
  | [] => by simp only [Tm.datas, List.length_nil]
  | t :: r => by simp only [Tm.datas, List.length_cons, datas_len r]
mutual
theorem data_eq : ∀ (t : Tm) (d : Nat) (t' : Tm) (d' : Nat), TmW d t → TmW d' t' → (PyData.eqv t.data t'.data = true ↔ t = t')
  | .num n, d, t', d', h, h' => by
    cases t' with
    | num m =>
      simp only [Tm.data, PyData.eqv, beq_iff_eq]
      constructor
      · intro e; rw [show n = m by omega]
      · intro e; injection e with e; rw [e]
    | nd k ts => cases k <;> simp [Tm.data, Tk.data, PyData.eqv]
  | .nd k ts, d, t', d', h, h' => by
    cases t' with
    | num m => cases k <;> simp [Tm.data, Tk.data, PyData.eqv]
    | nd k' ts' =>
      unfold TmW at h h'
      have hs := datas_eq ts d ts' d' h.2 h'.2
      have l1 := datas_len ts
      have l2 := datas_len ts'
      cases k with
      | fst x =>
        have z : ts = [] := List.eq_nil_of_length_eq_zero h.1.2
        cases k' with
        | fst x' =>
          have z' : ts' = [] := List.eq_nil_of_length_eq_zero h'.1.2
          rw [z, z']
          simp only [Tm.data, Tk.data, PyData.eqv, PyData.eqvAll, Bool.and_eq_true, beq_iff_eq]
          constructor
          · rintro ⟨_, e, _⟩; rw [e]
          · intro e
            injection e with e _
            injection e with e
            exact ⟨trivial, e, trivial⟩
        | op s' =>
          have := h'.1.2
          exact tup_len (by simp only [List.length_cons, List.length_nil]; omega) (by intro e; injection e with e; cases e)
        | val f' => exact tup_len (by simp only [List.length_cons, List.length_nil]; omega) (by intro e; injection e with e; cases e)
        | lef f' x' => exact tup_len (by simp only [List.length_cons, List.length_nil]; omega) (by intro e; injection e with e; cases e)
      | op s =>
        have ho := h.1.2
        cases k' with
        | fst x' => exact tup_len (by simp only [List.length_cons, List.length_nil]; omega) (by intro e; injection e with e; cases e)
        | op s' =>
          show PyData.eqv (.tuple (.str s :: Tm.datas ts)) (.tuple (.str s' :: Tm.datas ts')) = true ↔ _
          rw [PyData.eqv, PyData.eqvAll, PyData.eqv, Bool.and_eq_true, beq_iff_eq, hs]
          constructor
          · rintro ⟨e1, e2⟩; rw [e1, e2]
          · intro e
            injection e with e1 e2
            injection e1 with e1
            exact ⟨e1, e2⟩
        | val f' => exact tup_hd (sgn_w h.1.1).1 (by intro e; injection e with e; cases e)
        | lef f' x' => exact tup_len (by simp only [List.length_cons, List.length_nil]; omega) (by intro e; injection e with e; cases e)
      | val f =>
        cases k' with
        | fst x' => exact tup_len (by simp only [List.length_cons, List.length_nil]; omega) (by intro e; injection e with e; cases e)
        | op s' => exact tup_hd (sgn_w h'.1.1).2 (by intro e; injection e with e; cases e)
        | val f' =>
          show PyData.eqv (.tuple [.str "value", .str f, .tuple (Tm.datas ts)]) (.tuple [.str "value", .str f', .tuple (Tm.datas ts')]) = true ↔ _
          simp only [PyData.eqv, PyData.eqvAll, Bool.and_eq_true, beq_iff_eq, hs]
          constructor
          · rintro ⟨_, e1, e2, _⟩; rw [e1, e2]
          · intro e
            injection e with e1 e2
            injection e1 with e1
            exact ⟨trivial, e1, e2, trivial⟩
        | lef f' x' => exact tup_len (by simp only [List.length_cons, List.length_nil]; omega) (by intro e; injection e with e; cases e)
      | lef f x =>
        cases k' with
        | fst x' => exact tup_len (by simp only [List.length_cons, List.length_nil]; omega) (by intro e; injection e with e; cases e)
        | op s' =>
          have := h'.1.2
          exact tup_len (by simp only [List.length_cons, List.length_nil]; omega) (by intro e; injection e with e; cases e)
        | val f' => exact tup_len (by simp only [List.length_cons, List.length_nil]; omega) (by intro e; injection e with e; cases e)
        | lef f' x' =>
          show PyData.eqv (.tuple [.str "left", .str f, .str x, .tuple (Tm.datas ts)]) (.tuple [.str "left", .str f', .str x', .tuple (Tm.datas ts')]) = true ↔ _
          simp only [PyData.eqv, PyData.eqvAll, Bool.and_eq_true, beq_iff_eq, hs]
          constructor
          · rintro ⟨_, e1, e2, e3, _⟩; rw [e1, e2, e3]
          · intro e
            injection e with e1 e2
            injection e1 with e1 e3
            exact ⟨trivial, e1, e3, e2, trivial⟩
theorem datas_eq : ∀ (ts : List Tm) (d : Nat) (ts' : List Tm) (d' : Nat), TmWs d ts → TmWs d' ts' → (PyData.eqvAll (Tm.datas ts) (Tm.datas ts') = true ↔ ts = ts')
  | [], d, [], d', h, h' => by simp [Tm.datas, PyData.eqvAll]
  | [], d, t' :: r', d', h, h' => by simp [Tm.datas, PyData.eqvAll]
  | t :: r, d, [], d', h, h' => by simp [Tm.datas, PyData.eqvAll]
  | t :: r, d, t' :: r', d', h, h' => by
    obtain ⟨d1, rfl⟩ := TmWs.pos h (by simp)
    obtain ⟨d2, rfl⟩ := TmWs.pos h' (by simp)
    unfold TmWs at h h'
    have h1 := data_eq t d1 t' d2 h.1 h'.1
    have h2 := datas_eq r (d1 + 1) r' (d2 + 1) h.2 h'.2
    simp only [Tm.datas, PyData.eqvAll, Bool.and_eq_true, h1, h2, List.cons.injEq]
end
end Oo
namespace Oo
open PySem L2 PyProof.Rows LamX StX
abbrev sLaw : Stmt := top 13
/-- a def called by a keyword alone -/
theorem pe_callKO {X : Cx} {CX : CXT} {k : Nat} {f : Addr} {fd : FuncData} {ps ks : List Str} {sp : Sp} {E : XK} {x : Str} {p pos : Pos} {kws : List Keyword} {tk : TA} {g : List Value → List Value → List Value} {gV : List V → List V → List V}
    (F : FnOk X.prog X.w X.K X.mg X.base CX k f fd ps sp) (hr : Room k X.A) (hm : X.mg x = some (.ref f)) (hk : PySem.W.keepIn X.K (.ref f) = true) (hb : KBinds X.K fd ps ks g gV) (hx : Passes CX X E) (hkw : PK X kws tk) (hg : Gl X x := by rfl)
    (h1 : (backToKw pos (keywordEach kws X.env)).all (·.1.isSome) = true := by rfl) (h2 : (backToKw pos (keywordEach kws X.env)).filterMap (·.1) = ks := by rfl) (h3 : (x == ("__debug__" : Str)) = false := by decide)
    (h4 : ((backTo pos (starEach [] X.env)).any (·.1) || (backToKw pos (keywordEach kws X.env)).any (·.1.isNone)) = false := by rfl) :
    PE X (.Call (.Name x p) [] kws pos) (tCallK sp gV E tNil tk) :=
  ⟨fun pins s σ H Q I h => wpAny_Call_Name_kw (ld_glob I hg hm (PySem.W.callWith_KW0 (h₀ := X.base) I.ok.mod.kin hk h1 (thn (hkw.run pos pins s σ H _ I h) fun ws s2 ⟨zs, H2, I2, rz, q2⟩ => ⟨I2.kIn, by
    rw [h2]
    exact run_fnk F hr hb hx I2 (vs := []) (us := []) .nil rz q2⟩) h4) h3)⟩
def teDraw : TE := fun σ H Q => ∃ (a : Addr) (n : Nat), σ[2]? = some (some (.ref a)) ∧ BagAt H a n ∧ n + 484 ≤ 900000 ∧ ∀ (v : V) (t : Tm) (H' : Hp), InT H' t v → TmW 4 t → BagAt H' a (n + 484) → Kp a H H' → Q v H'
def teTx : TE := fun σ H Q => ∃ (v : V) (t : Tm) (d : Nat), σ[6]? = some (some v) ∧ InT H t v ∧ TmW d t ∧ d ≤ 8 ∧ ∀ H', Same H H' → Q (.str t.txt) H'
def spLaw (K : PySem.W.Frag) (T : List (Addr × Str)) : Sp := fun vs H Q _ => ∃ (a : Addr) (ns : List Int), vs = [.ref a] ∧ SqL K H a (ns.map V.int) ∧ ns.length ≤ 63 ∧ Tabs T H ∧ ∀ H', Q (.bl true) H'
theorem seqL_kp {K : PySem.W.Frag} {H H1 H2 : Hp} {a p : Addr} {xs : List V} (h : SqL K H a xs) (np : H p = none) (s : Same H H1) (k : Kp p H1 H2) : SqL K H2 a xs := by
  rcases h with (h | ⟨o, h⟩) | h
  · exact .inl (.inl (k _ _ (ne_of_none h np) (s _ _ h)))
  · exact .inl (.inr ⟨o, k _ _ (ne_of_none h np) (s _ _ h)⟩)
  · exact .inr h
def TA' (d : Nat) (H : Hp) (v : V) (t : Tm) : Prop := InT H t v ∧ TmW d t
theorem TA'.keep {d : Nat} {H H' : Hp} (k : KT H H') {v : V} {t : Tm} (h : TA' d H v t) : TA' d H' v t := ⟨h.1.keep k, h.2⟩
section
variable {P : Program} {w : World} {K : PySem.W.Frag} {mg : Str → Option Value} {base : Heap} {X : Cx}
theorem scLaw : FnScope ["_law_script", "_law_at", "_law_bag_here", "_law_terms", "_law_turn", "_law_words", "_law_thing", "_law_one", "_law_word", "_law_other", "_law_second"] ["_law_script"] (defScope sLaw) := ⟨rfl, rfl, rfl, by decide +kernel, rfl, by decide +kernel, by decide +kernel⟩
theorem ok_law {T : List (Addr × Str)} {f fBg fM fB fS fW : Addr} {fd fdBg fdM fdB fdS fdW : FuncData} {g : List Value → List Value → List Value} (F : Fun K "law" "law" sLaw f fd)
    (mr : mg "range" = none) (mx : mg "max" = none) (mn : mg "min" = none) (ml : mg "len" = none) (mz : mg "zip" = none)
    (GBg : FnOk P w K mg base CX0 1 fBg fdBg ["_law_script", "_law_at"] (spBag K)) (kBg : PySem.W.keepIn K (.ref fBg) = true) (bBg : Binds K fdBg ["_law_script", "_law_at"] []) (mBg : mg "_law_bag" = some (.ref fBg))
    (GM : FnOk P w K mg base CX0 7 fM fdM ["_law_bag_here", "_law_depth"] (spTerm 5)) (kM : PySem.W.keepIn K (.ref fM) = true) (bM : Binds K fdM ["_law_bag_here", "_law_depth"] []) (mM : mg "_law_term" = some (.ref fM))
    (GB : FnOk P w K mg base CX0 12 fB fdB ["_law_bag_here", "_law_thing"] (spBent 5)) (kB : PySem.W.keepIn K (.ref fB) = true) (bB : Binds K fdB ["_law_bag_here", "_law_thing"] []) (mB : mg "_law_bent" = some (.ref fB))
    (GS : FnOk P w K mg base CX0 3 fS fdS ["term"] spShow) (kS : PySem.W.keepIn K (.ref fS) = true) (bS : Binds K fdS ["term"] []) (mS : mg "show_term" = some (.ref fS)) (kbS : KBinds K fdS ["term"] ["term"] g (fun vs zs => vs ++ zs))
    (GW : FnOk P w K mg base CX0 9 fW fdW ["_law_thing"] (spWri 9)) (kW : PySem.W.keepIn K (.ref fW) = true) (bW : Binds K fdW ["_law_thing"] []) (mW : mg "_law_written" = some (.ref fW)) :
    FnOk P w K mg base CX0 84 f fd ["_law_script"] (spLaw K T) := by
  refine F.ok scLaw (fun vs H Q E h => ?_) (fun cdv A outer s H vs Q E hr h => ?_)
  · obtain ⟨a, ns, rfl, _⟩ := h
    rfl
  obtain ⟨a, ns, rfl, hS, hl, hT, q⟩ := h
  have hr1 : Room 1 _ := hr.mono (by decide)
  have hr3 : Room 3 _ := hr.mono (by decide)
  have hr7 : Room 7 _ := hr.mono (by decide)
  have hr9 : Room 9 _ := hr.mono (by decide)
  have hr12 : Room 12 _ := hr.mono (by decide)
  have hu := hu_of hr
  refine ⟨_, (pss_cons (ps_for PassesOwn.never rfl (pi_range1 (by rfl) mr (pa_cons (pe_callB (call_max2 rfl) (by rfl) mx PyProof.Rows.boot_max (pa_cons pe_int (pa_cons (pe_callB (call_min2 rfl) (by rfl) mn PyProof.Rows.boot_min (pa_cons pe_int (pa_cons (pe_callB call_len_seq (by rfl) ml PySem.boot_len (pa_cons (pv 0) pa_nil)) pa_nil))) pa_nil))) pa_nil)) (pg_name (i := 1) scLaw.nd rfl (Or.inl rfl)) (pss_cons (ps_set (i := 2) scLaw.nd rfl (.inr rfl) (pe_call GBg hr1 rfl mBg kBg bBg .nil pass0 (pa_cons (pv 0) (pa_cons (pv 1) pa_nil))))
    (pss_cons (ps_setLc (i := 3) (own := [("_law_turn", 4)]) (g := gName 4) (tt := tYes) (by rfl) scLaw.nd rfl rfl (sw_true rfl rfl rfl (by decide +kernel)) (pi_range1 (by rfl) mr (pa_cons pe_int pa_nil)) (blkOk_by (own := [("_law_turn", 4)]) (N := ["_law_script", "_law_at", "_law_bag_here", "_law_terms", "_law_turn", "_law_words", "_law_thing", "_law_one", "_law_word", "_law_other", "_law_second"]) (sc := defScope sLaw) (by decide +kernel)) (fun _ _ _ _ _ => (pg_name (i := 4) scLaw.nd rfl (Or.inl rfl))) (fun _ _ _ _ _ => pts_nil) (fun _ _ _ _ _ => (pe_as (t' := teDraw) (pe_call GM hr7 rfl mM kM bM .nil pass0 (pa_cons (pv 2) (pa_cons pe_int pa_nil))) ?c1)))
    (pss_cons (ps_set (i := 3) scLaw.nd rfl (.inl rfl) (pe_op op_cat (pv 3) (pe_lst (pa_cons (pe_call GB hr12 rfl mB kB bB .nil pass0 (pa_cons (pv 2) (pa_cons (pe_ix ix_list (pv 3) pe_int (fun _ _ => rfl)) pa_nil))) (pa_cons (pe_call GB hr12 rfl mB kB bB .nil pass0 (pa_cons (pv 2) (pa_cons (pe_ix ix_list (pv 3) pe_int (fun _ _ => rfl)) pa_nil))) pa_nil)))))
    (pss_cons (ps_setLc (i := 5) (own := [("_law_thing", 6)]) (g := gName 6) (tt := tYes) (by rfl) scLaw.nd rfl rfl (sw_true rfl rfl rfl (by decide +kernel)) (pi_list (pv 3)) (blkOk_by (own := [("_law_thing", 6)]) (N := ["_law_script", "_law_at", "_law_bag_here", "_law_terms", "_law_turn", "_law_words", "_law_thing", "_law_one", "_law_word", "_law_other", "_law_second"]) (sc := defScope sLaw) (by decide +kernel)) (fun _ _ _ _ _ => (pg_name (i := 6) scLaw.nd rfl (Or.inl rfl))) (fun _ _ _ _ _ => pts_nil) (fun _ _ _ _ _ => (pe_as (t' := teTx) (pe_call GS hr3 rfl mS kS bS .nil pass0 (pa_cons (pv 6) pa_nil)) ?c2)))
    (pss_cons (ps_if (PW.pt (pw_or (pt_cmpR (op_neD hr.units) (pv 5) (pe_lc (own := [("_law_thing", 6)]) (g := gName 6) (tt := tYes) (by rfl) scLaw.nd (pi_list (pv 3)) (blkOk_by (own := [("_law_thing", 6)]) (N := ["_law_script", "_law_at", "_law_bag_here", "_law_terms", "_law_turn", "_law_words", "_law_thing", "_law_one", "_law_word", "_law_other", "_law_second"]) (sc := defScope sLaw) (by decide +kernel)) (fun _ _ _ _ _ => (pg_name (i := 6) scLaw.nd rfl (Or.inl rfl))) (fun _ _ _ _ _ => pts_nil) (fun _ _ _ _ _ => (pe_as (t' := teTx) (pe_call GW hr9 rfl mW kW bW .nil pass0 (pa_cons (pv 6) pa_nil)) ?c3))) (nomark _)) (pw_or1 (pt_cmpR op_ne (pe_callKO GS hr3 mS kS kbS pass0 (pk_cons (pe_ix ix_list (pv 3) pe_int (fun _ _ => rfl)) pk_nil)) (pe_ix ix_list (pv 5) pe_int (fun _ _ => rfl)) (nomark _))))) (pss_one (ps_ret pe_bl)) pss_nil)
    (pss_one (ps_for PassesOwn.never rfl (pi_zip (by rfl) mz (pa_cons (pv 3) (pa_cons (pv 5) pa_nil))) (pg_tup rfl (pgs_cons (pg_name (i := 7) scLaw.nd rfl (Or.inl rfl)) (pgs_cons (pg_name (i := 8) scLaw.nd rfl (Or.inl rfl)) pgs_nil))) (pss_one (ps_for PassesOwn.never rfl (pi_zip (by rfl) mz (pa_cons (pv 3) (pa_cons (pv 5) pa_nil))) (pg_tup rfl (pgs_cons (pg_name (i := 9) scLaw.nd rfl (Or.inl rfl)) (pgs_cons (pg_name (i := 10) scLaw.nd rfl (Or.inl rfl)) pgs_nil))) (pss_one (ps_if (pt_cmpR op_ne (pe_cmpR (op_eqD hr.units) (pv 7) (pv 9) (nomark _)) (pe_cmpR op_eq (pv 8) (pv 10) (nomark _)) (nomark _)) (pss_one (ps_ret pe_bl)) pss_nil))))))))))))
    (pss_one (ps_ret (pe_and (pe_cmpR op_eq (pe_call GS hr3 rfl mS kS bS .nil pass0 (pa_cons (pe_tup (pa_cons pe_str (pa_cons pe_str (pa_cons pe_str (pa_cons (pe_tup pa_nil) pa_nil))))) pa_nil)) pe_str (nomark _)) (pe_one (pe_cmpR op_eq (pe_call GS hr3 rfl mS kS bS .nil pass0 (pa_cons (pe_tup (pa_cons pe_str (pa_cons pe_str pa_nil))) pa_nil)) pe_str (nomark _))))))), ?_⟩
  case c1 =>
    rintro σ H Q ⟨a, n, e2, hB, hn, q⟩
    exact ⟨_, e2, a, n, 4, rfl, hB, hn, by decide, q⟩
  case c2 =>
    rintro σ H Q ⟨v, t, d, e6, it, wt, hd, q⟩
    exact ⟨_, e6, v, t, d, rfl, it, wt, hd, q⟩
  case c3 =>
    rintro σ H Q ⟨v, t, d, e6, it, wt, hd, q⟩
    exact ⟨_, e6, v, t, d, rfl, it, wt, by omega, hd, q⟩
  have hlen : (ns.map V.int).length = ns.length := List.length_map _
  refine ⟨_, rfl, a, _, rfl, .inl hS, _, _, rfl, _, _, rfl, _, rfl, ?_, ?_, ?_⟩
  · split <;> split <;> omega
  · split <;> split <;> omega
  have hn5 : ∀ z : Int, z = (if (if ((ns.map V.int).length : Int) < 5 then ((ns.map V.int).length : Int) else 5) > 2 then (if ((ns.map V.int).length : Int) < 5 then ((ns.map V.int).length : Int) else 5) else 2) → z.toNat ≤ 5 := fun z e => by
    rw [e]
    split <;> split <;> omega
  have hn5' := hn5 _ rfl
  refine for_range (lo := 0) (fun i σ H' => ∃ x1 x2 x3 x4 x5 x6 x7 x8 x9 x10, σ = [some (.ref a), x1, x2, x3, x4, x5, x6, x7, x8, x9, x10] ∧ SqL K H' a (ns.map V.int)) ⟨none, none, none, none, none, none, none, none, none, none, rfl, hS⟩ ?_ ?_
  · rintro i σ H0 hi ⟨x1, x2, x3, x4, x5, x6, x7, x8, x9, x10, rfl, hS0⟩
    refine ⟨_, rfl, _, rfl, a, ns, _, rfl, hS0, hl, by omega, by omega, fun p H1 np s1 hB1 => ?_⟩
    have sc := fun H2 (k : Kp p H1 H2) => seqL_kp hS0 np s1 k
    refine ⟨6, rfl, by decide, by decide, fun D nD => ?_⟩
    have nDp : D ≠ p := (bag_ne hB1 nD).symm
    refine lc_range (lo := 0) (n := 6) (fun j H' => ∃ (ts : List Tm) (ws : List V), H' D = some (.lst ws) ∧ Paired (TA' 4 H') ws ts ∧ ts.length = j ∧ BagAt H' p (j * 484) ∧ Kp p H1 H') ⟨[], [], upd_same, .nil, rfl, (hB1.new nD).mono (by omega), Kp.new nD⟩ ?_ ?_
    · rintro j H' hj ⟨ts, ws, eD, pt, hl, hB', kp'⟩
      refine ⟨rfl, yes_i ⟨p, j * 484, rfl, hB', by omega, fun v t H4 i4 w4 hB4 kp4 => ?_⟩⟩
      have eD4 : H4 D = some (.lst ws) := kp4 _ _ nDp eD
      have kk : KT H4 (upd H4 D (.lst (ws ++ [v]))) := fun p' xs z => by
        rw [upd_ne (fun y => by rw [y, eD4] at z; cases z)]; exact z
      refine ⟨ws, eD4, small1000 (by rw [pt.length]; omega), ts ++ [t], ws ++ [v], upd_same, paired_append (L2.Paired.mapP pt fun a b z => z.keep ((KT.kp hB' kp4).trans kk)) (.cons ⟨i4.keep kk, w4⟩ .nil), by simp [hl], ?_, fun b o nb z => ?_⟩
      · obtain ⟨x1, x2, x3, e5, e6⟩ := hB4
        exact BagAt.mono ⟨x1, x2, x3, by rw [upd_ne nDp.symm]; exact e5, e6⟩ (by omega)
      · have := kp4 _ _ nb (kp' _ _ nb z)
        rw [upd_ne (ne_of_none z nD)]
        exact this
    rintro H5 ⟨ts, ws, eD, pt, hl, hB5, kp5⟩
    have hwl : ws.length = 6 := by rw [pt.length, hl]
    obtain ⟨v0, hv0⟩ : ∃ v, ws[0]? = some v := ⟨_, List.getElem?_eq_getElem (by omega)⟩
    obtain ⟨v1, hv1⟩ : ∃ v, ws[1]? = some v := ⟨_, List.getElem?_eq_getElem (by omega)⟩
    obtain ⟨t0, ht0, i0, w0⟩ := paired_get pt hv0
    obtain ⟨t1, ht1, i1, w1⟩ := paired_get pt hv1
    refine ⟨_, rfl, _, rfl, _, rfl, D, ws, _, v0, rfl, rfl, SqL.of eD, at_nat (i := 0) hv0, p, v0, 6 * 484, 4, t0, rfl, hB5, by omega, i0, w0, by omega, by omega, fun v6 t6 H6 i6 w6 hB6 kp6 => ?_⟩
    have k56 := KT.kp hB5 kp6
    have eD6 := kp6 _ _ nDp eD
    refine ⟨_, rfl, _, rfl, D, ws, _, v1, rfl, rfl, SqL.of eD6, at_nat (i := 1) hv1, p, v1, _, 4, t1, rfl, hB6, by omega, i1.keep k56, w1, by omega, by omega, fun v7 t7 H7 i7 w7 hB7 kp7 => ⟨sz (by simp), fun l2 n2 => ?_⟩⟩
    have k67 := KT.kp hB6 kp7
    have eD7 := kp7 _ _ nDp eD6
    have s2 := same_up (o := .lst [v6, v7]) n2
    have hB8 := hB7.new (o := .lst [v6, v7]) n2
    refine ⟨D, l2, ws, [v6, v7], rfl, rfl, s2 _ _ eD7, upd_same, sz (by simp; omega), fun R nR => ?_⟩
    have s3 := same_up (o := .lst (ws ++ [v6, v7])) nR
    have s23 := s2.trans s3
    have kR : Kp p H1 (upd (upd H7 l2 (.lst [v6, v7])) R (.lst (ws ++ [v6, v7]))) := kp5.trans (kp6.trans (kp7.trans (same_kp s23)))
    have eR : (upd (upd H7 l2 (.lst [v6, v7])) R (.lst (ws ++ [v6, v7]))) R = some (.lst (ws ++ [v6, v7])) := upd_same
    have k7 := KT.same s23
    have pR : Paired (TA' 5 (upd (upd H7 l2 (.lst [v6, v7])) R (.lst (ws ++ [v6, v7])))) (ws ++ [v6, v7]) (ts ++ [t6, t7]) :=
      paired_append (L2.Paired.mapP pt fun a b z => ⟨z.1.keep (k56.trans (k67.trans k7)), z.2.mono _ (by decide)⟩) (.cons ⟨i6.keep (k67.trans k7), w6⟩ (.cons ⟨i7.keep k7, w7⟩ .nil))
    have hRl : (ws ++ [v6, v7]).length = 8 := by rw [List.length_append, hwl]; rfl
    have hTl : (ts ++ [t6, t7]).length = 8 := by rw [List.length_append, hl]; rfl
    have hR0 : (ws ++ [v6, v7])[0]? = some v0 := by rw [List.getElem?_append_left (by omega)]; exact hv0
    have hT0 : (ts ++ [t6, t7])[0]? = some t0 := by rw [List.getElem?_append_left (by omega)]; exact ht0
    generalize (upd (upd H7 l2 (.lst [v6, v7])) R (.lst (ws ++ [v6, v7]))) = H8 at kR eR pR ⊢
    generalize ws ++ [v6, v7] = rows at eR pR hRl hR0 ⊢
    generalize ts ++ [t6, t7] = us at pR hTl hT0 ⊢
    -- the words
    refine ⟨_, rfl, R, rfl, ⟨_, SqL.of eR⟩, fun W nW => ?_⟩
    refine lc_list (K := K) (a := R) (xs := rows) (fun i H' => H' W = some (.lst (((us.take i).map Tm.txt).map V.str)) ∧ Same H8 H') ⟨upd_same, same_up nW⟩ (fun i H' _ h => SqL.of (h.2 _ _ eR)) ?_ ?_
    · rintro i u H9 hi ⟨eW, s9⟩
      obtain ⟨t, ht, it⟩ := paired_get pR hi
      have hil : i < us.length := (List.getElem?_eq_some_iff.mp ht).1
      have et : us[i] = t := (List.getElem?_eq_some_iff.mp ht).2
      refine ⟨rfl, yes_i ⟨u, t, 5, rfl, it.1.keep (KT.same s9), it.2, by decide, fun H10 s10 => ⟨_, s10 _ _ eW, small1000 (by rw [List.length_map, List.length_map, List.length_take]; omega), ?_, fun b o z => by rw [upd_ne (ne_of_none z nW)]; exact s10 _ _ (s9 _ _ z)⟩⟩⟩
      rw [take_succ_get _ i hil, List.map_append, List.map_append, et]
      exact upd_same
    rintro H9 ⟨eW, s9⟩
    rw [hRl, ← hTl, List.take_length] at eW
    have eR9 := s9 _ _ eR
    have pR9 := L2.Paired.mapP pR fun a b z => z.keep (KT.same s9)
    have hok : ∀ x ∈ us.map Tm.txt, PyData.strOk x = true := fun x hx => by
      obtain ⟨t, ht, rfl⟩ := List.mem_map.mp hx
      obtain ⟨j, hj⟩ := List.mem_iff_getElem?.mp ht
      have hjl : j < rows.length := by
        have := (List.getElem?_eq_some_iff.mp hj).1
        omega
      obtain ⟨t', ht', it'⟩ := paired_get pR (List.getElem?_eq_getElem hjl)
      rw [hj] at ht'
      rw [Option.some.inj ht']
      exact txt_ok it'.2
    refine ⟨_, rfl, _, rfl, R, rfl, ⟨_, SqL.of eR9⟩, fun W2 nW2 => ?_⟩
    refine lc_list (K := K) (a := R) (xs := rows) (fun i H' => H' W2 = some (.lst (((us.take i).map Tm.txt).map V.str)) ∧ Same H9 H') ⟨upd_same, same_up nW2⟩ (fun i H' _ h => SqL.of (h.2 _ _ eR9)) ?_ ?_
    · rintro i u H10 hi ⟨eW2, s10⟩
      obtain ⟨t, ht, it⟩ := paired_get pR9 hi
      have hil : i < us.length := (List.getElem?_eq_some_iff.mp ht).1
      have et : us[i] = t := (List.getElem?_eq_some_iff.mp ht).2
      refine ⟨rfl, yes_i ⟨u, t, 5, rfl, it.1.keep (KT.same s10), it.2, by decide, fun H11 s11 => ⟨_, s11 _ _ eW2, small1000 (by rw [List.length_map, List.length_map, List.length_take]; omega), ?_, fun b o z => by rw [upd_ne (ne_of_none z nW2)]; exact s11 _ _ (s10 _ _ z)⟩⟩⟩
      rw [take_succ_get _ i hil, List.map_append, List.map_append, et]
      exact upd_same
    rintro H10 ⟨eW2, s10⟩
    rw [hRl, ← hTl, List.take_length] at eW2
    have eW10 := s10 _ _ eW
    have eR10 := s10 _ _ eR9
    have pR10 := L2.Paired.mapP pR9 fun a b z => z.keep (KT.same s10)
    refine ⟨.list ((us.map Tm.txt).map PyData.str), .list ((us.map Tm.txt).map PyData.str), .lst (SqL.of eW10) (dpAll_txts _), .lst (SqL.of eW2) (dpAll_txts _), shaped_txts hok, shaped_txts hok, _, rfl, ?_⟩
    have he : (!PyData.eqv (.list ((us.map Tm.txt).map PyData.str)) (.list ((us.map Tm.txt).map PyData.str))) = false := by
      rw [PyData.eqv, eqv_strs]
      rfl
    show if (!PyData.eqv (.list ((us.map Tm.txt).map PyData.str)) (.list ((us.map Tm.txt).map PyData.str))) = true then _ else _
    rw [he]
    refine iteF ?_
    obtain ⟨tz, htz, iz⟩ := paired_get pR10 hR0
    rw [hT0] at htz
    cases htz
    have hW0 : ((us.map Tm.txt).map V.str)[0]? = some (.str t0.txt) := by rw [List.getElem?_map, List.getElem?_map, hT0]; rfl
    refine ⟨_, rfl, R, rows, _, v0, rfl, rfl, SqL.of eR10, at_nat (i := 0) hR0, v0, t0, 5, rfl, iz.1, iz.2, by decide, fun H11 s11 => ⟨_, rfl, W, _, _, _, rfl, rfl, SqL.of (s11 _ _ eW10), at_nat (i := 0) hW0, rfl, _, rfl, iteNS rfl ?_⟩⟩
    have eR11 := s11 _ _ eR10
    have eW11 := s11 _ _ eW10
    have pR11 := L2.Paired.mapP pR10 fun a b z => z.keep (KT.same s11)
    have kp11 : Kp p H1 H11 := kR.trans (same_kp (s9.trans (s10.trans s11)))
    have hWl : ((us.map Tm.txt).map V.str).length = 8 := by rw [List.length_map, List.length_map, hTl]
    have hWj : ∀ {j : Nat} {u : V} {t : Tm}, us[j]? = some t → ((us.map Tm.txt).map V.str)[j]? = some u → u = .str t.txt := fun h1 h2 => by
      rw [List.getElem?_map, List.getElem?_map, h1] at h2
      exact (Option.some.inj h2).symm
    generalize (us.map Tm.txt).map V.str = wds at eW11 hWl hWj ⊢
    refine ⟨_, rfl, _, rfl, R, W, rows, wds, rfl, SqL.of eR11, SqL.of eW11, ?_⟩
    refine for_it (walk_zip (K := K) (a := R) (b := W) (xs := rows) (ys := wds) (n := 8) (by omega)) (fun k σ H' => ∃ y7 y8 y9 y10, σ = [some (.ref a), some (.int (0 + (i : Int))), some (.ref p), some (.ref R), x4, some (.ref W), x6, y7, y8, y9, y10] ∧ Same H11 H') ⟨_, _, _, _, rfl, Same.refl _⟩ (fun k σ H' _ ⟨_, _, _, _, _, z⟩ => ⟨SqL.of (z _ _ eR11), SqL.of (z _ _ eW11)⟩) ?_ ?_
    · rintro k u σ H12 H13 hk ⟨y7, y8, y9, y10, rfl, s12⟩ ⟨T0, xa, xb, rfl, nT, rfl, hx, hy⟩
      have sT := same_up (o := .tup [xa, xb]) nT
      obtain ⟨ta, hta, ia⟩ := paired_get pR11 hx
      have := hWj hta hy
      subst this
      refine ⟨T0, _, rfl, SqT.of upd_same, rfl, _, _, rfl, _, _, rfl, rfl, ?_⟩
      have s13 := s12.trans sT
      refine ⟨_, rfl, _, rfl, R, W, rows, wds, rfl, SqL.of (s13 _ _ eR11), SqL.of (s13 _ _ eW11), ?_⟩
      refine for_it (walk_zip (K := K) (a := R) (b := W) (xs := rows) (ys := wds) (n := 8) (by omega)) (fun k σ H' => ∃ y9 y10, σ = [some (.ref a), some (.int (0 + (i : Int))), some (.ref p), some (.ref R), x4, some (.ref W), x6, some xa, some (.str ta.txt), y9, y10] ∧ Same H11 H') ⟨_, _, rfl, s13⟩ (fun k σ H' _ ⟨_, _, _, z⟩ => ⟨SqL.of (z _ _ eR11), SqL.of (z _ _ eW11)⟩) ?_ ?_
      · rintro k2 u2 σ H14 H15 hk2 ⟨z9, z10, rfl, s14⟩ ⟨T1, ya, yb, rfl, nT1, rfl, hx2, hy2⟩
        have sT1 := same_up (o := .tup [ya, yb]) nT1
        obtain ⟨tb, htb, ib⟩ := paired_get pR11 hx2
        have := hWj htb hy2
        subst this
        have s15 := s14.trans sT1
        refine ⟨T1, _, rfl, SqT.of upd_same, rfl, _, _, rfl, _, _, rfl, rfl, ?_⟩
        have wa : TmW 5 ta := ia.2
        have wb : TmW 5 tb := ib.2
        refine ⟨_, rfl, _, rfl, ta.data, tb.data, (ia.1.keep (KT.same s15)).dp, (ib.1.keep (KT.same s15)).dp, data_shaped wa (by decide), data_shaped wb (by decide), _, rfl, _, rfl, rfl, rfl, _, rfl, iteNS ?_ ?_⟩
        · congr 1
          have e1 := data_eq ta 5 tb 5 wa wb
          have e2 : (V.str ta.txt = V.str tb.txt) ↔ ta = tb := by
            constructor
            · intro e
              injection e with e
              refine (cs_eq wa wb).mp ?_
              rw [← lc_txt, ← lc_txt, e]
            · intro e; rw [e]
          by_cases hab : ta = tb
          · rw [e1.mpr hab, decide_eq_true (e2.mpr hab)]
          · rw [decide_eq_false (fun z => hab (e2.mp z))]
            cases hc : PyData.eqv ta.data tb.data with
            | false => rfl
            | true => exact absurd (e1.mp hc) hab
        · exact ⟨_, _, rfl, s15⟩
      · rintro σ H14 ⟨z9, z10, rfl, s14⟩
        exact ⟨_, _, _, _, rfl, s14⟩
    · rintro σ H12 ⟨y7, y8, y9, y10, rfl, s12⟩
      exact ⟨_, _, _, _, _, _, _, _, _, _, rfl, sc _ (kp11.trans (same_kp s12))⟩
  · rintro σ H0 ⟨x1, x2, x3, x4, x5, x6, x7, x8, x9, x10, rfl, hS0⟩
    refine ⟨sz (by simp), fun t1 n1 => ⟨sz (by simp), fun t2 n2 => ?_⟩⟩
    have sA := same_up (o := .tup ([] : List V)) n1
    have sB := same_up (o := .tup [V.str "left", .str "f", .str "x", .ref t1]) n2
    refine ⟨_, .nd (.lef "f" "x") [], 0, rfl, InT.nd (.nil _) ⟨t1, upd_same, sB _ _ upd_same⟩, by unfold TmW; exact ⟨⟨by decide +kernel, by decide +kernel, by decide⟩, .nil _⟩, by decide, fun H1 s1 => ?_⟩
    have e1 : (Tm.nd (.lef "f" "x") []).txt = "f.x()" := (txt_of (by decide +kernel)).symm
    have e2 : (Tm.nd (.fst "f") []).txt = "f" := (txt_of (by decide +kernel)).symm
    rw [e1]
    refine ⟨rfl, _, rfl, iteYes rfl ⟨sz (by simp), fun t3 n3 => ?_⟩⟩
    refine ⟨_, .nd (.fst "f") [], 0, rfl, InT.nd (.nil _) upd_same, by unfold TmW; exact ⟨⟨by decide +kernel, rfl⟩, .nil _⟩, by decide, fun H2 s2 => ?_⟩
    rw [e2]
    refine ⟨rfl, ?_⟩
    show Q (.bl (decide (V.str "f" = V.str "f"))) H2
    rw [show decide (V.str "f" = V.str "f") = true from decide_eq_true rfl]
    exact q H2
end
end Oo
namespace Oo
open PySem L2 PyProof.Rows LamX StX
section
variable {P : Program} {w : World} {K : PySem.W.Frag} {mg : Str → Option Value} {base h : Heap}
theorem fn_none0 {L : Nat} {f : Addr} {fd : FuncData} {ps : List Str} {sp : Sp} (no : ∀ vs H Q E, ¬ sp vs H Q E) : FnOk P w K mg base CX0 L f fd ps sp :=
  ⟨fun vs H Q E h => absurd h (no vs H Q E), fun A outer s H args us vs Q E _ _ _ _ h => absurd h (no vs H Q E)⟩
theorem kb_show {f : Addr} {fd : FuncData} (F : Fun K "show_term" "show_term" sShow f fd) : ∃ g, KBinds K fd ["term"] ["term"] g (fun vs zs => vs ++ zs) := by
  obtain ⟨oc, od, kV, doc, pm, an, cdv, ct, osl, rfl, lk, hcd⟩ := F.ex
  exact ⟨fun us ws => us ++ ws, fun s us ws X hl => match us, ws, hl with
    | [u], [], _ => BindsTo.of_eq rfl
    | [], [v], _ => BindsTo.of_eq rfl, fun r1 r2 => r1.append r2⟩
theorem all_ok (X : K.In h) (G : h.Ns mainGlobals mg) (c : Oh.SaysO Oh.fn Oh.ts Oh.tf Oh.fc w h K) {fd_law : FuncData} (F_law : Fun K "law" "law" sLaw (He.ga K "law") fd_law) :
    FnOk P w K mg base CX0 84 (He.ga K "law") fd_law ["_law_script"] (spLaw K []) := by
  obtain ⟨fd_is_integer, D_is_integer⟩ := c.def_ 0 (d := Oh.dG "is_integer" 1) rfl
  have F_is_integer : Fun K "is_integer" "is_integer" (top 1) (He.ga K "is_integer") fd_is_integer := He5.fun_of D_is_integer
  have b_is_integer : Binds K fd_is_integer ["value"] [] := F_is_integer.binds (ps := ["value"]) fun _ _ _ _ _ _ us hl => match us, hl with | [_], _ => rfl
  obtain ⟨fd_show_term, D_show_term⟩ := c.def_ 1 (d := Oh.dG "show_term" 3) rfl
  have F_show_term : Fun K "show_term" "show_term" (top 3) (He.ga K "show_term") fd_show_term := He5.fun_of D_show_term
  have b_show_term : Binds K fd_show_term ["term"] [] := F_show_term.binds (ps := ["term"]) fun _ _ _ _ _ _ us hl => match us, hl with | [_], _ => rfl
  obtain ⟨fd_pieces_of, D_pieces_of⟩ := c.def_ 2 (d := Oh.dG "pieces_of" 4) rfl
  have F_pieces_of : Fun K "pieces_of" "pieces_of" (top 4) (He.ga K "pieces_of") fd_pieces_of := He5.fun_of D_pieces_of
  have b_pieces_of : Binds K fd_pieces_of ["term"] [] := F_pieces_of.binds (ps := ["term"]) fun _ _ _ _ _ _ us hl => match us, hl with | [_], _ => rfl
  obtain ⟨fd_call_pieces, D_call_pieces⟩ := c.def_ 3 (d := Oh.dG "call_pieces" 5) rfl
  have F_call_pieces : Fun K "call_pieces" "call_pieces" (top 5) (He.ga K "call_pieces") fd_call_pieces := He5.fun_of D_call_pieces
  have b_call_pieces : Binds K fd_call_pieces ["name", "inputs"] [] := F_call_pieces.binds (ps := ["name", "inputs"]) fun _ _ _ _ _ _ us hl => match us, hl with | [_, _], _ => rfl
  obtain ⟨fd__law_bag, D__law_bag⟩ := c.def_ 4 (d := Oh.dG "_law_bag" 7) rfl
  have F__law_bag : Fun K "_law_bag" "_law_bag" (top 7) (He.ga K "_law_bag") fd__law_bag := He5.fun_of D__law_bag
  have b__law_bag : Binds K fd__law_bag ["_law_script", "_law_at"] [] := F__law_bag.binds (ps := ["_law_script", "_law_at"]) fun _ _ _ _ _ _ us hl => match us, hl with | [_, _], _ => rfl
  obtain ⟨fd__law_take, D__law_take⟩ := c.def_ 5 (d := Oh.dG "_law_take" 8) rfl
  have F__law_take : Fun K "_law_take" "_law_take" (top 8) (He.ga K "_law_take") fd__law_take := He5.fun_of D__law_take
  have b__law_take : Binds K fd__law_take ["_law_bag_here", "_law_many"] [] := F__law_take.binds (ps := ["_law_bag_here", "_law_many"]) fun _ _ _ _ _ _ us hl => match us, hl with | [_, _], _ => rfl
  obtain ⟨fd__law_of, D__law_of⟩ := c.def_ 6 (d := Oh.dG "_law_of" 9) rfl
  have F__law_of : Fun K "_law_of" "_law_of" (top 9) (He.ga K "_law_of") fd__law_of := He5.fun_of D__law_of
  have b__law_of : Binds K fd__law_of ["_law_bag_here", "_law_items"] [] := F__law_of.binds (ps := ["_law_bag_here", "_law_items"]) fun _ _ _ _ _ _ us hl => match us, hl with | [_, _], _ => rfl
  obtain ⟨fd__law_term, D__law_term⟩ := c.def_ 7 (d := Oh.dG "_law_term" 10) rfl
  have F__law_term : Fun K "_law_term" "_law_term" (top 10) (He.ga K "_law_term") fd__law_term := He5.fun_of D__law_term
  have b__law_term : Binds K fd__law_term ["_law_bag_here", "_law_depth"] [] := F__law_term.binds (ps := ["_law_bag_here", "_law_depth"]) fun _ _ _ _ _ _ us hl => match us, hl with | [_, _], _ => rfl
  obtain ⟨fd__law_written, D__law_written⟩ := c.def_ 8 (d := Oh.dG "_law_written" 11) rfl
  have F__law_written : Fun K "_law_written" "_law_written" (top 11) (He.ga K "_law_written") fd__law_written := He5.fun_of D__law_written
  have b__law_written : Binds K fd__law_written ["_law_thing"] [] := F__law_written.binds (ps := ["_law_thing"]) fun _ _ _ _ _ _ us hl => match us, hl with | [_], _ => rfl
  obtain ⟨fd__law_bent, D__law_bent⟩ := c.def_ 9 (d := Oh.dG "_law_bent" 12) rfl
  have F__law_bent : Fun K "_law_bent" "_law_bent" (top 12) (He.ga K "_law_bent") fd__law_bent := He5.fun_of D__law_bent
  have b__law_bent : Binds K fd__law_bent ["_law_bag_here", "_law_thing"] [] := F__law_bent.binds (ps := ["_law_bag_here", "_law_thing"]) fun _ _ _ _ _ _ us hl => match us, hl with | [_, _], _ => rfl
  have m_is_integer : mg "is_integer" = some (.ref (He.ga K "is_integer")) := He.glo_ok X G (c.fact 0 (f := Oh.faF (.glo "is_integer")) rfl)
  have m_show_term : mg "show_term" = some (.ref (He.ga K "show_term")) := He.glo_ok X G (c.fact 1 (f := Oh.faF (.glo "show_term")) rfl)
  have m_pieces_of : mg "pieces_of" = some (.ref (He.ga K "pieces_of")) := He.glo_ok X G (c.fact 2 (f := Oh.faF (.glo "pieces_of")) rfl)
  have m_call_pieces : mg "call_pieces" = some (.ref (He.ga K "call_pieces")) := He.glo_ok X G (c.fact 3 (f := Oh.faF (.glo "call_pieces")) rfl)
  have m__law_bag : mg "_law_bag" = some (.ref (He.ga K "_law_bag")) := He.glo_ok X G (c.fact 4 (f := Oh.faF (.glo "_law_bag")) rfl)
  have m__law_take : mg "_law_take" = some (.ref (He.ga K "_law_take")) := He.glo_ok X G (c.fact 5 (f := Oh.faF (.glo "_law_take")) rfl)
  have m__law_of : mg "_law_of" = some (.ref (He.ga K "_law_of")) := He.glo_ok X G (c.fact 6 (f := Oh.faF (.glo "_law_of")) rfl)
  have m__law_term : mg "_law_term" = some (.ref (He.ga K "_law_term")) := He.glo_ok X G (c.fact 7 (f := Oh.faF (.glo "_law_term")) rfl)
  have m__law_written : mg "_law_written" = some (.ref (He.ga K "_law_written")) := He.glo_ok X G (c.fact 8 (f := Oh.faF (.glo "_law_written")) rfl)
  have m__law_bent : mg "_law_bent" = some (.ref (He.ga K "_law_bent")) := He.glo_ok X G (c.fact 9 (f := Oh.faF (.glo "_law_bent")) rfl)
  have m_law : mg "law" = some (.ref (He.ga K "law")) := He.glo_ok X G (c.fact 10 (f := Oh.faF (.glo "law")) rfl)
  have n_int : mg "int" = none := He.free_ok X G (c.fact 11 (f := Oh.faF (.free "int")) rfl)
  have n_bool : mg "bool" = none := He.free_ok X G (c.fact 12 (f := Oh.faF (.free "bool")) rfl)
  have n_str : mg "str" = none := He.free_ok X G (c.fact 13 (f := Oh.faF (.free "str")) rfl)
  have n_len : mg "len" = none := He.free_ok X G (c.fact 14 (f := Oh.faF (.free "len")) rfl)
  have n_isinstance : mg "isinstance" = none := He.free_ok X G (c.fact 15 (f := Oh.faF (.free "isinstance")) rfl)
  have n_enumerate : mg "enumerate" = none := He.free_ok X G (c.fact 16 (f := Oh.faF (.free "enumerate")) rfl)
  have n_abs : mg "abs" = none := He.free_ok X G (c.fact 17 (f := Oh.faF (.free "abs")) rfl)
  have n_tuple : mg "tuple" = none := He.free_ok X G (c.fact 18 (f := Oh.faF (.free "tuple")) rfl)
  have n_list : mg "list" = none := He.free_ok X G (c.fact 19 (f := Oh.faF (.free "list")) rfl)
  have n_range : mg "range" = none := He.free_ok X G (c.fact 20 (f := Oh.faF (.free "range")) rfl)
  have n_max : mg "max" = none := He.free_ok X G (c.fact 21 (f := Oh.faF (.free "max")) rfl)
  have n_min : mg "min" = none := He.free_ok X G (c.fact 22 (f := Oh.faF (.free "min")) rfl)
  have n_zip : mg "zip" = none := He.free_ok X G (c.fact 23 (f := Oh.faF (.free "zip")) rfl)
  have G_is_integer := ok_isint (P := P) (w := w) (mg := mg) (base := base) F_is_integer n_int n_bool n_isinstance
  have G_call_pieces := ok_callp (P := P) (w := w) (mg := mg) (base := base) F_call_pieces n_enumerate
  have G_pieces_of := ok_pieces F_pieces_of n_str G_is_integer F_is_integer.kp b_is_integer m_is_integer G_call_pieces F_call_pieces.kp b_call_pieces m_call_pieces
  have G_show_term := ok_show F_show_term n_len n_isinstance n_str G_pieces_of F_pieces_of.kp b_pieces_of m_pieces_of
  have G__law_take := ok_take (P := P) (w := w) (mg := mg) (base := base) F__law_take n_int
  have G__law_bag := ok_bag (P := P) (w := w) (mg := mg) (base := base) F__law_bag n_int n_abs n_len
  have G__law_of := ok_of F__law_of G__law_take F__law_take.kp b__law_take m__law_take n_len
  have G__law_term : ∀ N, FnOk P w K mg base CX0 (2 + N) (He.ga K "_law_term") fd__law_term ["_law_bag_here", "_law_depth"] (spTerm N) := by
    intro N
    induction N with
    | zero => exact fn_none0 (no_term rfl)
    | succ n ih => exact ok_term F__law_term (Nat.le_add_right _ _) n_range n_tuple G__law_take F__law_take.kp b__law_take m__law_take G__law_of F__law_of.kp b__law_of m__law_of ih F__law_term.kp b__law_term m__law_term
  have G__law_written : ∀ N, FnOk P w K mg base CX0 N (He.ga K "_law_written") fd__law_written ["_law_thing"] (spWri N) := by
    intro N
    induction N with
    | zero => exact fn_none0 (no_wri rfl)
    | succ n ih => exact ok_wri F__law_written n_int n_isinstance n_str ih F__law_written.kp b__law_written m__law_written
  have G__law_bent : ∀ N, FnOk P w K mg base CX0 (7 + N) (He.ga K "_law_bent") fd__law_bent ["_law_bag_here", "_law_thing"] (spBent N) := by
    intro N
    induction N with
    | zero => exact fn_none0 (no_bent rfl)
    | succ n ih => exact ok_bent F__law_bent (Nat.le_add_right _ _) n_int n_isinstance n_len n_list n_tuple G__law_take F__law_take.kp b__law_take m__law_take (G__law_term 5) F__law_term.kp b__law_term m__law_term ih F__law_bent.kp b__law_bent m__law_bent
  obtain ⟨gk, kb⟩ := kb_show F_show_term
  exact ok_law F_law n_range n_max n_min n_len n_zip G__law_bag F__law_bag.kp b__law_bag m__law_bag (G__law_term 5) F__law_term.kp b__law_term m__law_term (G__law_bent 5) F__law_bent.kp b__law_bent m__law_bent G_show_term F_show_term.kp b_show_term m_show_term kb (G__law_written 9) F__law_written.kp b__law_written m__law_written
end
end Oo
namespace Oo
open PySem L2 PyProof.Rows LamX StX
theorem law_at {P : Program} {w : World} {mg : Str → Option Value} {h : Heap} {fa : Addr} (Y : Oh.hk.says w h) (G : h.Ns mainGlobals mg) (hmg : mg "law" = some (.ref fa)) : ∃ K : PySem.W.Frag, K.In h ∧ LamX.LawAtS PySem.Challenge.rw_ordersopen_k10_terms_shown w K CX0 84 63 "_law_script" mg fa h := by
  obtain ⟨K, X, c⟩ := Y
  obtain ⟨fd, D⟩ := c.def_ 10 (d := Oh.dG "law" 13) rfl
  have F : Fun K "law" "law" sLaw (He.ga K "law") fd := He5.fun_of D
  have e := hmg.symm.trans (He.glo_ok X G (c.fact 10 (f := Oh.faF (.glo "law")) rfl))
  cases e
  refine ⟨K, X, fd, [], spLaw K [], ?_, ?_, ?_, ?_, ?_, ?_⟩
  · intro p hp
    cases hp
  · intro p hp
    cases hp
  · intro p hp
    cases hp
  · intro s u
    exact FunD.bindsA (ps := ["_law_script"]) D (fun _ _ _ _ _ _ us hl => match us, hl with | [_], _ => rfl) s [u] rfl
  · intro H a ns hl hbits hT hS
    exact ⟨a, ns, rfl, hS, hl, (by intro q hq; cases hq), fun H1 => rfl⟩
  · intro base hb hns hTB
    exact all_ok X G c F
end Oo
open PySem PySem.W PySem.Calls PyProof.Rows
theorem PySem.Challenge.cw_ordersopen_k10_terms_shown_holds : PySem.Challenge.rw_ordersopen_k10_terms_shown.Holds := by
  w_on; o_law
  refine HandSHeadRun.head_any (r := OpenLaw.row PySem.Challenge.rw_ordersopen_k10_terms_shown) (q := view (OpenLaw.row PySem.Challenge.rw_ordersopen_k10_terms_shown).prog [13]) (H := Oh.hk) (ob := Oh.ob) (M := 6000) (loose := Oh.names) (d := HandSHeadRun.topDef (OpenLaw.row PySem.Challenge.rw_ordersopen_k10_terms_shown).prog 13) (kwd := []) Oh.ob_eq
    (by kernel_rfl) (fun s => by kernel_rfl) Oh.run (by kernel_rfl) (by kernel_rfl) (by kernel_rfl) (by rfl) (by first | assumption | decide +kernel) (by decide +kernel) ⟨rfl, rfl, rfl, rfl, rfl, by decide +kernel⟩ ?hw ?hc
  case hw => w_witness2
  case hc =>
    refine LamX.walk_ofTsE (l := PySem.Challenge.rw_ordersopen_k10_terms_shown) (n := 63) (k := 84) (x := "_law_script") (CX := fun _ => L2.CX0) rfl (by decide) (by kernel_rfl) ⟨rfl, by decide, by decide⟩ ?F (fun _ _ _ _ _ z => z)
    intro w mg fa h Y G hmg0
    have hmg : mg ("law" : PySem.Str) = some (.ref fa) := by
      have e : (HandSHeadRun.topDef (OpenLaw.row PySem.Challenge.rw_ordersopen_k10_terms_shown).prog 13).name = ("law" : PySem.Str) := by kernel_rfl
      rw [← e]
      exact hmg0
    exact Oo.law_at (P := (PySem.Challenge.rw_ordersopen_k10_terms_shown).prog) Y G hmg
