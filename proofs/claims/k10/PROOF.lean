import PyProof.Rows.All
import Wide.All
import OpenK.AllK
import Wide.FinOn
import HandS.ForMost
import HandS.Codes
import HandS.IsInst
import HandS.StrMore
import HandS.Evl
import HandS.Walk
import HandS.DictComp
import HandS.Strs
import HandS.SetKeys
import HandS.TupAny
import HandS.More
import HandS.ForExc
import HandS.ExcInit
import PyProof.EqKinds
import HandS.DictEq
import HandS.DeepEq
import HandS.SetFor
import HandS.Conv
import HandS.ListItems
import HandS.Zip
import KE.KDictZip
import HandS.CallLocal
import KE.GoesEnum
import HandS.FStr
import HandS.ExcField
import HandS.ExcOwn
import HandS.WordsExc
import HandS.Property
import KE.KDictCopyH
import PySem.Challenge.RW_everyend_k10_expressions_and_tests_refus
set_option Elab.async false
set_option linter.all false
set_option maxRecDepth 100000
set_option maxHeartbeats 4000000
namespace EE
open PySem L2 Evl
open C8 (Cal cal0 pe_c fnScope_by)
/-! what a pure def promises: a value, a new list, a new tuple -/
def PuV (R : List V → Hp → V → Prop) : Sp := fun vs H Q _ => ∃ z, R vs H z ∧ RetV z H Q
def PuL (R : List V → Hp → List V → Prop) : Sp := fun vs H Q _ => ∃ xs, R vs H xs ∧ RetL xs H Q
def RetU (xs : List V) (H : Hp) (Q : VK) : Prop := ∀ p H2, H p = none → Ex H H2 → H2 p = some (.tup xs) → Q (.ref p) H2
def PuU (R : List V → Hp → List V → Prop) : Sp := fun vs H Q _ => ∃ xs, R vs H xs ∧ RetU xs H Q
def SpU (sp : Sp) (vs : List V) (H : Hp) (xs : List V) : Prop := ∀ H1, Ex H H1 → ∀ Q : VK, (∀ p H2, H1 p = none → Ex H1 H2 → H2 p = some (.tup xs) → Q (.ref p) H2) → ∀ E : XK, sp vs H1 Q E
/-! a dict of which no more is known; what isinstance asks, with such dicts -/
abbrev oddO (a : Addr) : HO := .ext fun h => ∃ es n, h.get? a = some ({ cls := .type "dict", dict := none, data := .dict es n, slots := #[] } : Obj)
inductive TyX (K : PySem.W.Frag) (H : Hp) : V → Value → Prop where
  | base {x : V} {t : Value} (h : TyOf K H x t) : TyX K H x t
  | byt (b : Array UInt8) : TyX K H (.byt b) (.type "bytes")
  | set {a : Addr} {S : Int → Bool} {n : Nat} (e : H a = some (.set S n)) : TyX K H (.ref a) (.type "set")
  | kList {a : Addr} {o : Obj} (e : K.lookup a = some o) (c : o.cls = .type "list") : TyX K H (.ref a) (.type "list")
  | kTuple {a : Addr} {o : Obj} (e : K.lookup a = some o) (c : o.cls = .type "tuple") : TyX K H (.ref a) (.type "tuple")
  | kDict {a : Addr} {o : Obj} (e : K.lookup a = some o) (c : o.cls = .type "dict") : TyX K H (.ref a) (.type "dict")
  | fTuple {a : Addr} {o : Obj} {xs : List V} (e : H a = some (.frz o (.tup xs))) : TyX K H (.ref a) (.type "tuple")
  | fDict {a : Addr} {o : Obj} {kvs : List (Key × V)} (e : H a = some (.frz o (.dK kvs))) : TyX K H (.ref a) (.type "dict")
  | odd {a : Addr} (e : Rd H a (oddO a)) : TyX K H (.ref a) (.type "dict")
theorem TyX.cases {K : PySem.W.Frag} {H : Hp} {x : V} {t : Value} (h : TyX K H x t) : L2.TyX K H x t ∨ ∃ a, x = .ref a ∧ t = .type "dict" ∧ Rd H a (oddO a) := by
  cases h with
  | base h => exact .inl (.base h)
  | byt b => exact .inl (.byt b)
  | set h => exact .inl (.set h)
  | kList h c => exact .inl (.kList h c)
  | kTuple h c => exact .inl (.kTuple h c)
  | kDict h c => exact .inl (.kDict h c)
  | fTuple h => exact .inl (.fTuple h)
  | fDict h => exact .inl (.fDict h)
  | odd h => exact .inr ⟨_, rfl, rfl, h⟩
def rIsi (K : PySem.W.Frag) : List V → Hp → VK → Prop := fun xs H Q => ∃ (x c : V) (t u : Value) (b : Bool), xs = [x, c] ∧ ClsV c u ∧ TyX K H x t ∧ PySem.W.kitOne K t u = some b ∧ Q (.bl b) H
theorem call_isi {X : Cx} : CallR X (.builtin "isinstance") (rIsi X.K) := by
  intro pins s σ H xs us Q I r h
  obtain ⟨x, c, t, u, b, rfl, k, ty, e, q⟩ := h
  obtain ⟨u1, u2, rfl, r1, r2⟩ := vals2 r
  have e2 := k.eq r2
  subst e2
  rcases ty.cases with ty | ⟨a, rfl, rfl, ha⟩
  · obtain ⟨P, Z, p, hx⟩ := kit_of I r1 ty
    exact PySem.W.kia_one Z I.kIn p e hx fun tk => ⟨.bl b, H, I.tok tk, rfl, q⟩
  · cases (show u1 = Value.ref a from r1)
    obtain ⟨⟨es, n, h1⟩, _⟩ := (show ObjOk X.prog X.w H s.heap a (oddO a) from ha.ok I.hok)
    exact PySem.W.kia_one PySem.W.kitx_dict I.kIn ⟨_, h1, rfl⟩ e (fun z => nomatch z) fun tk => ⟨.bl b, H, I.tok tk, rfl, q⟩
section
variable {K : PySem.W.Frag} {σ : L2.St} {H H' : Hp} {ta tb tc te : TE} {t u : TT} {x y z v : V}
theorem spv {R : List V → Hp → V → Prop} {vs : List V} (h : ∀ H1, Ex H H1 → R vs H1 z) : SpV (PuV R) vs H z := fun H1 e Q q _ => ⟨z, h H1 e, q⟩
theorem spl {R : List V → Hp → List V → Prop} {vs xs : List V} (h : ∀ H1, Ex H H1 → R vs H1 xs) : SpL (PuL R) vs H xs := fun H1 e Q q _ => ⟨xs, h H1 e, q⟩
theorem spu {R : List V → Hp → List V → Prop} {vs xs : List V} (h : ∀ H1, Ex H H1 → R vs H1 xs) : SpU (PuU R) vs H xs := fun H1 e Q q _ => ⟨xs, h H1 e, q⟩
theorem eu_call {sp : Sp} {dvs vs xs : List V} {E : XK} {ta : TA} (h : EvA ta σ H vs) (hs : SpU sp (vs ++ dvs) H xs) : EvU (tCall sp dvs E ta) σ H xs := fun H1 e Q q =>
  h H1 e _ fun H2 e2 => hs H2 (e.trans e2) Q (fun p H3 hp e3 h3 => q p H3 (fresh_back e2 hp) (e2.trans e3) h3) E
theorem ev_chain {r r' : R2} {a b : Bool} (ha : Ev ta σ H x) (hb : Ev tb σ H y) (h1 : RV r x y H (.bl a)) (h2 : a = true → ∃ z, Ev tc σ H z ∧ RV r' y z H (.bl b)) : Ev (tChain r r' ta tb tc) σ H (.bl (a && b)) := fun H1 e Q q =>
  ha H1 e _ fun H2 e2 => hb H2 (e.trans e2) _ fun H3 e3 => h1 H3 ((e.trans e2).trans e3) _ fun H4 e4 => ⟨a, rfl, by
    cases a with
    | true =>
      obtain ⟨z, hc, hr⟩ := h2 rfl
      refine iteT ?_
      exact hc H4 (((e.trans e2).trans e3).trans e4) _ fun H5 e5 => hr H5 ((((e.trans e2).trans e3).trans e4).trans e5) Q fun H6 e6 => q H6 ((((e2.trans e3).trans e4).trans e5).trans e6)
    | false => exact iteF (q H4 ((e2.trans e3).trans e4))⟩
theorem tyof_mono {t : Value} (e : Ex H H') (h : TyOf K H x t) : TyOf K H' x t := by
  cases h with
  | non => exact .non
  | bl b => exact .bl b
  | int i => exact .int i
  | str z => exact .str z
  | flt z => exact .flt z
  | lst h => exact .lst (e _ _ h)
  | frz h => exact .frz (e _ _ h)
  | tup h => exact .tup (e _ _ h)
  | dK h => exact .dK (e _ _ h)
  | dT h => exact .dT (e _ _ h)
  | ins h a b c d f => exact .ins (e _ _ h) a b c d f
theorem tyx_mono {t : Value} (e : Ex H H') (h : TyX K H x t) : TyX K H' x t := by
  cases h with
  | base h => exact .base (tyof_mono e h)
  | byt b => exact .byt b
  | set h => exact .set (e _ _ h)
  | kList h c => exact .kList h c
  | kTuple h c => exact .kTuple h c
  | kDict h c => exact .kDict h c
  | fTuple h => exact .fTuple (e _ _ h)
  | fDict h => exact .fDict (e _ _ h)
  | odd h => exact .odd (ex_rd e h)
theorem rc_isi {c : V} {t u : Value} {b : Bool} (hc : ClsV c u) (ht : TyX K H x t) (hk : PySem.W.kitOne K t u = some b) : RC (rIsi K) [x, c] H (.bl b) := fun H1 e Q q =>
  ⟨x, c, t, u, b, rfl, hc, tyx_mono e ht, hk, q H1 (Ex.refl H1)⟩
theorem rc_lenstr {z : Str} (hz : z.length ≤ sizeLine) : RC (fun xs H Q => ∃ z, xs = [V.str z] ∧ z.length ≤ sizeLine ∧ Q (.int z.length) H) [.str z] H (.int z.length) := fun H1 e Q q =>
  ⟨z, rfl, hz, q H1 (Ex.refl H1)⟩
/-- a method of a text without arguments that answers a flag -/
theorem ev_bm0s {g : Str → Bool} {z : Str} (h : Ev te σ H (.str z)) : Ev (tBM0 K "str" (fun x xs H Q => ∃ a, x = V.str a ∧ xs = [] ∧ True ∧ Q (.bl (g a)) H) te) σ H (.bl (g z)) := fun H1 e Q q =>
  h H1 e _ fun H2 e2 => ⟨(show ("str" : String) = "str" from rfl), z, rfl, rfl, trivial, q H2 e2⟩
/-! ### what is walked -/
/-- J gives the items of xs in every later heap -/
def WalkX (J : It) (H : Hp) (xs : List V) : Prop := ∃ G : Hp → Prop, Walk J xs.length G (YAt xs) ∧ ∀ H1, Ex H H1 → G H1
def EvI (wi : TI) (σ : L2.St) (H : Hp) (xs : List V) : Prop := ∀ H1, Ex H H1 → ∀ R : It → Hp → Prop, (∀ J H2, Ex H1 H2 → WalkX J H2 xs → R J H2) → wi σ H1 R
theorem ei_list {a : Addr} {xs : List V} (h : Ev te σ H (.ref a)) (hx : SqL K H a xs) : EvI (iList K te) σ H xs := fun H1 e R q =>
  h H1 e _ fun H2 e2 => ⟨a, rfl, ⟨xs, ex_l (e.trans e2) hx⟩, q _ H2 e2 ⟨_, walk_list (K := K) (a := a) (xs := xs), fun H3 e3 => ex_l ((e.trans e2).trans e3) hx⟩⟩
theorem ei_listN {xs : List V} (h : EvL te σ H xs) : EvI (iList K te) σ H xs := fun H1 e R q =>
  h H1 e _ fun a H2 _ e2 hx => ⟨a, rfl, ⟨xs, sq_of hx⟩, q _ H2 e2 ⟨_, walk_list (K := K) (a := a) (xs := xs), fun H3 e3 => sq_of (e3 a _ hx)⟩⟩
theorem ei_tup {a : Addr} {xs : List V} (h : Ev te σ H (.ref a)) (hx : SqT K H a xs) : EvI (iTup K te) σ H xs := fun H1 e R q =>
  h H1 e _ fun H2 e2 => ⟨a, rfl, ⟨xs, ex_t (e.trans e2) hx⟩, q _ H2 e2 ⟨_, walk_tup (K := K) (a := a) (xs := xs), fun H3 e3 => ex_t ((e.trans e2).trans e3) hx⟩⟩
/-- the keys of a dict that stands locked -/
theorem ei_keys {d : Addr} {o : Obj} {kvs : List (Key × V)} (h : Ev te σ H (.ref d)) (hd : H d = some (.frz o (.dK kvs))) : EvI (iKeys te) σ H (kvs.map fun p => kV p.1) := fun H1 e R q =>
  h H1 e _ fun H2 e2 => ⟨d, o, rfl, .inl ⟨kvs, e2 _ _ (e _ _ hd), q _ H2 e2 ⟨fun H' => H' d = some (.frz o (.dK kvs)), by
    have w := walk_keys (d := d) (o := o) (kvs := kvs)
    refine ⟨fun i H hi g => w.goes i H (by simpa using hi) g, fun H g => by simpa using w.stops H g, fun i H x H' hi g y => ?_⟩
    obtain ⟨e1, k, v, h1, h2⟩ := w.yields i H x H' (by simpa using hi) g y
    exact ⟨e1, by simp [h1, h2]⟩, fun H3 e3 => e3 _ _ (e2 _ _ (e _ _ hd))⟩⟩⟩
theorem ei_vals {d : Addr} {o : Obj} {kvs : List (Key × V)} (h : Ev te σ H (.ref d)) (hd : H d = some (.frz o (.dK kvs))) : EvI (iVals te) σ H (kvs.map fun p => p.2) := fun H1 e R q =>
  h H1 e _ fun H2 e2 => ⟨d, o, kvs, rfl, e2 _ _ (e _ _ hd), q _ H2 e2 ⟨fun H' => H' d = some (.frz o (.dK kvs)), by
    have w := walk_values (d := d) (o := o) (kvs := kvs)
    refine ⟨fun i H hi g => w.goes i H (by simpa using hi) g, fun H g => by simpa using w.stops H g, fun i H x H' hi g y => ?_⟩
    obtain ⟨e1, k, h1⟩ := w.yields i H x H' (by simpa using hi) g y
    exact ⟨e1, by simp [h1]⟩, fun H3 e3 => e3 _ _ (e2 _ _ (e _ _ hd))⟩⟩
/-- a comprehension over it -/
theorem el_lcW {wi : TI} {xs : List V} {j : Nat} {vs : List Nat} (f : Nat → Bool) (v : Nat → V) (h : EvI wi σ H xs) (hz : xs.length ≤ 40000) (hw : ∀ x, wipe ((wipe σ vs).set j (some x)) vs = wipe σ vs)
    (ht : ∀ (i : Nat) (x : V) H1, Ex H H1 → xs[i]? = some x → EvT t ((wipe σ vs).set j (some x)) H1 (f i)) (he : ∀ (i : Nat) (x : V) H1, Ex H H1 → xs[i]? = some x → f i = true → Ev te ((wipe σ vs).set j (some x)) H1 (v i)) :
    EvL (tLc wi (gName j) t te vs) σ H (given xs.length f v) := fun H0 e Q q => h H0 e _ fun J H1 e1 ⟨G, w, hG⟩ Dl hD =>
  lc_it w (Cw H1 f v Dl) ⟨hD, Ex.new hD, upd_same⟩ (fun i H' _ p => hG H' p.2.1) (fun i x H' H'' hi p y => by
    obtain ⟨rfl, hy⟩ := y
    exact ⟨hw x, cw_turn p (by omega) (ht i x H1 (e.trans e1) hy) (fun hf => he i x H1 (e.trans e1) hy hf)⟩)
    (fun H' p => q Dl H' (fresh_back e1 p.1) (e1.trans p.2.1) p.2.2)
theorem et_yes : EvT tYes σ H true := fun H1 _ _ q => q H1 (Ex.refl H1)
theorem given_all {n : Nat} {bs : List V} (h : bs.length = n) : given n (fun _ => true) (fun i => bs.getD i .non) = bs := by
  subst h
  unfold given
  rw [List.filter_eq_self.mpr (fun _ _ => rfl)]
  apply List.ext_getElem?
  intro i
  by_cases hi : i < bs.length
  · simp [hi, List.getElem?_range hi]
  · simp [hi, List.getElem?_eq_none (Nat.le_of_not_lt hi)]
/-- all of it, each giving what bs says -/
theorem el_lcA {wi : TI} {xs : List V} {j : Nat} {vs : List Nat} (bs : List V) (hb : bs.length = xs.length) (h : EvI wi σ H xs) (hz : xs.length ≤ 40000) (hw : ∀ x, wipe ((wipe σ vs).set j (some x)) vs = wipe σ vs)
    (he : ∀ (i : Nat) (x y : V) H1, Ex H H1 → xs[i]? = some x → bs[i]? = some y → Ev te ((wipe σ vs).set j (some x)) H1 y) :
    EvL (tLc wi (gName j) tYes te vs) σ H bs := by
  have z := el_lcW (te := te) (t := tYes) (fun _ => true) (fun i => bs.getD i .non) h hz hw (fun _ _ _ _ _ => et_yes) (fun i x H1 e hx _ => he i x _ H1 e hx (by
    have hi : i < bs.length := by rw [hb]; exact (List.getElem?_eq_some_iff.mp hx).1
    rw [List.getElem?_eq_getElem hi, List.getD_eq_getElem?_getD, List.getElem?_eq_getElem hi] <;> rfl))
  rw [given_all hb] at z
  exact z
theorem rc_all {a : Addr} {bs : List Bool} (h : SqL K H a (bs.map V.bl)) : RC (rAll K) [.ref a] H (.bl (bs.all id)) := fun H1 e Q q => ⟨a, bs, rfl, ex_l e h, q H1 (Ex.refl H1)⟩
theorem rc_any {a : Addr} {bs : List Bool} (h : SqL K H a (bs.map V.bl)) : RC (rAny K) [.ref a] H (.bl (bs.any id)) := fun H1 e Q q => ⟨a, bs, rfl, ex_l e h, q H1 (Ex.refl H1)⟩
/-- f([..]) of a new list -/
theorem ev_cbL {r : List V → Hp → VK → Prop} {xs : List V} (h : EvL te σ H xs) (hr : ∀ p H1, Ex H H1 → H1 p = some (.lst xs) → RC r [.ref p] H1 z) : Ev (tCB r (tCons te tNil)) σ H z := fun H1 e Q q =>
  h H1 e _ fun p H2 _ e2 h2 => hr p H2 (e.trans e2) h2 H2 (Ex.refl H2) Q fun H3 e3 => q H3 (e2.trans e3)
/-- under a lock: the dict at d is locked meanwhile -/
theorem ev_lock {d : Addr} {kvs : List (Key × V)} (hd : H d = some (.dK kvs)) (h : ∀ od, Ev te σ (upd H d (.frz od (.dK kvs))) z) : Ev (tLockE te) σ H z := fun H1 e Q q =>
  ⟨d, .dK kvs, e _ _ hd, trivial, fun od => by
    have e1 : Ex (upd H d (.frz od (.dK kvs))) (upd H1 d (.frz od (.dK kvs))) := fun a o ha => by
      by_cases had : a = d
      · subst had; rw [upd_same] at ha ⊢; exact ha
      · rw [upd_ne had] at ha ⊢; exact e a o ha
    refine h od _ e1 _ fun H2 e2 => ⟨e2 _ _ upd_same, q _ fun a o ha => ?_⟩
    by_cases had : a = d
    · subst had; rw [e _ _ hd] at ha; rw [upd_same]; exact ha
    · rw [upd_ne had]; exact e2 a o (by rw [upd_ne had]; exact ha)⟩
theorem evl_lock {d : Addr} {kvs : List (Key × V)} {xs : List V} (hd : H d = some (.dK kvs)) (h : ∀ od, EvL te σ (upd H d (.frz od (.dK kvs))) xs) : EvL (tLockE te) σ H xs := fun H1 e Q q =>
  ⟨d, .dK kvs, e _ _ hd, trivial, fun od => by
    have e1 : Ex (upd H d (.frz od (.dK kvs))) (upd H1 d (.frz od (.dK kvs))) := fun a o ha => by
      by_cases had : a = d
      · subst had; rw [upd_same] at ha ⊢; exact ha
      · rw [upd_ne had] at ha ⊢; exact e a o ha
    refine h od _ e1 _ fun p H2 hp e2 hp2 => ⟨e2 _ _ upd_same, ?_⟩
    have hpd : p ≠ d := fun z => by subst z; rw [upd_same] at hp; cases hp
    refine q p _ (by rw [upd_ne hpd] at hp; exact hp) (fun a o ha => ?_) (by rw [upd_ne hpd]; exact hp2)
    by_cases had : a = d
    · subst had; rw [e _ _ hd] at ha; rw [upd_same]; exact ha
    · rw [upd_ne had]; exact e2 a o (by rw [upd_ne had]; exact ha)⟩
end
end EE
set_option Elab.async false
set_option linter.all false
set_option maxRecDepth 100000
set_option maxHeartbeats 1000000
namespace PySem.SeqAt
open PySem PySem.W PySem.Calls PyProof.Rows PySem.Spec MeetsSeq
section
variable {A : Around} {s : Shared}
theorem dict_eq_declines_str {prog : Program} {w : World} {E : Value → Shared → Prop} {a : Addr} {o : Obj} (b : Str) (u : Tok) (ty : s.TypeIs (.ref a) "dict") (Q : Value → Shared → Prop) (h : Q .notImplemented s) :
    wpAny (model prog w) A (call (.builtin "dict.__eq__") [.ref a, .str b u]) Q E s := by
  refine wpAny_call_entry PySem.F.slot_dict_eq ty PySem.F.entry_dict_eq ?_ (PySem.F.args_dict_eq_2 _ _)
  show wpAny _ _ (Builtin.Dict.dictSlotArgs "__eq__" ⟨[.ref a, .str b u], []⟩ >>= _) _ _ s
  refine wpAny_bind ?_
  unfold Builtin.Dict.dictSlotArgs
  refine wpAny_bind (wpAny_notOrdered_dict ty ?_)
  show wpAny _ _ (pure (Value.ref a, Value.str b u)) _ _ s
  refine wpAny_pure ?_
  refine wpAny_bind (wpAny_isInstance (T := "str") (typeIs_str s b u) PySem.F.sub_str_dict ?_)
  simp only [Bool.not_false, if_true]
  refine wpAny_bind (wpAny_rule ?_)
  exact wpAny_pure ⟨_, rfl, h⟩
theorem str_eq_declines_dict (b : Str) (u : Tok) (l : Addr) (c : Value) (es : Array DictEntry) (n : Nat) (dd : Option Addr) (sl : Array (Option Value)) :
    Meets (Builtin.«str.__eq__» ⟨[.str b u, .ref l], []⟩) (fun _ R s => s.heap.get? l = some { cls := c, dict := dd, data := .dict es n, slots := sl } ∧ R (.ok (.ret .notImplemented)) s) :=
  .of_wp fun prog w A R s h => by obtain ⟨hp, g, d, tk, os⟩ := s; obtain ⟨hl, h⟩ := h; wp_walk using wpAny_loadPart' hl, wpAny_load hl; exact ⟨_, rfl, h⟩
/-- a dict and a text are unlike -/
def DictAt (s : Shared) (a : Addr) : Prop := s.TypeIs (.ref a) "dict" ∧ ∃ c es n dd sl, s.heap.get? a = some { cls := c, dict := dd, data := .dict es n, slots := sl }
theorem RcAt.dict_str {a : Addr} (b : Str) (u : Tok) (da : DictAt s a) (hu : A.units < cLine) : RcAt A s (.ref a) (.str b u) false := fun prog w E Q h => by
  obtain ⟨ty, cls, es, ep, dd, sl, ho⟩ := da
  exact rc_eq_decline_or (k := false) ty (typeIs_str s b u) (by decide) F.sub_str_dict F.slot_dict_eq F.slot_str_eq_refl
    (fun Q' hq => dict_eq_declines_str (o := { cls := cls, dict := dd, data := .dict es ep, slots := sl }) b u ty Q' hq)
    (fun _ hq => call_meets F.slot_str_eq_refl (typeIs_str s b u) F.entry_str_eq (F.args_str_eq_2 _ _) (str_eq_declines_dict b u a cls es ep dd sl) ⟨ho, hq⟩)
    (fun _ hq => wpAny_of_eq (rfl : isSame (.ref a) (.str b u) = pure false) hq) (.inr hu) h
theorem RcAt.str_dict {a : Addr} (b : Str) (u : Tok) (da : DictAt s a) (hu : A.units < cLine) : RcAt A s (.str b u) (.ref a) false := fun prog w E Q h => by
  obtain ⟨ty, cls, es, ep, dd, sl, ho⟩ := da
  exact rc_eq_decline_or (k := false) (typeIs_str s b u) ty (by decide) F.sub_dict_str F.slot_str_eq F.slot_dict_eq_refl
    (fun _ hq => call_meets F.slot_str_eq (typeIs_str s b u) F.entry_str_eq (F.args_str_eq_2 _ _) (str_eq_declines_dict b u a cls es ep dd sl) ⟨ho, hq⟩)
    (fun Q' hq => dict_eq_declines_str (o := { cls := cls, dict := dd, data := .dict es ep, slots := sl }) b u ty Q' hq)
    (fun _ hq => wpAny_of_eq (rfl : isSame (.str b u) (.ref a) = pure false) hq) (.inr hu) h
theorem EqAt.str_dict {a : Addr} (b : Str) (u : Tok) (da : DictAt s a) (hu : A.units < cLine) : EqAt A s (.str b u) (.ref a) false := fun prog w E Q h => by
  unfold eqBool
  refine wpAny_holding ?_
  refine wpAny_ite_split (fun hab => absurd (eq_of_beq hab) nofun) (fun _ => ?_)
  exact wpAny_bind (RcAt.str_dict b u da hu prog w E _ (wpAny_truthy_bool h))
theorem dictAt_of {K : Type} [DecidableEq K] {prog : Program} {w : World} {knd : KeyKind prog w K} {a : Addr} {ka : List (K × Value)} (da : s.heap.DictOf knd a ka) : DictAt s a := by
  obtain ⟨o, es, ep, ho, hx, hd, _⟩ := id da
  obtain ⟨cls, dd, data, sl⟩ := o
  simp only at hd
  subst hd
  exact ⟨da.typeIs, _, _, _, _, _, ho⟩
end
end PySem.SeqAt
set_option Elab.async false
set_option linter.all false
set_option maxRecDepth 100000
set_option maxHeartbeats 4000000
namespace EE
open PySem L2 Evl
open C8 (Cal cal0 pe_c fnScope_by)
def topS (i : Nat) : Stmt := PySem.Challenge.pw_everyend_k10_expressions_and_tests_refus.main.body.getD i (.Pass ⟨0, 0, 0, 0⟩)
abbrev s__wall : Stmt := topS 0
abbrev N__wall : List Str := ["k"]
abbrev P__wall : List Str := ["k"]
abbrev s_is_name : Stmt := topS 2
abbrev N_is_name : List Str := ["thing"]
abbrev P_is_name : List Str := ["thing"]
abbrev s_is_integer_between : Stmt := topS 3
abbrev N_is_integer_between : List Str := ["low", "high", "thing"]
abbrev P_is_integer_between : List Str := ["low", "high", "thing"]
abbrev s_are_names : Stmt := topS 4
abbrev N_are_names : List Str := ["things", "thing"]
abbrev P_are_names : List Str := ["things"]
abbrev s_is_tuple_of_names : Stmt := topS 5
abbrev N_is_tuple_of_names : List Str := ["most", "thing"]
abbrev P_is_tuple_of_names : List Str := ["most", "thing"]
abbrev s_is_tuple_of_unlike_names : Stmt := topS 6
abbrev N_is_tuple_of_unlike_names : List Str := ["most", "thing"]
abbrev P_is_tuple_of_unlike_names : List Str := ["most", "thing"]
abbrev s_is_dict_of_names : Stmt := topS 7
abbrev N_is_dict_of_names : List Str := ["thing"]
abbrev P_is_dict_of_names : List Str := ["thing"]
abbrev s_shape_of : Stmt := topS 11
abbrev N_shape_of : List Str := ["word"]
abbrev P_shape_of : List Str := ["word"]
abbrev s_parts_of : Stmt := topS 12
abbrev N_parts_of : List Str := ["statement"]
abbrev P_parts_of : List Str := ["statement"]
abbrev s_blocks_of : Stmt := topS 13
abbrev N_blocks_of : List Str := ["statement", "kind", "part"]
abbrev P_blocks_of : List Str := ["statement"]
abbrev s_statements_of : Stmt := topS 14
abbrev N_statements_of : List Str := ["block", "found", "statement", "inner"]
abbrev P_statements_of : List Str := ["block"]
abbrev s_size_of : Stmt := topS 15
abbrev N_size_of : List Str := ["block"]
abbrev P_size_of : List Str := ["block"]
abbrev s_nots_and_core : Stmt := topS 16
abbrev N_nots_and_core : List Str := ["test", "many"]
abbrev P_nots_and_core : List Str := ["test"]
abbrev s_expressions_of : Stmt := topS 17
abbrev N_expressions_of : List Str := ["statement", "found", "kind", "part"]
abbrev P_expressions_of : List Str := ["statement"]
abbrev s_expressions_of_test : Stmt := topS 18
abbrev N_expressions_of_test : List Str := ["test", "_", "core"]
abbrev P_expressions_of_test : List Str := ["test"]
abbrev s_is_block : Stmt := topS 26
abbrev N_is_block : List Str := ["known", "deep", "thing", "statement"]
abbrev P_is_block : List Str := ["known", "deep", "thing"]
abbrev s_is_statement : Stmt := topS 27
abbrev N_is_statement : List Str := ["known", "deep", "thing", "shape", "kind", "part"]
abbrev P_is_statement : List Str := ["known", "deep", "thing"]
abbrev s_is_part : Stmt := topS 28
abbrev N_is_part : List Str := ["known", "deep", "kind", "thing", "check"]
abbrev P_is_part : List Str := ["known", "deep", "kind", "thing"]
abbrev s_has_return : Stmt := topS 29
abbrev N_has_return : List Str := ["block", "statement"]
abbrev P_has_return : List Str := ["block"]
abbrev s_is_any_name : Stmt := topS 30
abbrev N_is_any_name : List Str := ["known", "thing"]
abbrev P_is_any_name : List Str := ["known", "thing"]
abbrev s_is_shared_name : Stmt := topS 31
abbrev N_is_shared_name : List Str := ["known", "thing"]
abbrev P_is_shared_name : List Str := ["known", "thing"]
abbrev s_is_class_name : Stmt := topS 32
abbrev N_is_class_name : List Str := ["known", "thing"]
abbrev P_is_class_name : List Str := ["known", "thing"]
abbrev s_is_function_name : Stmt := topS 33
abbrev N_is_function_name : List Str := ["known", "thing"]
abbrev P_is_function_name : List Str := ["known", "thing"]
abbrev s_is_price : Stmt := topS 34
abbrev N_is_price : List Str := ["known", "thing"]
abbrev P_is_price : List Str := ["known", "thing"]
abbrev s_are_words_to_ask : Stmt := topS 35
abbrev N_are_words_to_ask : List Str := ["known", "thing"]
abbrev P_are_words_to_ask : List Str := ["known", "thing"]
abbrev s_is_expression : Stmt := topS 36
abbrev N_is_expression : List Str := ["known", "thing"]
abbrev P_is_expression : List Str := ["known", "thing"]
abbrev s_are_expressions : Stmt := topS 37
abbrev N_are_expressions : List Str := ["known", "thing", "part"]
abbrev P_are_expressions : List Str := ["known", "thing"]
abbrev s_is_test : Stmt := topS 38
abbrev N_is_test : List Str := ["known", "thing", "_"]
abbrev P_is_test : List Str := ["known", "thing"]
abbrev s_is_kind : Stmt := topS 39
abbrev N_is_kind : List Str := ["known", "thing"]
abbrev P_is_kind : List Str := ["known", "thing"]
abbrev s_family_of : Stmt := topS 42
abbrev N_family_of : List Str := ["classes", "name", "family"]
abbrev P_family_of : List Str := ["classes", "name"]
abbrev s_goes_in_a_ring : Stmt := topS 43
abbrev N_goes_in_a_ring : List Str := ["classes", "name", "oldest"]
abbrev P_goes_in_a_ring : List Str := ["classes", "name"]
abbrev s_all_fields : Stmt := topS 44
abbrev N_all_fields : List Str := ["classes", "name", "fields", "ancestor"]
abbrev P_all_fields : List Str := ["classes", "name"]
abbrev s_all_methods : Stmt := topS 45
abbrev N_all_methods : List Str := ["classes", "name", "methods", "ancestor"]
abbrev P_all_methods : List Str := ["classes", "name"]
abbrev s_first_wrong_part : Stmt := topS 53
abbrev N_first_wrong_part : List Str := ["shared", "classes", "functions", "known", "name"]
abbrev P_first_wrong_part : List Str := ["shared", "classes", "functions"]
abbrev s_are_classes : Stmt := topS 54
abbrev N_are_classes : List Str := ["thing", "name", "told"]
abbrev P_are_classes : List Str := ["thing"]
abbrev s_is_class : Stmt := topS 55
abbrev N_is_class : List Str := ["classes", "thing", "parent", "rank", "fields", "methods"]
abbrev P_is_class : List Str := ["classes", "thing"]
abbrev s_has_right_family : Stmt := topS 56
abbrev N_has_right_family : List Str := ["classes", "name"]
abbrev P_has_right_family : List Str := ["classes", "name"]
abbrev s_are_functions : Stmt := topS 57
abbrev N_are_functions : List Str := ["thing", "told"]
abbrev P_are_functions : List Str := ["thing"]
abbrev s_is_function : Stmt := topS 58
abbrev N_is_function : List Str := ["thing", "parameters", "rank", "_"]
abbrev P_is_function : List Str := ["thing"]
abbrev s_are_methods_of : Stmt := topS 59
abbrev N_are_methods_of : List Str := ["classes", "functions", "_", "methods", "function"]
abbrev P_are_methods_of : List Str := ["classes", "functions"]
abbrev s_EndError_init : Stmt := inClass (topS 61) 0
abbrev N_EndError_init : List Str := ["self"]
abbrev P_EndError_init : List Str := ["self"]
abbrev s_BadProgram_init : Stmt := inClass (topS 62) 0
abbrev N_BadProgram_init : List Str := ["self", "part"]
abbrev P_BadProgram_init : List Str := ["self", "part"]
abbrev s_plain_functions : Stmt := topS 65
abbrev N_plain_functions : List Str := ["functions", "plain", "name", "parameters", "rank", "block", "free"]
abbrev P_plain_functions : List Str := ["functions"]
abbrev s_count_lasts : Stmt := topS 66
abbrev N_count_lasts : List Str := ["block", "statement"]
abbrev P_count_lasts : List Str := ["block"]
abbrev s_free_names : Stmt := topS 67
abbrev N_free_names : List Str := ["thing", "standing", "names", "letter", "name"]
abbrev P_free_names : List Str := ["thing"]
abbrev s_strings_in : Stmt := topS 68
abbrev N_strings_in : List Str := ["thing", "found", "part"]
abbrev P_strings_in : List Str := ["thing"]
abbrev s_without_lasts : Stmt := topS 69
abbrev N_without_lasts : List Str := ["block", "free", "plain", "statement"]
abbrev P_without_lasts : List Str := ["block", "free"]
abbrev s_plain_statements : Stmt := topS 70
abbrev N_plain_statements : List Str := ["statement", "free", "name", "first", "second", "parts", "kind", "part"]
abbrev P_plain_statements : List Str := ["statement", "free"]
abbrev s_Spot_init : Stmt := inClass (topS 72) 0
abbrev N_Spot_init : List Str := ["self", "statement", "after", "catch"]
abbrev P_Spot_init : List Str := ["self", "statement", "after", "catch"]
abbrev s_spots_of : Stmt := topS 73
abbrev N_spots_of : List Str := ["block", "spots"]
abbrev P_spots_of : List Str := ["block"]
abbrev s_lay_block : Stmt := topS 74
abbrev N_lay_block : List Str := ["block", "after", "catch", "spots", "at", "statement", "behind", "follows"]
abbrev P_lay_block : List Str := ["block", "after", "catch", "spots"]
abbrev s_lay_statement : Stmt := topS 75
abbrev N_lay_statement : List Str := ["statement", "after", "catch", "spots", "spot", "place", "word"]
abbrev P_lay_statement : List Str := ["statement", "after", "catch", "spots"]
abbrev s_lay_try : Stmt := topS 76
abbrev N_lay_try : List Str := ["spot", "catch", "spots", "_", "first", "name", "second", "begin"]
abbrev P_lay_try : List Str := ["spot", "catch", "spots"]
abbrev s_lay_inner : Stmt := topS 77
abbrev N_lay_inner : List Str := ["block", "after", "catch", "spots", "begin"]
abbrev P_lay_inner : List Str := ["block", "after", "catch", "spots"]
abbrev s_Sheet_init : Stmt := inClass (topS 79) 0
abbrev N_Sheet_init : List Str := ["self", "shared", "classes", "functions", "name"]
abbrev P_Sheet_init : List Str := ["self", "shared", "classes", "functions"]
abbrev s_Program_init : Stmt := inClass (topS 81) 0
abbrev N_Program_init : List Str := ["self", "shared", "classes", "functions", "part", "plain"]
abbrev P_Program_init : List Str := ["self", "shared", "classes", "functions"]
abbrev s_Program_shared : Stmt := inClass (topS 81) 1
abbrev N_Program_shared : List Str := ["self"]
abbrev P_Program_shared : List Str := ["self"]
abbrev s_Program_classes : Stmt := inClass (topS 81) 2
abbrev N_Program_classes : List Str := ["self"]
abbrev P_Program_classes : List Str := ["self"]
abbrev s_Program_functions : Stmt := inClass (topS 81) 3
abbrev N_Program_functions : List Str := ["self"]
abbrev P_Program_functions : List Str := ["self"]
abbrev s_Program_eq : Stmt := inClass (topS 81) 4
abbrev N_Program_eq : List Str := ["self", "other"]
abbrev P_Program_eq : List Str := ["self", "other"]
abbrev s_Program_plain_copy : Stmt := inClass (topS 81) 5
abbrev N_Program_plain_copy : List Str := ["self"]
abbrev P_Program_plain_copy : List Str := ["self"]
abbrev s_copy_of_classes : Stmt := topS 82
abbrev N_copy_of_classes : List Str := ["classes", "name", "parent", "rank", "fields", "methods"]
abbrev P_copy_of_classes : List Str := ["classes"]
abbrev s__law_pot : Stmt := topS 84
abbrev N__law_pot : List Str := ["script", "most", "great", "seed", "cell"]
abbrev P__law_pot : List Str := ["script", "most"]
abbrev s__law_take : Stmt := topS 85
abbrev N__law_take : List Str := ["pot", "many", "great", "number"]
abbrev P__law_take : List Str := ["pot", "many"]
abbrev s__law_name : Stmt := topS 86
abbrev N__law_name : List Str := ["pot", "menu", "at", "size", "k"]
abbrev P__law_name : List Str := ["pot"]
abbrev s__law_named : Stmt := topS 87
abbrev N__law_named : List Str := ["thing", "sign"]
abbrev P__law_named : List Str := ["thing"]
abbrev s__law_names : Stmt := topS 88
abbrev N__law_names : List Str := ["thing", "least", "most", "name", "k"]
abbrev P__law_names : List Str := ["thing", "least", "most"]
abbrev s__law_number : Stmt := topS 89
abbrev N__law_number : List Str := ["thing", "low", "high"]
abbrev P__law_number : List Str := ["thing", "low", "high"]
abbrev s__law_expressed : Stmt := topS 90
abbrev N__law_expressed : List Str := ["thing"]
abbrev P__law_expressed : List Str := ["thing"]
abbrev s__law_tested : Stmt := topS 91
abbrev N__law_tested : List Str := ["classes", "thing", "nots"]
abbrev P__law_tested : List Str := ["classes", "thing", "nots"]
abbrev s__law_odd : Stmt := topS 92
abbrev N__law_odd : List Str := ["pot", "menu", "more", "rows"]
abbrev P__law_odd : List Str := ["pot"]
abbrev s__law_key : Stmt := topS 93
abbrev N__law_key : List Str := ["pot", "menu"]
abbrev P__law_key : List Str := ["pot"]
abbrev s__law_spoiled_dict : Stmt := topS 94
abbrev N__law_spoiled_dict : List Str := ["pot", "thing", "changed", "name", "way", "key"]
abbrev P__law_spoiled_dict : List Str := ["pot", "thing"]
abbrev s__law_spoiled : Stmt := topS 95
abbrev N__law_spoiled : List Str := ["pot", "thing", "at", "way"]
abbrev P__law_spoiled : List Str := ["pot", "thing"]
abbrev s__law_drawn_expression : Stmt := topS 96
abbrev N__law_drawn_expression : List Str := ["pot", "way", "name"]
abbrev P__law_drawn_expression : List Str := ["pot"]
abbrev s__law_drawn_test : Stmt := topS 97
abbrev N__law_drawn_test : List Str := ["pot", "nots", "way", "one"]
abbrev P__law_drawn_test : List Str := ["pot", "nots"]
abbrev s__law_at_expressions : Stmt := topS 98
abbrev N__law_at_expressions : List Str := ["e", "rows"]
abbrev P__law_at_expressions : List Str := ["e"]
abbrev s__law_at_names : Stmt := topS 99
abbrev N__law_at_names : List Str := ["n", "rows"]
abbrev P__law_at_names : List Str := ["n"]
abbrev s__law_right : Stmt := topS 100
abbrev N__law_right : List Str := ["statement", "due", "depth", "block", "k", "functions", "told", "e"]
abbrev P__law_right : List Str := ["statement", "due", "depth"]
abbrev s_law : Stmt := topS 101
abbrev N_law : List Str := ["script", "pot", "spoil", "depth", "e", "name", "test", "statement", "other", "row", "due"]
abbrev P_law : List Str := ["script"]
end EE
set_option Elab.async false
set_option linter.all false
set_option maxRecDepth 100000
set_option maxHeartbeats 4000000
/-! len(set(t)) of a tuple of texts of any number -/
namespace EE
open PySem PySem.Spec PyProof.Rows L2
def emptySet (led : Bool) : Obj := { cls := .type "set", dict := none, data := .set #[] 0 (.fresh 0 0 led) }
/-- of the first i of xs the set S holds c -/
def Holds (P : Program) (w : World) (h : Heap) (S : Addr) (xs : List Str) (c : Nat) : Prop :=
  h.SetOf (PySem.strKind P w) S (fun z => decide (z ∈ xs)) c ∧ c ≤ xs.length ∧ (c = xs.length ↔ xs.Nodup)
theorem Holds.at {P : Program} {w : World} {h h' : Heap} {S : Addr} {xs : List Str} {c : Nat} (x : Holds P w h S xs c) (k : ∀ o, h.get? S = some o → h'.get? S = some o) : Holds P w h' S xs c := by
  obtain ⟨⟨o, es, ep, t, ho, r⟩, y⟩ := x
  exact ⟨⟨o, es, ep, t, k o ho, r⟩, y⟩
theorem nodup_snoc {xs : List Str} {z : Str} : (xs ++ [z]).Nodup ↔ (xs.Nodup ∧ z ∉ xs) := by
  rw [List.nodup_append]
  constructor
  · rintro ⟨h1, _, h3⟩
    exact ⟨h1, fun h => h3 z h z (by simp) rfl⟩
  · rintro ⟨h1, h2⟩
    exact ⟨h1, by simp, fun a ha b hb e => by
      have : b = z := by simpa using hb
      subst this; subst e; exact h2 ha⟩
theorem Holds.more {P : Program} {w : World} {h : Heap} {S : Addr} {xs : List Str} {c : Nat} {z : Str} (x : c ≤ xs.length ∧ (c = xs.length ↔ xs.Nodup))
    (hS : h.SetOf (PySem.strKind P w) S (fun k => decide (k ∈ xs) || decide (k = z)) (if decide (z ∈ xs) = true then c else c + 1)) : Holds P w h S (xs ++ [z]) (if decide (z ∈ xs) = true then c else c + 1) := by
  obtain ⟨x1, x2⟩ := x
  refine ⟨?_, ?_, ?_⟩
  · refine SetOf_congr hS (fun k => ?_) rfl
    by_cases a : k ∈ xs <;> by_cases b : k = z <;> simp [a, b]
  · rw [List.length_append]
    split <;> simp <;> omega
  · rw [nodup_snoc, List.length_append]
    by_cases a : z ∈ xs
    · simp [a]; omega
    · simp [a]; exact x2
section
variable {P : Program} {w : World} {A : Around} {E : Value → Shared → Prop} {s : Shared}
theorem set_turns {I : Addr} {fp wr : List Addr} {G : Array GenState → Array GenState → Prop} {n : Nat} {Pv : Nat → Value → Prop} {St : Nat → Shared → Prop} {R : Result → Shared → Prop}
    (W : WalksS P w A.in1 I fp wr G n Pv St) (S : Addr) (hSf : S ∉ fp) (xs : List Str) (hn : n = xs.length) (hb : n + 1 < scanBound) (hval : ∀ i v, Pv i v → ∃ z t, xs[i]? = some z ∧ v = .str z t) (m : Nat) :
    ∀ (i : Nat) (s : Shared), n - i = m → i ≤ n → St i s → (∃ c, Holds P w s.heap S (xs.take i) c) → (∀ s' c, Moved (S :: wr) G s s' → Holds P w s'.heap S xs c → R (.ok (.ret .none)) s') →
      codeAny (model P w) A (.builtin "set.update.loop" ⟨[.ref S, .ref I], []⟩) R s := by
  have hSw : S ∉ wr := fun h => hSf (W.sub _ h)
  have hsub : ∀ b ∈ wr, b ∈ S :: wr := fun b hb => List.mem_cons_of_mem _ hb
  induction m with
  | zero =>
    rintro i s hk hi hst ⟨c, hS⟩ hR
    obtain rfl : i = n := by omega
    refine codeAny_builtin F.entry_set_update_loop ?_; rw [Around.under_plainId F.plain_set_update_loop _]; show wpAny _ A.in1 (pyNext (.ref I) >>= _) _ _ s
    refine wpAny_bind ((W.done s _ _ hst fun s' hm => ?_))
    rw [List.take_of_length_le (by omega)] at hS
    show wpAny _ A.in1 (ret Value.none) _ _ s'; exact (wpAny_pure (hR s' c (hm.mono hsub) (hS.at fun o e => hm.heap S o hSw e)))
  | succ m ih =>
    rintro i s hk hi hst ⟨c, hS⟩ hR
    have hlt : i < n := by omega
    refine codeAny_builtin F.entry_set_update_loop ?_; rw [Around.under_plainId F.plain_set_update_loop _]; show wpAny _ A.in1 (pyNext (.ref I) >>= _) _ _ s
    refine wpAny_bind ((W.item i s _ _ hlt hst fun v s' hP hst' hm => ?_))
    obtain ⟨z, t, hz, rfl⟩ := hval i v hP
    have hS' := hS.at (h' := s'.heap) fun o e => hm.heap S o hSw e
    show wpAny _ A.in1 (holding [Value.str z t] (setAdd S (.str z t)) >>= _) _ _ s'; refine wpAny_bind (wpAny_holding ?_); unfold setAdd
    refine (wpAny_holding (wpAny_bind ((PySem.strKind P w).pyHash (k := z) (strKind_is _ _ _ _) ?_)))
    have small : c + 1 < scanBound := by have := hS'.2.1; rw [List.length_take] at this; omega
    refine wpAny_setAddHashed_of (knd := PySem.strKind P w) (s := { s' with toks := s'.toks + 1 }) (strKind_is _ _ _ _) rfl hS'.1 small fun h' sb h2 => ?_
    have h3 := Holds.more hS'.2 h2
    have e : xs.take i ++ [z] = xs.take (i + 1) := by rw [List.take_add_one, hz]; rfl
    rw [e] at h3
    refine wpAny_pure ⟨plainId_quiet F.plain_set_update_loop _, ih (i + 1) _ (by omega) hlt (W.frame _ s' _ _ hst' (Nat.le_succ _) fun b hb o e => by rw [sb.2 b (fun h : b = S => hSf (by rw [← h]; exact hb))]; exact e) ⟨_, h3⟩ fun s2 c2 m2 h4 => ?_⟩
    refine hR s2 c2 (Moved.trans W.gtrans ((hm.mono hsub).then_heap (Nat.le_succ _) fun b o hb e => by rw [sb.2 b (fun h : b = S => hb (by rw [h]; exact List.mem_cons_self))]; exact e) m2) h4
/-- what the call of set leaves: the set at S, all else as it was -/
def SetMade (P : Program) (w : World) (s : Shared) (xs : List Str) (h' : Heap) : Prop :=
  (∃ c, Holds P w h' s.heap.objs.size xs c) ∧ ∀ b o, s.heap.get? b = some o → h'.get? b = some o
theorem holds_nil {h : Heap} {S : Addr} {xs : List Str} {led : Bool} (ho : h.get? S = some (emptySet led)) : Holds P w h S (xs.take 0) 0 :=
  ⟨⟨_, #[], 0, _, ho, ⟨rfl, rfl, rfl⟩, rfl, (fun e he => by simp at he), (fun k => by simp), (by decide), (by rfl), rfl⟩, Nat.zero_le _, by simp⟩
theorem call_set_tup {l : Addr} {items : Array Value} {xs : List Str} {Q : Value → Shared → Prop} (hh : A.handled = none) (hl : s.heap.IsTuple l items) (hx : ∀ (i : Nat) (v : Value), items[i]? = some v → ∃ z t, xs[i]? = some z ∧ v = .str z t)
    (hn : items.size = xs.length) (hb : xs.length + 1 < scanBound) (h : ∀ h' tk, SetMade P w s xs h' → Q (.ref s.heap.objs.size) { s with heap := h', toks := tk }) : wpAny (model P w) A (call (.type "set") [.ref l]) Q E s := by
  obtain ⟨c, tl, hmro⟩ := F.called_set.mro
  have hmade := F.called_set.made; have hsub := F.called_set.sub
  refine wpAny_call (codeAny_of_tree ?_); show wpAny _ _ (callAny (.type "set") _) _ _ _
  refine wpAny_pure ⟨Code.quiet_builtin _ (by decide +kernel), codeAny_builtin F.entry_type_call ?_⟩; rw [Around.under_plain (weight_type_call_type "set" [.ref l] []) rfl]
  have h1 := F.called_set.notType; have h2 := F.called_set.canCreate; have hct := F.typeCall_set_1 (.ref l)
  repeat (any_goals (first | assumption | wp_step))
  refine codeAny_mono (code_set_new_1 (.ref l) (E := E) (Q₁ := fun v s1 => ∃ led : Bool, v = .ref s.heap.objs.size ∧ s1 = { s with heap := s.heap.push (emptySet led) }) fun led => ⟨led, rfl, rfl⟩) fun r s1 hr => ?_
  cases r with
  | error e => exact hr
  | ok fl =>
    cases fl with
    | ret obj =>
      obtain ⟨led, rfl, rfl⟩ := hr
      have hS : (s.heap.push (emptySet led)).get? s.heap.objs.size = some (emptySet led) := Heap.get?_push_size _ rfl
      have hT : Shared.TypeIs { s with heap := s.heap.push (emptySet led) } (.ref s.heap.objs.size) "set" := ⟨_, hS, rfl⟩
      have hli := F.called_set.init.lookup; have hbi := F.called_set.init.bind (.ref s.heap.objs.size)
      repeat (any_goals (first | assumption | wp_step))
      refine codeAny_mono (codeAny_call_builtin (R := wants (fun r s2 => r = .none ∧ ∃ h' tk, s2 = { s with heap := h', toks := tk } ∧ SetMade P w s xs h') E) F.called_set.init.plain F.entry_set_init (check_set_init_1 hT ?_)) fun r2 s2 hr2 => ?_
      · obtain ⟨⟨ocls, odict, odata, oslots⟩, hol, hcl, nl, hdl⟩ := hl
        simp only at hcl hdl
        subst hcl hdl
        have hlS : l < s.heap.objs.size := Heap.lt_size hol
        have hl1 : (s.heap.push (emptySet led)).IsTuple l items := ⟨_, Heap.get?_push_of_some _ hol, rfl, nl, rfl⟩
        have hol' := hl1.choose_spec.1
        have hsls := F.sub_tuple_set; have hslf := F.sub_tuple_frozenset
        have hne : (Value.type "tuple" == Value.type "dict") = false := by decide
        have hol2 : (s.heap.push (emptySet led)).get? l = some { cls := .type "tuple", dict := odict, data := .seq items nl, slots := oslots } := Heap.get?_push_of_some _ hol
        clear hol'
        unfold Builtin.«set.__init__» noKeywords Builtin.Frozenset.updateFrom; generalize hPI : pyIter = PI
        wp_walk
        subst hPI
        refine wpAny_pyIter_tuple hl1 ?_; refine wpAny_bind (wpAny_runValue ?_)
        have size1 : (s.heap.push (emptySet led)).objs.size = s.heap.objs.size + 1 := Heap.size_push ..
        have lI : l ≠ (s.heap.push (emptySet led)).objs.size := by rw [size1]; exact Nat.ne_of_lt (Nat.lt_succ_of_lt hlS)
        have apart : s.heap.objs.size ∉ [(s.heap.push (emptySet led)).objs.size, l] := by
          rw [size1]; simp only [List.mem_cons, List.not_mem_nil, or_false, not_or]
          exact ⟨Nat.ne_of_lt (Nat.lt_succ_self _), (Nat.ne_of_gt hlS)⟩
        have calm3 : A.in1.in1.in1.handled = none := by simp [hh]
        refine set_turns ((Walks.tuple calm3 _ l lI items).toS) s.heap.objs.size apart xs hn (by rw [hn]; exact hb) hx (items.size - 0) 0 _ rfl (Nat.zero_le _) ⟨⟨_, Heap.get?_push_size _ rfl, rfl, rfl⟩, (hl1.push _)⟩
          ⟨0, holds_nil (led := led) (Heap.get?_push_of_some _ hS)⟩ fun s' c' hm hS' => ?_
        obtain ⟨h', g2, d', tk', os'⟩ := s'
        obtain rfl : g2 = s.gens := hm.gens
        obtain rfl : d' = s.drawn := hm.drawn
        obtain rfl : os' = s.os := hm.os
        show wpAny _ _ _ _ _ _; refine wpAny_pure ?_; show wpAny _ _ (ret Value.none) _ _ _
        refine wpAny_pure ⟨rfl, h', tk', rfl, ⟨c', hS'⟩, fun b o e => hm.heap b o ?_ (Heap.get?_push_of_some _ (Heap.get?_push_of_some _ e))⟩
        have hb0 : b < s.heap.objs.size := Heap.lt_size e
        simp only [List.mem_cons, List.not_mem_nil, or_false, not_or, size1]
        exact ⟨Nat.ne_of_lt hb0, (Nat.ne_of_lt (Nat.lt_succ_of_lt hb0))⟩
      · cases r2 with
        | error e => exact hr2
        | ok fl2 =>
          cases fl2 with
          | ret r =>
            obtain ⟨rfl, h', tk, rfl, hM⟩ := hr2
            repeat (any_goals (first | assumption | wp_step))
            exact h _ _ hM
          | _ => exact hr2.elim
    | _ => exact hr.elim
end
section
variable {X : Cx}
theorem val_strs : ∀ {zs : List Str} {us : List Value} {i : Nat} {v : Value}, Vals (zs.map V.str) us → us[i]? = some v → ∃ z t, zs[i]? = some z ∧ v = .str z t
  | [], _, _, _, .nil, h => by simp at h
  | z :: zs, _, 0, v, .cons r _, h => by
    obtain ⟨t, rfl⟩ := r
    simp at h
    exact ⟨z, t, rfl, h.symm⟩
  | z :: zs, _, i + 1, v, .cons _ t, h => val_strs (i := i) t (by simpa using h)
/-- len(set(t)), t a tuple of texts: some number that is the tuple's length just if the texts are unlike -/
def tLenSetT (K : PySem.W.Frag) (ta : TE) : TE := fun σ H Q => ta σ H fun x H1 => ∃ (l : Addr) (zs : List Str), x = .ref l ∧ SqT K H1 l (zs.map V.str) ∧ zs.length ≤ 1000 ∧ ∀ c : Nat, c ≤ zs.length → (c = zs.length ↔ zs.Nodup) → Q (.int c) H1
theorem pe_lenSetT {a : Expr} {ta : TE} {p p2 q pos : Pos} (hc : X.calm = true) (hg : Gl X "len") (hm : X.mg "len" = none) (hg2 : Gl X "set") (hm2 : X.mg "set" = none) (ha : PE X a ta) (na : starEach [a] X.env = (false, eval a X.env) :: starEach [] X.env := by rfl) :
    PE X (.Call (.Name "len" p) [.Call (.Name "set" p2) [a] [] q] [] pos) (tLenSetT X.K ta) := by
  refine ⟨fun pins s σ H Q I h => Call_ (ld_blt I hg hm boot_len (callWith_builtin1 (args_cons ?_ rfl) rfl rfl))⟩
  refine Call_ (ld_blt I hg2 hm2 PyProof.Rows.boot_set (callWith_type1 (args_cons (thn (ha.run pins s σ H _ I h) fun v s1 ⟨x, H1, I1, r1, q1⟩ => args_nil ?_) na) na rfl))
  obtain ⟨l, zs, rfl, hq, hz, q1⟩ := q1
  cases r1
  obtain ⟨its, r, pl, _⟩ := I1.tuple hq
  have hlen : its.toArray.size = zs.length := by rw [List.size_toArray, ← r.length, List.length_map]
  refine call_set_tup (I1.ok.hd hc) pl (fun i v hv => val_strs r (by simpa using hv)) hlen (by unfold scanBound; omega) fun h' tk hM => args_nil ?_
  obtain ⟨⟨c, ⟨⟨o, es, ep, t, ho, hex, hd, _, _, _, hf, hn⟩, hc1, hc2⟩⟩, hk⟩ := hM
  have I2 : Inv X pins σ H1 { s1 with heap := h', toks := tk } := I1.kept hk
  exact call_len_set ho hex hd hf (by rw [hn]; omega) ⟨.int c, H1, I2.tok _, ⟨_, by rw [hn]⟩, q1 c hc1 hc2⟩
end
end EE
set_option Elab.async false
set_option linter.all false
set_option maxRecDepth 100000
set_option maxHeartbeats 4000000
/-! rules about dicts: list(d.values()), dict(d), d.update(e) -/
namespace EE
open PySem PySem.Spec PyProof.Rows L2
section
variable {X : Cx} {e : Expr} {te : TE} {p apos cpos pos : Pos}
/-- list(e.values()) -/
def tListVals (te : TE) : TE := fun σ H Q => te σ H fun x H1 => ∃ d kvs, x = .ref d ∧ H1 d = some (.dK kvs) ∧ ∀ q, H1 q = none → Q (.ref q) (upd H1 q (.lst (kvs.map fun kv => kv.2)))
theorem pe_listVals (hc : X.calm = true) (hg : Gl X "list") (hm : X.mg "list" = none) (he : PE X e te) (hv : bootBuiltins "list" = some (.type "list")) (hbase : attributeBase e "values" X.env (eval e X.env) = eval e X.env := by rfl) (hline : (apos.endLine == cpos.line) = true := by rfl)
    (hs : starEach [.Call (.Attribute e "values" apos) [] [] cpos] X.env = (false, eval (.Call (.Attribute e "values" apos) [] [] cpos) X.env) :: starEach [] X.env := by rfl) :
    PE X (.Call (.Name "list" p) [.Call (.Attribute e "values" apos) [] [] cpos] [] pos) (tListVals te) := by
  refine ⟨fun pins s σ H Q I hq => wpAny_Call_Name_kw (ld_blt I hg hm hv (PyProof.Rows.callWith_type1 ?_ hs rfl))⟩
  rw [hs]
  show wpAny _ _ (spliced ((false, eval (.Call (.Attribute e "values" apos) [] [] cpos) X.env) :: backTo pos (starEach [] X.env))) _ _ s
  refine Calls.spliced_cons (wpAny_Call_method (T := "dict") (id := "dict.values") hbase rfl hline F.plainAttrs_dict F.slot_dict_values F.type_dict_values (thn (he.run pins s σ H _ I hq) fun u s1 ⟨x, H1, I1, rx, d, kvs, ex, hd, q⟩ => ?_))
  subst ex
  obtain rfl : u = Value.ref d := rx
  have ⟨hz, hs0, vs, kv, hdo⟩ := I1.hok d _ hd
  have ⟨ep, hat⟩ := hdo.dictAt
  have lk : kvs.length = vs.length := Paired.length kv
  have I2 : Inv X pins σ H1 { s1 with heap := s1.heap.push { cls := .type "dict_values", data := .fields #[.ref d] } } := I1.kept (t' := s1.toks) fun b ob q => Heap.get?_push_of_some _ q
  refine ⟨hdo.typeIs, hdo.mapOf.noDict, ?_⟩
  show wpAny _ _ (callWith cpos (.builtin "dict.values") [.ref d] [] []) _ X.xe s1
  refine method_meetsIn F.slot_dict_values F.entry_dict_values rfl (PySem.evalArgs_none ⟨rfl, hdo.typeIs, F.args_dict_values_1 _, _, meets_dict_values (mixKind X.prog X.w) d hs0, ⟨vs, hdo⟩, Calls.spliced_nil ?_⟩)
  refine PySem.W.kdl_call (PySem.W.kdl_values (knd := mixKind X.prog X.w) (kvs := vs) (ep := ep)) (I1.ok.hd hc) ⟨⟨_, Heap.get?_push_size _ rfl, rfl, rfl⟩, hat.push _⟩ (by rw [← lk]; exact hz) fun h' tk acc c hk hS hacc => ?_
  refine ⟨.ref _, upd H1 _ (.lst (kvs.map fun kv => kv.2)), (I2.laid (o := .lst (kvs.map fun kv => kv.2)) (t' := tk) hk (Nat.le_refl _) ⟨by rw [List.length_map]; exact hz, acc.toList, c, ?_, by rw [Array.toArray_toList (xs := acc)]; exact hS⟩), rfl, q _ (I2.hok.fresh (Nat.le_refl _))⟩
  have el : acc.toList.length = acc.size := by simp
  refine vals_of_at (by rw [List.length_map, el, hacc.1, lk]) fun j x w h1 h2 => ?_
  obtain ⟨k, hv⟩ := hacc.2 j w (by rw [← Array.getElem?_toList]; exact h2)
  rw [List.getElem?_map] at h1
  cases hkv : kvs[j]? with
  | none => rw [hkv] at h1; cases h1
  | some y =>
    rw [hkv] at h1
    obtain rfl : y.2 = x := Option.some.inj h1
    obtain ⟨z, hz1, hz2⟩ := LiI.paired_get kv hkv
    rw [hv] at hz1
    cases hz1
    exact hz2.2
/-- dict(d), d a dict: a copy -/
def rCopyD : List V → Hp → VK → Prop := fun xs H Q => ∃ a kvs, xs = [V.ref a] ∧ Rd H a (.dK kvs) ∧ ∀ p, H p = none → Q (.ref p) (upd H p (.dK kvs))
theorem cr_copyD : CallR X (.type "dict") rCopyD := by
  intro pins s σ H xs us Q I r h
  obtain ⟨a, kvs, rfl, ha, q⟩ := h
  obtain ⟨u, rfl, ru⟩ := vals1 r
  cases ru
  exact d_copyOf I ha fun p s' hp I' => ⟨.ref p, _, I', rfl, q p hp⟩
/-- d.update(e), both dicts, not the same one -/
def rUpdD : V → List V → Hp → VK → Prop := fun x vs H Q => ∃ d o kvs more, x = .ref d ∧ vs = [.ref o] ∧ d ≠ o ∧ H d = some (.dK kvs) ∧ Rd H o (.dK more) ∧ kvs.length + more.length ≤ sizeLine ∧ Q .non (upd H d (.dK (mergeK kvs more)))
theorem mt_updD : MtR X "dict.update" rUpdD := by
  intro pins s σ H x vs v us Q I rx rv h
  obtain ⟨d, o, kvs, more, rfl, rfl, hne, hd, ho, hz, q⟩ := h
  cases rx
  obtain ⟨u, rfl, ru⟩ := rv.one
  cases ru
  have ⟨z1, s1, ws, k1, hd1⟩ := I.hok d _ hd
  have ⟨z2, s2, ms, k2, ho1⟩ := (show ObjOk X.prog X.w H s.heap o (.dK more) from ho.ok I.hok)
  have l1 : kvs.length = ws.length := Paired.length k1
  have l2 : more.length = ms.length := Paired.length k2
  refine call_meetsIn F.slot_dict_update hd1.typeIs F.entry_dict_update (F.args_dict_update_2 _ _) (meets_dict_update (mixKind X.prog X.w) d o hne s2) ⟨ws, ms, hd1, ho1, by rw [← l1, ← l2]; exact hz, fun h' n1 n2 sb => ?_⟩
  have ⟨od, hod⟩ : ∃ u, h'.get? d = some u := by
    obtain ⟨od, es, ep, e, _⟩ := n1
    exact ⟨od, e⟩
  exact ⟨.non, upd H d (.dK (mergeK kvs more)), I.write (e := d) (t' := s.toks) (by rw [hd]; trivial) (.inl rfl) (fun b u hb hu => (sb.2 b hb).trans hu) ⟨od, hod⟩ ⟨Nat.le_trans (length_mergeK more kvs) hz, s1, _, KV.merge k2 k1, n1⟩, rfl, q⟩
/-- l.extend(t), t a tuple -/
theorem ext_tuple (l : Addr) (items : Array Value) (n : Nat) (b : Addr) (items2 : Array Value) (n2 : Nat) (dd : Option Addr) (sl : Array (Option Value)) (h0 : ¬(!items.isEmpty && Builtin.List.listTooLong (items.size + items2.size)) = true) (h1 : items.size ≤ sizeLine) (h2 : items.size + items2.size ≤ sizeLine + 1) :
    Meets (Builtin.«list.extend» ⟨[.ref l, .ref b], []⟩) (fun _ R s => s.heap.get? l = some { cls := .type "list", dict := none, data := .seq items n, slots := #[] } ∧ s.heap.get? b = some ⟨.type "tuple", dd, .seq items2 n2, sl⟩ ∧
      R (.ok (.ret Value.none)) { s with heap := s.heap.update l (Obj.mapSeq fun x => x ++ items2), toks := s.toks }) :=
  .of_wp fun prog w A R s h => by
    obtain ⟨hp, g, d, tk, os⟩ := s
    obtain ⟨hl, hb, h⟩ := h
    have g1 := AutoSeq1.idx_int; have g2 := AutoSeq1.sub_tuple_tuple; have g3 := AutoSeq1.sub_list_list; have g4 := AutoSeq1.sub_tuple_list; have g5 := AutoSeq1.sub_list_tuple
    have hz : (items ++ items2).size ≤ sizeLine + 1 := by rw [Array.size_append]; exact h2
    wp_walk using (wpAny_updateSeq hl rfl (hz := h1) (_hz' := hz)), wpAny_loadPart' hl, wpAny_loadPart' hb
    exact ⟨_, rfl, h⟩
def rExtT (K : PySem.W.Frag) : V → List V → Hp → VK → Prop := fun x vs H Q => ∃ l b xs zs, x = .ref l ∧ vs = [.ref b] ∧ H l = some (.lst xs) ∧ SqT K H b zs ∧ xs.length + zs.length ≤ sizeLine ∧ Q .non (upd H l (.lst (xs ++ zs)))
theorem mt_extT : MtR X "list.extend" (rExtT X.K) := by
  intro pins s σ H x vs v us Q I rx rv h
  obtain ⟨l, b, xs, zs, rfl, rfl, hH, hB, hz, q⟩ := h
  cases rx
  obtain ⟨u, rfl, ru⟩ := rv.one
  cases ru
  obtain ⟨z, its, n, r, hl, e⟩ := I.lstM hH
  obtain ⟨its2, r2, ⟨⟨c2, dd, d2, sl⟩, e2, hc, n2, hd⟩, hz2⟩ := I.tuple hB
  simp only at hc hd
  subst hc hd
  have l1 := r.length
  have l2 := r2.length
  have small : its.toArray.size + its2.toArray.size ≤ sizeLine := by rw [List.size_toArray, List.size_toArray]; omega
  have short : ¬(!its.toArray.isEmpty && Builtin.List.listTooLong (its.toArray.size + its2.toArray.size)) = true := by rw [notLongL small, Bool.and_false]; exact Bool.false_ne_true
  refine call_meets F.slot_list_extend ⟨_, e, rfl⟩ F.entry_list_extend (F.args_list_extend_2 _ _) (ext_tuple l its.toArray n b its2.toArray n2 dd sl short (by rw [List.size_toArray]; omega) (by omega)) ⟨e, e2, ?_⟩
  exact ⟨.non, _, I.lset (its' := its ++ its2) hH e (by simp) (r.append r2) (by rw [List.length_append]; omega), rfl, q⟩
end
end EE
set_option Elab.async false
set_option linter.all false
set_option maxRecDepth 100000
set_option maxHeartbeats 4000000
namespace EE
open PySem L2 Evl
open C8 (Cal cal0 pe_c fnScope_by)
structure DefX (K : PySem.W.Frag) (mg : Str → Option Value) (x : Str) (st : Stmt) (ps : List Str) : Prop where
  ex : ∃ f fd, C8.Def K mg x st f fd ∧ Binds K fd ps []
/-- a dict that the top has written, its keys texts -/
def KD (K : PySem.W.Frag) (w : World) (a : Addr) : Prop := ∃ es n, K.lookup a = some ⟨.type "dict", none, .dict es n, #[]⟩ ∧ PySem.W.KeysLit w.params es.toList ∧ (a == sysModules) = false
structure Txt (w : World) (K : PySem.W.Frag) (mg : Str → Option Value) : Prop where
  isi : mg "isinstance" = none
  len : mg "len" = none
  all : mg "all" = none
  strT : mg "str" = none
  d_is_name : DefX K mg "is_name" s_is_name P_is_name
  d_are_names : DefX K mg "are_names" s_are_names P_are_names
  setT : mg "set" = none
  intT : mg "int" = none
  boolT : mg "bool" = none
  tupT : mg "tuple" = none
  dictT : mg "dict" = none
  listT : mg "list" = none
  d_is_integer_between : DefX K mg "is_integer_between" s_is_integer_between P_is_integer_between
  d_is_tuple_of_names : DefX K mg "is_tuple_of_names" s_is_tuple_of_names P_is_tuple_of_names
  d_is_tuple_of_unlike_names : DefX K mg "is_tuple_of_unlike_names" s_is_tuple_of_unlike_names P_is_tuple_of_unlike_names
  d_family_of : DefX K mg "family_of" s_family_of P_family_of
  d_goes_in_a_ring : DefX K mg "goes_in_a_ring" s_goes_in_a_ring P_goes_in_a_ring
  d_all_fields : DefX K mg "all_fields" s_all_fields P_all_fields
  d_all_methods : DefX K mg "all_methods" s_all_methods P_all_methods
  revT : mg "reversed" = none
  any : mg "any" = none
  zipT : mg "zip" = none
  sumT : mg "sum" = none
  sortedT : mg "sorted" = none
  d_is_block : DefX K mg "is_block" s_is_block P_is_block
  d_is_statement : DefX K mg "is_statement" s_is_statement P_is_statement
  d_shape_of : DefX K mg "shape_of" s_shape_of P_shape_of
  d_is_part : DefX K mg "is_part" s_is_part P_is_part
  d_has_return : DefX K mg "has_return" s_has_return P_has_return
  d_blocks_of : DefX K mg "blocks_of" s_blocks_of P_blocks_of
  d_parts_of : DefX K mg "parts_of" s_parts_of P_parts_of
  d_statements_of : DefX K mg "statements_of" s_statements_of P_statements_of
  d_size_of : DefX K mg "size_of" s_size_of P_size_of
  d_is_expression : DefX K mg "is_expression" s_is_expression P_is_expression
  d_plain_functions : DefX K mg "plain_functions" s_plain_functions P_plain_functions
  d_count_lasts : DefX K mg "count_lasts" s_count_lasts P_count_lasts
  d_free_names : DefX K mg "free_names" s_free_names P_free_names
  d_strings_in : DefX K mg "strings_in" s_strings_in P_strings_in
  d_without_lasts : DefX K mg "without_lasts" s_without_lasts P_without_lasts
  d_plain_statements : DefX K mg "plain_statements" s_plain_statements P_plain_statements
  d_spots_of : DefX K mg "spots_of" s_spots_of P_spots_of
  d_lay_block : DefX K mg "lay_block" s_lay_block P_lay_block
  d_lay_statement : DefX K mg "lay_statement" s_lay_statement P_lay_statement
  d_lay_inner : DefX K mg "lay_inner" s_lay_inner P_lay_inner
  d_expressions_of : DefX K mg "expressions_of" s_expressions_of P_expressions_of
  d_copy_of_classes : DefX K mg "copy_of_classes" s_copy_of_classes P_copy_of_classes
  d_are_classes : DefX K mg "are_classes" s_are_classes P_are_classes
  d_is_class : DefX K mg "is_class" s_is_class P_is_class
  d_has_right_family : DefX K mg "has_right_family" s_has_right_family P_has_right_family
  d_are_functions : DefX K mg "are_functions" s_are_functions P_are_functions
  d_is_function : DefX K mg "is_function" s_is_function P_is_function
  d_are_methods_of : DefX K mg "are_methods_of" s_are_methods_of P_are_methods_of
  d_first_wrong_part : DefX K mg "first_wrong_part" s_first_wrong_part P_first_wrong_part
  c_MOST_SHARED : ∃ u, mg "MOST_SHARED" = some u ∧ RelV (.int 4) u
  c_MOST_CLASSES : ∃ u, mg "MOST_CLASSES" = some u ∧ RelV (.int 6) u
  c_MOST_FUNCTIONS : ∃ u, mg "MOST_FUNCTIONS" = some u ∧ RelV (.int 12) u
  c_MOST_PARAMETERS : ∃ u, mg "MOST_PARAMETERS" = some u ∧ RelV (.int 4) u
  c_MOST_OWN_FIELDS : ∃ u, mg "MOST_OWN_FIELDS" = some u ∧ RelV (.int 3) u
  c_MOST_FIELDS : ∃ u, mg "MOST_FIELDS" = some u ∧ RelV (.int 4) u
  c_SHAPES : ∃ a r, mg "SHAPES" = some (.ref a) ∧ KD K w a ∧ PySem.W.nsIn K a "return" = some (some (.ref r)) ∧ ∀ H, SqT K H r [.str "expression"]
  c_CHECKS : ∃ a f, mg "CHECKS" = some (.ref a) ∧ KD K w a ∧ mg "is_expression" = some (.ref f) ∧ PySem.W.nsIn K a "expression" = some (some (.ref f))
  c_BLOCKS : ∃ a, mg "BLOCKS" = some (.ref a) ∧ ∀ H, SqT K H a [.str "block", .str "bare"]
  c_MOST_DEEP : ∃ u, mg "MOST_DEEP" = some u ∧ RelV (.int 6) u
  c_MOST_STATEMENTS : ∃ u, mg "MOST_STATEMENTS" = some u ∧ RelV (.int 12) u
  c_SECOND_LETTERS : ∃ u, mg "SECOND_LETTERS" = some u ∧ RelV (.str "abcdefghijklmnopqrstuvwxyz") u
  c_KINDS : ∃ a, mg "KINDS" = some (.ref a) ∧ ∀ H, SqT K H a [.str "word", .str "row", .str "kept"]
  d_is_dict_of_names : DefX K mg "is_dict_of_names" s_is_dict_of_names P_is_dict_of_names
section
variable {K : PySem.W.Frag} {σ : L2.St} {H H' : Hp} {te : TE} {z : V}
theorem el_listVals {d : Addr} {kvs : List (Key × V)} (h : Ev te σ H (.ref d)) (hd : H d = some (.dK kvs)) : EvL (tListVals te) σ H (kvs.map fun kv => kv.2) := fun H1 e Q q =>
  h H1 e _ fun H2 e2 => ⟨d, kvs, rfl, e2 _ _ (e _ _ hd), fun p hp => q p _ (fresh_back e2 hp) (e2.trans (Ex.new hp)) upd_same⟩
/-- f(xs), xs a new list -/
theorem ev_callL {sp : Sp} {xs : List V} {E : XK} (h : EvL te σ H xs) (hs : ∀ p H1, Ex H H1 → H1 p = some (.lst xs) → SpV sp [.ref p] H1 z) : Ev (tCall sp [] E (tCons te tNil)) σ H z := fun H1 e Q q =>
  h H1 e _ fun p H2 _ e2 h2 => hs p H2 (e.trans e2) h2 H2 (Ex.refl H2) Q (fun H3 e3 => q H3 (e2.trans e3)) E
end
section
variable {P : Program} {w : World} {K : PySem.W.Frag} {mg : Str → Option Value} {base : Heap}
theorem mk_cal {x : Str} {st : Stmt} {N ps : List Str} {k : Nat} {sp : Sp} (D : DefX K mg x st ps) (S : FnScope N ps (C8.fnScope st)) (len : ∀ vs H Q E, sp vs H Q E → vs.length = ps.length)
    (hbody : ∀ (f : Addr) (cdv : Value) (A : Around) (outer : List Env) (s : Shared) (H : Hp) (vs : List V) (Q : VK) (E : XK), Room k (A.deeper (PyProof.Rows.envOfC x (C8.fnScope st) s.heap.objs.size f cdv)) → sp vs H Q E →
      ∃ t, PSs (cxOf C8.CX0 P w K mg base N x (C8.fnScope st) f cdv A outer s H E).nox (C8.fnBody st) t ∧ t { nx := fun _ H' => Q .non H', rt := Q } (start N vs) H) : Cal P w K mg base (k + 1) x sp [] := by
  obtain ⟨f, fd, D, b⟩ := D.ex
  exact cal0 D b .nil S len (hbody f)
/-- a name's text -/
def isNm (z : Str) : Bool := (decide ((1 : Int) ≤ z.length) && decide ((z.length : Int) ≤ 8)) && (Txt.isascii z && (Txt.isalpha z && Txt.islower z))
def NmV (K : PySem.W.Frag) (H : Hp) (v : V) (b : Bool) : Prop :=
  (∃ z, v = .str z ∧ z.length ≤ sizeLine ∧ b = isNm z) ∨ (b = false ∧ ∃ t, TyX K H v t ∧ PySem.W.kitOne K t (.type "str") = some false)
theorem NmV.mono {H H' : Hp} {v : V} {b : Bool} (e : Ex H H') (h : NmV K H v b) : NmV K H' v b := by
  rcases h with h | ⟨h, t, ht, hk⟩
  · exact .inl h
  · exact .inr ⟨h, t, tyx_mono e ht, hk⟩
def sp_is_name (K : PySem.W.Frag) : Sp := PuV fun vs H z => ∃ v b, vs = [v] ∧ z = .bl b ∧ NmV K H v b
theorem v_is_name {H : Hp} {v : V} {b : Bool} (h : NmV K H v b) : SpV (sp_is_name K) [v] H (.bl b) := spv fun H1 e => ⟨v, b, rfl, rfl, h.mono e⟩
theorem sc_is_name : FnScope N_is_name P_is_name (C8.fnScope s_is_name) := fnScope_by (by decide +kernel)
theorem ok_is_name (T : Txt w K mg) : Cal P w K mg base 1 "is_name" (sp_is_name K) [] := by
  refine mk_cal T.d_is_name sc_is_name (fun vs H Q E h => ?_) (fun f cdv A outer s H vs Q E hr h => ?_)
  · obtain ⟨z, ⟨v, b, rfl, _⟩, _⟩ := h
    rfl
  · obtain ⟨z, ⟨v, b, rfl, rfl, hv⟩, k⟩ := h
    refine ⟨_, pss_one (ps_ret (pe_and (pe_callB call_isi (by rfl) T.isi (by decide +kernel) (pa_cons (pv 0) (pa_cons (pe_bltn (v := .ty "str") (by rfl) T.strT (u := .type "str") (by decide +kernel) (by rfl)) pa_nil)))
      (pe_and (pe_chain op_le op_le pe_int (pe_callB call_len_str (by rfl) T.len (by decide +kernel) (pa_cons (pv 0) pa_nil)) pe_int)
      (pe_and (pe_bm0 PySem.F.plainAttrs_str PySem.F.slot_str_isascii PySem.F.type_str_isascii mt_isascii (pv 0))
      (pe_and (pe_bm0 PySem.F.plainAttrs_str PySem.F.slot_str_isalpha PySem.F.type_str_isalpha mt_isalpha (pv 0))
      (pe_one (pe_bm0 PySem.F.plainAttrs_str PySem.F.slot_str_islower PySem.F.type_str_islower mt_islower (pv 0)))))))), ?_⟩
    refine s_ret (v := .bl b) ?_ fun H1 e => k H1 e
    have hx : ((start N_is_name [v])[0]? : Option (Option V)) = some (some v) := rfl
    rcases hv with ⟨z, rfl, hz, rfl⟩ | ⟨rfl, t, ht, hk⟩
    · refine ev_is (ev_andV (a := true) (b := isNm z) (ev_cb (ea_cons (ev_var hx) (ea_cons ev_c ea_nil)) (rc_isi (.ty "str") (.base (.str z)) (kit_ty (by decide +kernel)))) fun _ => ?_) rfl
      refine ev_andV (ev_chain ev_c (ev_cb (ea_cons (ev_var hx) ea_nil) (rc_lenstr hz)) rv_I0 fun _ => ⟨_, ev_c, rv_I0⟩) fun _ => ?_
      exact ev_andV (ev_bm0s (ev_var hx)) fun _ => ev_andV (ev_bm0s (ev_var hx)) fun _ => ev_bm0s (ev_var hx)
    · exact ev_is (ev_andV (a := false) (b := false) (ev_cb (ea_cons (ev_var hx) (ea_cons ev_c ea_nil)) (rc_isi (.ty "str") ht hk)) fun z => nomatch z) rfl
/-- these are names, or not, one by one -/
def NmVs (K : PySem.W.Frag) (H : Hp) (xs : List V) (bs : List Bool) : Prop := Paired (NmV K H) xs bs
theorem NmVs.len {H : Hp} : ∀ {xs : List V} {bs : List Bool}, NmVs K H xs bs → bs.length = xs.length
  | _, _, .nil => rfl
  | _, _, .cons _ t => congrArg (· + 1) (NmVs.len t)
theorem NmVs.mono {H H' : Hp} {xs : List V} {bs : List Bool} (e : Ex H H') (h : NmVs K H xs bs) : NmVs K H' xs bs := by
  induction h with
  | nil => exact .nil
  | cons h _ ih => exact .cons (h.mono e) ih
theorem NmVs.get {H : Hp} : ∀ {xs : List V} {bs : List Bool} {i : Nat} {x : V} {y : V}, NmVs K H xs bs → xs[i]? = some x → (bs.map V.bl)[i]? = some y → ∃ b, y = .bl b ∧ NmV K H x b
  | _, _, _, _, _, .nil, h, _ => by simp at h
  | _, _, 0, x, y, .cons h _, hx, hy => by
    simp at hx hy
    subst hx hy
    exact ⟨_, rfl, h⟩
  | _, _, i + 1, x, y, .cons _ t, hx, hy => NmVs.get (i := i) t (by simpa using hx) (by simpa using hy)
theorem NmVs.strs {H : Hp} : ∀ (zs : List Str), (∀ z ∈ zs, z.length ≤ sizeLine) → NmVs K H (zs.map V.str) (zs.map isNm)
  | [], _ => .nil
  | z :: zs, h => .cons (.inl ⟨z, rfl, h z List.mem_cons_self, rfl⟩) (NmVs.strs zs fun y hy => h y (List.mem_cons_of_mem _ hy))
/-- what are_names may be given: a tuple, a list, a dict -/
def Items (K : PySem.W.Frag) (H : Hp) (v : V) (xs : List V) : Prop :=
  ∃ a, v = .ref a ∧ (SqT K H a xs ∨ SqL K H a xs ∨ ∃ kvs : List (Key × V), H a = some (.dK kvs) ∧ xs = kvs.map fun p => kV p.1)
theorem Items.mono {H H' : Hp} {v : V} {xs : List V} (e : Ex H H') (h : Items K H v xs) : Items K H' v xs := by
  obtain ⟨a, rfl, h | h | ⟨kvs, h, h2⟩⟩ := h
  · exact ⟨a, rfl, .inl (ex_t e h)⟩
  · exact ⟨a, rfl, .inr (.inl (ex_l e h))⟩
  · exact ⟨a, rfl, .inr (.inr ⟨kvs, e _ _ h, h2⟩)⟩
def sp_are_names (K : PySem.W.Frag) : Sp := PuV fun vs H z => ∃ v xs bs, vs = [v] ∧ z = .bl (bs.all id) ∧ Items K H v xs ∧ NmVs K H xs bs ∧ xs.length ≤ 40000
theorem v_are_names {H : Hp} {v : V} {xs : List V} {bs : List Bool} (hi : Items K H v xs) (h : NmVs K H xs bs) (hz : xs.length ≤ 40000) : SpV (sp_are_names K) [v] H (.bl (bs.all id)) :=
  spv fun H1 e => ⟨v, xs, bs, rfl, rfl, hi.mono e, h.mono e, hz⟩
theorem sc_are_names : FnScope N_are_names P_are_names (C8.fnScope s_are_names) := fnScope_by (by decide +kernel)
theorem key_nm {H H' : Hp} {k : Key} {b : Bool} (h : NmV K H (kV k) b) : NmV K H' (kV k) b := by
  cases k with
  | inl i =>
    rcases h with ⟨z, h, _⟩ | ⟨h, _⟩
    · cases h
    · exact .inr ⟨h, _, .base (.int i), kit_ty (by decide +kernel)⟩
  | inr z =>
    rcases h with h | ⟨_, t, h, hk⟩
    · exact .inl h
    · cases h with
      | base h =>
        cases h
        rw [kit_ty (a := "str") (b := "str") (r := true) (by decide +kernel)] at hk
        cases hk
theorem keys_nm {H H' : Hp} : ∀ {ks : List (Key × V)} {bs : List Bool}, NmVs K H (ks.map fun p => kV p.1) bs → NmVs K H' (ks.map fun p => kV p.1) bs
  | [], _, .nil => .nil
  | _ :: _, _, .cons h t => .cons (key_nm h) (keys_nm t)
theorem ok_are_names (T : Txt w K mg) : Cal P w K mg base 2 "are_names" (sp_are_names K) [] := by
  refine mk_cal T.d_are_names sc_are_names (fun vs H Q E h => ?_) (fun f cdv A outer s H vs Q E hr h => ?_)
  · obtain ⟨z, ⟨v, xs, bs, rfl, _⟩, _⟩ := h
    rfl
  · obtain ⟨z, ⟨v, xs, bs, rfl, rfl, hi, hb, hz⟩, k⟩ := h
    obtain ⟨a, rfl, hi⟩ := hi
    have hx : ((start N_are_names [V.ref a])[0]? : Option (Option V)) = some (some (.ref a)) := rfl
    have turn : ∀ (H : Hp), NmVs K H xs bs → ∀ (i : Nat) (x y : V) (H1 : Hp), Ex H H1 → xs[i]? = some x → (bs.map V.bl)[i]? = some y →
        Ev (tCall (sp_is_name K) [] L2.E0 (tCons (tVar 1) tNil)) ((wipe (start N_are_names [V.ref a]) [1]).set 1 (some x)) H1 y := fun H hb i x y H1 e1 h1 h2 => by
      obtain ⟨b, rfl, hn⟩ := hb.get h1 h2
      exact ev_call (ea_cons (ev_var rfl) ea_nil) (v_is_name (hn.mono e1))
    rcases hi with hi | hi | ⟨kvs, hi, rfl⟩
    · refine ⟨_, pss_one (ps_ret (pe_callB (cr_all rfl) (by rfl) T.all (by decide +kernel) (pa_cons (pe_lc (own := [("thing", 1)]) (g := gName 1) (tt := tYes) rfl sc_are_names.nd (pi_tup (pv 0)) (blkOk_by (N := N_are_names) (sc := C8.fnScope s_are_names) (by decide +kernel))
        (fun _ _ _ _ _ => pg_name (i := 1) sc_are_names.nd rfl (Or.inl rfl)) (fun _ _ _ _ _ => pts_nil) (fun _ _ _ _ _ => pe_c (ok_is_name T) hr (Nat.le_refl _) (by rfl) (pa_cons (pv 1) pa_nil))) pa_nil))), ?_⟩
      refine s_ret (v := .bl (bs.all id)) ?_ fun H1 e => k H1 e
      refine ev_cbL (el_lcA (bs.map V.bl) (by rw [List.length_map]; exact hb.len) (ei_tup (ev_var hx) hi) hz (fun _ => rfl) (turn H hb)) fun p H1 _ hp => rc_all (sq_of hp)
    · refine ⟨_, pss_one (ps_ret (pe_callB (cr_all rfl) (by rfl) T.all (by decide +kernel) (pa_cons (pe_lc (own := [("thing", 1)]) (g := gName 1) (tt := tYes) rfl sc_are_names.nd (pi_list (pv 0)) (blkOk_by (N := N_are_names) (sc := C8.fnScope s_are_names) (by decide +kernel))
        (fun _ _ _ _ _ => pg_name (i := 1) sc_are_names.nd rfl (Or.inl rfl)) (fun _ _ _ _ _ => pts_nil) (fun _ _ _ _ _ => pe_c (ok_is_name T) hr (Nat.le_refl _) (by rfl) (pa_cons (pv 1) pa_nil))) pa_nil))), ?_⟩
      refine s_ret (v := .bl (bs.all id)) ?_ fun H1 e => k H1 e
      refine ev_cbL (el_lcA (bs.map V.bl) (by rw [List.length_map]; exact hb.len) (ei_list (ev_var hx) hi) hz (fun _ => rfl) (turn H hb)) fun p H1 _ hp => rc_all (sq_of hp)
    · refine ⟨_, pss_one (ps_ret (pe_callB (cr_all rfl) (by rfl) T.all (by decide +kernel) (pa_cons (pe_lock (pe_lc (own := [("thing", 1)]) (g := gName 1) (tt := tYes) rfl sc_are_names.nd (pi_keys (pv 0)) (blkOk_by (N := N_are_names) (sc := C8.fnScope s_are_names) (by decide +kernel))
        (fun _ _ _ _ _ => pg_name (i := 1) sc_are_names.nd rfl (Or.inl rfl)) (fun _ _ _ _ _ => pts_nil) (fun _ _ _ _ _ => pe_c (ok_is_name T) hr (Nat.le_refl _) (by rfl) (pa_cons (pv 1) pa_nil)))) pa_nil))), ?_⟩
      refine s_ret (v := .bl (bs.all id)) ?_ fun H1 e => k H1 e
      refine ev_cbL (evl_lock hi fun od => ?_) fun p H1 _ hp => rc_all (sq_of hp)
      exact el_lcA (bs.map V.bl) (by rw [List.length_map]; exact hb.len) (ei_keys (ev_var hx) upd_same) hz (fun _ => rfl) (turn _ (keys_nm hb))
/-- what stands in the place of a tuple: a tuple of these, or no tuple -/
def TupQ (K : PySem.W.Frag) (H : Hp) (v : V) (o : Option (List V)) : Prop :=
  (∃ a xs, v = .ref a ∧ SqT K H a xs ∧ o = some xs) ∨ (o = none ∧ ∃ t, TyX K H v t ∧ PySem.W.kitOne K t (.type "tuple") = some false)
theorem TupQ.mono {H H' : Hp} {v : V} {o : Option (List V)} (e : Ex H H') (h : TupQ K H v o) : TupQ K H' v o := by
  rcases h with ⟨a, xs, rfl, h, h2⟩ | ⟨h, t, ht, hk⟩
  · exact .inl ⟨a, xs, rfl, ex_t e h, h2⟩
  · exact .inr ⟨h, t, tyx_mono e ht, hk⟩
theorem tyx_sqT {H : Hp} {a : Addr} {xs : List V} (h : SqT K H a xs) : TyX K H (.ref a) (.type "tuple") := by
  rcases h with (h | ⟨o, h⟩) | h
  · exact .base (.tup h)
  · exact .fTuple h
  · obtain ⟨o, _, _, e, c, _⟩ := h
    exact .kTuple e c
theorem rc_lenS {H : Hp} {a : Addr} {xs : List V} (h : SqL K H a xs ∨ SqT K H a xs) : RC (fun xs H Q => ∃ p ys, xs = [.ref p] ∧ (SqL K H p ys ∨ SqT K H p ys) ∧ Q (.int ys.length) H) [.ref a] H (.int (xs.length : Nat)) :=
  fun H1 e Q q => ⟨a, xs, rfl, h.elim (fun h => .inl (ex_l e h)) (fun h => .inr (ex_t e h)), q H1 (Ex.refl H1)⟩
/-- isinstance(x, tuple) -/
theorem rc_isTup {H : Hp} {v : V} {o : Option (List V)} (h : TupQ K H v o) : RC (rIsi K) [v, .ty "tuple"] H (.bl o.isSome) := by
  rcases h with ⟨a, xs, rfl, h, rfl⟩ | ⟨rfl, t, ht, hk⟩
  · exact rc_isi (.ty "tuple") (tyx_sqT h) (show PySem.W.kitOne K (.type "tuple") (.type "tuple") = some true from kit_ty (by decide +kernel))
  · exact rc_isi (.ty "tuple") ht hk
theorem sc_is_tuple_of_names : FnScope N_is_tuple_of_names P_is_tuple_of_names (C8.fnScope s_is_tuple_of_names) := fnScope_by (by decide +kernel)
/-- the answer of is_tuple_of_names: bs of the items of a tuple -/
def tupNm (most : Int) (o : Option (List V)) (bs : List Bool) : Bool := o.isSome && (decide (((o.getD []).length : Int) ≤ most) && bs.all id)
def TupN (K : PySem.W.Frag) (H : Hp) (v : V) (o : Option (List V)) (bs : List Bool) : Prop := TupQ K H v o ∧ (∀ xs, o = some xs → NmVs K H xs bs ∧ xs.length ≤ 40000)
theorem TupN.mono {H H' : Hp} {v : V} {o : Option (List V)} {bs : List Bool} (e : Ex H H') (h : TupN K H v o bs) : TupN K H' v o bs := ⟨h.1.mono e, fun xs hx => ⟨(h.2 xs hx).1.mono e, (h.2 xs hx).2⟩⟩
def sp_is_tuple_of_names (K : PySem.W.Frag) : Sp := PuV fun vs H z => ∃ most v o bs, vs = [.int most, v] ∧ z = .bl (tupNm most o bs) ∧ TupN K H v o bs
theorem v_is_tuple_of_names {H : Hp} {most : Int} {v : V} {o : Option (List V)} {bs : List Bool} (h : TupN K H v o bs) : SpV (sp_is_tuple_of_names K) [.int most, v] H (.bl (tupNm most o bs)) :=
  spv fun H1 e => ⟨most, v, o, bs, rfl, rfl, h.mono e⟩
theorem ok_is_tuple_of_names (T : Txt w K mg) : Cal P w K mg base 3 "is_tuple_of_names" (sp_is_tuple_of_names K) [] := by
  refine mk_cal T.d_is_tuple_of_names sc_is_tuple_of_names (fun vs H Q E h => ?_) (fun f cdv A outer s H vs Q E hr h => ?_)
  · obtain ⟨z, ⟨_, _, _, _, rfl, _⟩, _⟩ := h
    rfl
  · obtain ⟨z, ⟨most, v, o, bs, rfl, rfl, hv⟩, k⟩ := h
    refine ⟨_, pss_one (ps_ret (pe_and (pe_callB call_isi (by rfl) T.isi (by decide +kernel) (pa_cons (pv 1) (pa_cons (pe_bltn (v := .ty "tuple") (by rfl) T.tupT (u := .type "tuple") (by decide +kernel) (by rfl)) pa_nil)))
      (pe_and (pe_cmpR op_le (pe_callB call_len_seq (by rfl) T.len (by decide +kernel) (pa_cons (pv 1) pa_nil)) (pv 0) (nomark _))
      (pe_one (pe_c (ok_are_names T) hr (by decide) (by rfl) (pa_cons (pv 1) pa_nil)))))), ?_⟩
    refine s_ret (v := .bl (tupNm most o bs)) ?_ fun H1 e => k H1 e
    have h0 : ((start N_is_tuple_of_names [V.int most, v])[0]? : Option (Option V)) = some (some (.int most)) := rfl
    have h1 : ((start N_is_tuple_of_names [V.int most, v])[1]? : Option (Option V)) = some (some v) := rfl
    refine ev_andV (ev_cb (ea_cons (ev_var h1) (ea_cons ev_c ea_nil)) (rc_isTup hv.1)) fun ho => ?_
    obtain ⟨hq, hn⟩ := hv
    rcases hq with ⟨a, xs, rfl, h, rfl⟩ | ⟨rfl, _⟩
    · obtain ⟨hb, hz⟩ := hn xs rfl
      refine ev_andV (ev_op (ev_cb (ea_cons (ev_var h1) ea_nil) (rc_lenS (.inr h))) (ev_var h0) rv_I0) fun _ => ?_
      exact ev_call (ea_cons (ev_var h1) ea_nil) (v_are_names ⟨a, rfl, .inl h⟩ hb hz)
    · cases ho
/-! is_tuple_of_unlike_names -/
theorem NmVs.all_strs {H : Hp} : ∀ {xs : List V} {bs : List Bool}, NmVs K H xs bs → bs.all id = true → ∃ zs : List Str, xs = zs.map V.str ∧ ∀ z ∈ zs, isNm z = true ∧ z.length ≤ sizeLine
  | _, _, .nil, _ => ⟨[], rfl, fun _ h => by simp at h⟩
  | _, _, .cons (a := x) (b := b) h t, hb => by
    rw [List.all_cons, Bool.and_eq_true] at hb
    obtain ⟨zs, rfl, hz⟩ := NmVs.all_strs t hb.2
    rcases h with ⟨z, rfl, hl, rfl⟩ | ⟨rfl, _⟩
    · exact ⟨z :: zs, rfl, fun y hy => by
        rcases List.mem_cons.mp hy with rfl | hy
        · exact ⟨hb.1, hl⟩
        · exact hz y hy⟩
    · exact absurd hb.1 (by simp)
def unV : V → Str
  | .str z => z
  | _ => Str.empty
def tupUn (most : Int) (o : Option (List V)) (bs : List Bool) : Bool := tupNm most o bs && decide (((o.getD []).map unV).Nodup)
theorem un_map (zs : List Str) : (zs.map V.str).map unV = zs := by
  rw [List.map_map]
  exact List.map_id'' (fun _ => rfl) zs
def sp_unlike (K : PySem.W.Frag) : Sp := PuV fun vs H z => ∃ most v o bs, vs = [.int most, v] ∧ most ≤ 900 ∧ z = .bl (tupUn most o bs) ∧ TupN K H v o bs
theorem v_unlike {H : Hp} {most : Int} {v : V} {o : Option (List V)} {bs : List Bool} (hm : most ≤ 900) (h : TupN K H v o bs) : SpV (sp_unlike K) [.int most, v] H (.bl (tupUn most o bs)) :=
  spv fun H1 e => ⟨most, v, o, bs, rfl, hm, rfl, h.mono e⟩
theorem ev_lenSetT {σ : L2.St} {H : Hp} {te : TE} {l : Addr} {zs : List Str} {z : V} {r : R2} {tb : TE} (h : Ev te σ H (.ref l)) (hz : SqT K H l (zs.map V.str)) (hn : zs.length ≤ 1000)
    (k : ∀ c : Nat, c ≤ zs.length → (c = zs.length ↔ zs.Nodup) → ∀ H1, Ex H H1 → ∀ Q : VK, (∀ H2, Ex H1 H2 → Q z H2) → tb σ H1 fun y H2 => r (.int c) y H2 Q) : Ev (tOp r (tLenSetT K te) tb) σ H z := fun H1 e Q q =>
  h H1 e _ fun H2 e2 => ⟨l, zs, rfl, ex_t (e.trans e2) hz, hn, fun c h1 h2 => k c h1 h2 H2 (e.trans e2) Q fun H3 e3 => q H3 (e2.trans e3)⟩
theorem sc_is_tuple_of_unlike_names : FnScope N_is_tuple_of_unlike_names P_is_tuple_of_unlike_names (C8.fnScope s_is_tuple_of_unlike_names) := fnScope_by (by decide +kernel)
theorem ok_unlike (T : Txt w K mg) : Cal P w K mg base 4 "is_tuple_of_unlike_names" (sp_unlike K) [] := by
  refine mk_cal T.d_is_tuple_of_unlike_names sc_is_tuple_of_unlike_names (fun vs H Q E h => ?_) (fun f cdv A outer s H vs Q E hr h => ?_)
  · obtain ⟨z, ⟨_, _, _, _, rfl, _⟩, _⟩ := h
    rfl
  · obtain ⟨z, ⟨most, v, o, bs, rfl, hm, rfl, hv⟩, k⟩ := h
    refine ⟨_, pss_one (ps_ret (pe_and (pe_c (ok_is_tuple_of_names T) hr (by decide) (by rfl) (pa_cons (pv 0) (pa_cons (pv 1) pa_nil)))
      (pe_one (pe_cmpR op_eq (pe_lenSetT rfl (by rfl) T.len (by rfl) T.setT (pv 1)) (pe_callB call_len_seq (by rfl) T.len (by decide +kernel) (pa_cons (pv 1) pa_nil)) (nomark _))))), ?_⟩
    refine s_ret (v := .bl (tupUn most o bs)) ?_ fun H1 e => k H1 e
    have h0 : ((start N_is_tuple_of_unlike_names [V.int most, v])[0]? : Option (Option V)) = some (some (.int most)) := rfl
    have h1 : ((start N_is_tuple_of_unlike_names [V.int most, v])[1]? : Option (Option V)) = some (some v) := rfl
    refine ev_andV (ev_call (ea_cons (ev_var h0) (ea_cons (ev_var h1) ea_nil)) (v_is_tuple_of_names hv)) fun ho => ?_
    obtain ⟨hq, hn⟩ := hv
    rcases hq with ⟨a, xs, rfl, h, rfl⟩ | ⟨rfl, _⟩
    · obtain ⟨hb, hz⟩ := hn xs rfl
      have ho2 : (decide ((xs.length : Int) ≤ most) && bs.all id) = true := ho
      rw [Bool.and_eq_true, decide_eq_true_eq] at ho2
      obtain ⟨zs, rfl, _⟩ := hb.all_strs ho2.2
      have hlen : (zs.map V.str).length = zs.length := List.length_map _
      rw [hlen] at ho2 hz
      refine ev_lenSetT (ev_var h1) h (by omega) fun c h1' h2' H1 e Q q => ?_
      refine (ev_cb (ea_cons (ev_var h1) ea_nil) (rc_lenS (.inr h))) H1 e _ fun H2 e2 => ⟨rfl, ?_⟩
      have er : V.bl (decide ((V.int (c : Nat)) = V.int ((zs.map V.str).length : Nat))) = V.bl (decide (((Option.getD (some (zs.map V.str)) []).map unV).Nodup)) := by
        congr 1
        rw [hlen, Option.getD_some, un_map]
        refine decide_eq_decide.mpr ⟨fun z => h2'.mp (by injection z with z; omega), fun z => by rw [h2'.mpr z]⟩
      rw [er]
      exact q H2 e2
    · cases ho
/-! is_dict_of_names -/
theorem sc_is_dict_of_names : FnScope N_is_dict_of_names P_is_dict_of_names (C8.fnScope s_is_dict_of_names) := fnScope_by (by decide +kernel)
/-- what stands in the place of a dict -/
def DictQ (K : PySem.W.Frag) (H : Hp) (v : V) (o : Option (List (Key × V))) : Prop :=
  (∃ a kvs, v = .ref a ∧ H a = some (.dK kvs) ∧ o = some kvs) ∨ (o = none ∧ ∃ t, TyX K H v t ∧ PySem.W.kitOne K t (.type "dict") = some false)
theorem DictQ.mono {H H' : Hp} {v : V} {o : Option (List (Key × V))} (e : Ex H H') (h : DictQ K H v o) : DictQ K H' v o := by
  rcases h with ⟨a, xs, rfl, h, h2⟩ | ⟨h, t, ht, hk⟩
  · exact .inl ⟨a, xs, rfl, e _ _ h, h2⟩
  · exact .inr ⟨h, t, tyx_mono e ht, hk⟩
theorem rc_isDict {H : Hp} {v : V} {o : Option (List (Key × V))} (h : DictQ K H v o) : RC (rIsi K) [v, .ty "dict"] H (.bl o.isSome) := by
  rcases h with ⟨a, xs, rfl, h, rfl⟩ | ⟨rfl, t, ht, hk⟩
  · exact rc_isi (.ty "dict") (.base (.dK h)) (show PySem.W.kitOne K (.type "dict") (.type "dict") = some true from kit_ty (by decide +kernel))
  · exact rc_isi (.ty "dict") ht hk
def dictNm (o : Option (List (Key × V))) (ks bs : List Bool) : Bool := o.isSome && (ks.all id && bs.all id)
def DictN (K : PySem.W.Frag) (H : Hp) (v : V) (o : Option (List (Key × V))) (ks bs : List Bool) : Prop :=
  DictQ K H v o ∧ ∀ kvs, o = some kvs → NmVs K H (kvs.map fun p => kV p.1) ks ∧ NmVs K H (kvs.map fun p => p.2) bs ∧ kvs.length ≤ 40000
theorem DictN.mono {H H' : Hp} {v : V} {o : Option (List (Key × V))} {ks bs : List Bool} (e : Ex H H') (h : DictN K H v o ks bs) : DictN K H' v o ks bs :=
  ⟨h.1.mono e, fun xs hx => ⟨(h.2 xs hx).1.mono e, (h.2 xs hx).2.1.mono e, (h.2 xs hx).2.2⟩⟩
def sp_is_dict_of_names (K : PySem.W.Frag) : Sp := PuV fun vs H z => ∃ v o ks bs, vs = [v] ∧ z = .bl (dictNm o ks bs) ∧ DictN K H v o ks bs
theorem v_is_dict_of_names {H : Hp} {v : V} {o : Option (List (Key × V))} {ks bs : List Bool} (h : DictN K H v o ks bs) : SpV (sp_is_dict_of_names K) [v] H (.bl (dictNm o ks bs)) :=
  spv fun H1 e => ⟨v, o, ks, bs, rfl, rfl, h.mono e⟩
theorem ok_is_dict_of_names (T : Txt w K mg) : Cal P w K mg base 3 "is_dict_of_names" (sp_is_dict_of_names K) [] := by
  refine mk_cal T.d_is_dict_of_names sc_is_dict_of_names (fun vs H Q E h => ?_) (fun f cdv A outer s H vs Q E hr h => ?_)
  · obtain ⟨z, ⟨_, _, _, _, rfl, _⟩, _⟩ := h
    rfl
  · obtain ⟨z, ⟨v, o, ks, bs, rfl, rfl, hv⟩, k⟩ := h
    refine ⟨_, pss_one (ps_ret (pe_and (pe_callB call_isi (by rfl) T.isi (by decide +kernel) (pa_cons (pv 0) (pa_cons (pe_bltn (v := .ty "dict") (by rfl) T.dictT (u := .type "dict") (by decide +kernel) (by rfl)) pa_nil)))
      (pe_and (pe_c (ok_are_names T) hr (by decide) (by rfl) (pa_cons (pv 0) pa_nil))
      (pe_one (pe_c (ok_are_names T) hr (by decide) (by rfl) (pa_cons (pe_listVals rfl (by rfl) T.listT (pv 0) (by decide +kernel)) pa_nil)))))), ?_⟩
    refine s_ret (v := .bl (dictNm o ks bs)) ?_ fun H1 e => k H1 e
    have h0 : ((start N_is_dict_of_names [v])[0]? : Option (Option V)) = some (some v) := rfl
    refine ev_andV (ev_cb (ea_cons (ev_var h0) (ea_cons ev_c ea_nil)) (rc_isDict hv.1)) fun ho => ?_
    obtain ⟨hq, hn⟩ := hv
    rcases hq with ⟨a, kvs, rfl, h, rfl⟩ | ⟨rfl, _⟩
    · obtain ⟨hk, hb, hz⟩ := hn kvs rfl
      refine ev_andV (ev_call (ea_cons (ev_var h0) ea_nil) (v_are_names ⟨a, rfl, .inr (.inr ⟨kvs, h, rfl⟩)⟩ hk (by rw [List.length_map]; exact hz))) fun _ => ?_
      refine ev_callL (el_listVals (ev_var h0) h) fun p H1 e hp => ?_
      exact v_are_names ⟨p, rfl, .inr (.inl (sq_of hp))⟩ (hb.mono e) (by rw [List.length_map]; exact hz)
    · cases ho
/-! is_integer_between -/
def IntQ (K : PySem.W.Frag) (H : Hp) (v : V) (o : Option Int) : Prop :=
  (∃ i, v = .int i ∧ o = some i) ∨ (o = none ∧ ((∃ b, v = .bl b) ∨ ∃ t, TyX K H v t ∧ PySem.W.kitOne K t (.type "int") = some false))
theorem IntQ.mono {H H' : Hp} {v : V} {o : Option Int} (e : Ex H H') (h : IntQ K H v o) : IntQ K H' v o := by
  rcases h with h | ⟨h, h2 | ⟨t, ht, hk⟩⟩
  · exact .inl h
  · exact .inr ⟨h, .inl h2⟩
  · exact .inr ⟨h, .inr ⟨t, tyx_mono e ht, hk⟩⟩
def intBt (low high : Int) (o : Option Int) : Bool := match o with
  | some i => decide (low ≤ i) && decide (i ≤ high)
  | none => false
def sp_between (K : PySem.W.Frag) : Sp := PuV fun vs H z => ∃ low high v o, vs = [.int low, .int high, v] ∧ z = .bl (intBt low high o) ∧ IntQ K H v o
theorem v_between {H : Hp} {low high : Int} {v : V} {o : Option Int} (h : IntQ K H v o) : SpV (sp_between K) [.int low, .int high, v] H (.bl (intBt low high o)) :=
  spv fun H1 e => ⟨low, high, v, o, rfl, rfl, h.mono e⟩
theorem sc_is_integer_between : FnScope N_is_integer_between P_is_integer_between (C8.fnScope s_is_integer_between) := fnScope_by (by decide +kernel)
theorem ok_between (T : Txt w K mg) : Cal P w K mg base 1 "is_integer_between" (sp_between K) [] := by
  refine mk_cal T.d_is_integer_between sc_is_integer_between (fun vs H Q E h => ?_) (fun f cdv A outer s H vs Q E hr h => ?_)
  · obtain ⟨z, ⟨_, _, _, _, rfl, _⟩, _⟩ := h
    rfl
  · obtain ⟨z, ⟨low, high, v, o, rfl, rfl, hv⟩, k⟩ := h
    refine ⟨_, pss_one (ps_ret (pe_and (pe_callB call_isi (by rfl) T.isi (by decide +kernel) (pa_cons (pv 2) (pa_cons (pe_bltn (v := .ty "int") (by rfl) T.intT (u := .type "int") (by decide +kernel) (by rfl)) pa_nil)))
      (pe_and (pe_not (pe_callB call_isi (by rfl) T.isi (by decide +kernel) (pa_cons (pv 2) (pa_cons (pe_bltn (v := .ty "bool") (by rfl) T.boolT (u := .type "bool") (by decide +kernel) (by rfl)) pa_nil))))
      (pe_one (pe_chain op_le op_le (pv 0) (pv 2) (pv 1)))))), ?_⟩
    refine s_ret (v := .bl (intBt low high o)) ?_ fun H1 e => k H1 e
    have h0 : ((start N_is_integer_between [V.int low, V.int high, v])[0]? : Option (Option V)) = some (some (.int low)) := rfl
    have h1 : ((start N_is_integer_between [V.int low, V.int high, v])[1]? : Option (Option V)) = some (some (.int high)) := rfl
    have h2 : ((start N_is_integer_between [V.int low, V.int high, v])[2]? : Option (Option V)) = some (some v) := rfl
    rcases hv with ⟨i, rfl, rfl⟩ | ⟨rfl, ⟨b, rfl⟩ | ⟨t, ht, hk⟩⟩
    · refine ev_is (ev_andV (a := true) (b := intBt low high (some i)) (ev_cb (ea_cons (ev_var h2) (ea_cons ev_c ea_nil)) (rc_isi (.ty "int") (.base (.int i)) (kit_ty (by decide +kernel)))) fun _ => ?_) rfl
      refine ev_is (ev_andV (a := true) (b := intBt low high (some i)) (ev_is (ev_notV (a := false) (ev_cb (ea_cons (ev_var h2) (ea_cons ev_c ea_nil)) (rc_isi (.ty "bool") (.base (.int i)) (kit_ty (by decide +kernel))))) rfl) fun _ => ?_) rfl
      exact ev_chain (ev_var h0) (ev_var h2) rv_I0 fun _ => ⟨_, ev_var h1, rv_I0⟩
    · refine ev_is (ev_andV (a := true) (b := false) (ev_cb (ea_cons (ev_var h2) (ea_cons ev_c ea_nil)) (rc_isi (.ty "int") (.base (.bl b)) (kit_ty (by decide +kernel)))) fun _ => ?_) rfl
      exact ev_is (ev_andV (a := false) (b := false) (ev_is (ev_notV (a := true) (ev_cb (ea_cons (ev_var h2) (ea_cons ev_c ea_nil)) (rc_isi (.ty "bool") (.base (.bl b)) (kit_ty (by decide +kernel))))) rfl) fun z => nomatch z) rfl
    · exact ev_is (ev_andV (a := false) (b := false) (ev_cb (ea_cons (ev_var h2) (ea_cons ev_c ea_nil)) (rc_isi (.ty "int") ht hk)) fun z => nomatch z) rfl
end
end EE
set_option Elab.async false
set_option linter.all false
set_option maxRecDepth 100000
set_option maxHeartbeats 4000000
namespace EE
open PySem L2 Evl
open C8 (Cal cal0 pe_c fnScope_by)
/-! ### reading facts that stay, also where a dict is locked -/
def Le (H H' : Hp) : Prop := ∀ b u, Rd H b u → Rd H' b u
theorem Le.of {H H' : Hp} (e : Ex H H') : Le H H' := fun _ _ h => ex_rd e h
theorem Le.trans {H H1 H2 : Hp} (a : Le H H1) (b : Le H1 H2) : Le H H2 := fun x u h => b x u (a x u h)
theorem Le.lock {H : Hp} {a : Addr} {kvs : List (Key × V)} {od : Obj} (h : H a = some (.dK kvs)) : Le H (upd H a (.frz od (.dK kvs))) := fun b u r => by
  by_cases e : b = a
  · subst e
    rcases r with r | ⟨o, r⟩
    · rw [h] at r; cases r; exact .inr ⟨od, upd_same⟩
    · rw [h] at r; cases r
  · rcases r with r | ⟨o, r⟩
    · exact .inl (by rw [upd_ne e]; exact r)
    · exact .inr ⟨o, by rw [upd_ne e]; exact r⟩
section
variable {K : PySem.W.Frag} {σ : L2.St} {H H' : Hp} {ta tb te td ty : TE} {x y z v : V}
theorem Le.t {a : Addr} {xs : List V} (e : Le H H') (h : SqT K H a xs) : SqT K H' a xs := by
  rcases h with h | h
  · exact .inl (e _ _ h)
  · exact .inr h
theorem Le.l {a : Addr} {xs : List V} (e : Le H H') (h : SqL K H a xs) : SqL K H' a xs := by
  rcases h with h | h
  · exact .inl (e _ _ h)
  · exact .inr h
/-- d[k] -/
theorem ev_dget {a : Addr} {kvs : List (Key × V)} {k : Key} (hd : Ev td σ H (.ref a)) (hy : Ev ty σ H (kV k)) (h : Rd H a (.dK kvs)) (hv : valV kvs k = some v) : Ev (tDGet td ty) σ H v := fun H1 e Q q =>
  hd H1 e _ fun H2 e2 => hy H2 (e.trans e2) _ fun H3 e3 => ⟨a, v, rfl, .inl ⟨kvs, k, ex_rd ((e.trans e2).trans e3) h, rfl, hv.symm⟩, q H3 (e2.trans e3)⟩
/-- k in d -/
theorem et_din {a : Addr} {kvs : List (Key × V)} {k : Key} (hy : Ev ty σ H (kV k)) (hd : Ev td σ H (.ref a)) (h : Rd H a (.dK kvs)) : Ev (tDIn ty td) σ H (.bl (valV kvs k).isSome) := fun H1 e Q q =>
  hy H1 e _ fun H2 e2 => hd H2 (e.trans e2) _ fun H3 e3 => ⟨a, valV kvs k, rfl, .inl ⟨kvs, k, ex_rd ((e.trans e2).trans e3) h, rfl, rfl⟩, q H3 (e2.trans e3)⟩
theorem et_dnotin {a : Addr} {kvs : List (Key × V)} {k : Key} (hy : Ev ty σ H (kV k)) (hd : Ev td σ H (.ref a)) (h : Rd H a (.dK kvs)) : Ev (tDNotIn ty td) σ H (.bl (!(valV kvs k).isSome)) := fun H1 e Q q =>
  hy H1 e _ fun H2 e2 => hd H2 (e.trans e2) _ fun H3 e3 => ⟨a, valV kvs k, rfl, .inl ⟨kvs, k, ex_rd ((e.trans e2).trans e3) h, rfl, rfl⟩, q H3 (e2.trans e3)⟩
theorem rv_notN : RV (fun x y H Q => y = .non ∧ Q (.bl (!decide (x = .non))) H) x .non H (.bl (!decide (x = .non))) := fun H1 _ _ q => ⟨rfl, q H1 (Ex.refl H1)⟩
theorem rv_isN : RV (fun x y H Q => y = .non ∧ Q (.bl (decide (x = .non))) H) x .non H (.bl (decide (x = .non))) := fun H1 _ _ q => ⟨rfl, q H1 (Ex.refl H1)⟩
theorem in_strs (z : Str) : ∀ zs : List Str, inV (.str z) (zs.map V.str) = decide (z ∈ zs)
  | [] => rfl
  | y :: ys => by
    have ih := in_strs z ys
    unfold inV at ih ⊢
    rw [List.map_cons, List.any_cons, ih]
    have e : eqV (.str y) (.str z) = decide (y = z) := by first | rfl | simp [eqV]
    rw [e]
    by_cases h : y = z
    · subst h; simp
    · simp [h, Ne.symm h, eq_comm]
theorem flat_strs (ys : List Str) : (ys.map V.str).all flatV = true := by
  rw [List.all_map]
  exact List.all_eq_true.mpr fun _ _ => rfl
end
/-! ### classes -/
structure Cl where
  par : Option Str
  lvl : Int
  own : List Str
  ms : List (Str × Str)
def optV : Option Str → V
  | none => .non
  | some z => .str z
def skv (l : List (Str × Str)) : List (Key × V) := l.map fun p => (Sum.inr p.1, V.str p.2)
def RepC (K : PySem.W.Frag) (H : Hp) (c : Str × Cl) (p : Key × V) : Prop :=
  p.1 = Sum.inr c.1 ∧ ∃ t f m, p.2 = .ref t ∧ SqT K H t [optV c.2.par, .int c.2.lvl, .ref f, .ref m] ∧ SqT K H f (c.2.own.map V.str) ∧ H m = some (.dK (skv c.2.ms))
def RepCs (K : PySem.W.Frag) (H : Hp) (a : Addr) (cs : List (Str × Cl)) : Prop := ∃ kvs, Rd H a (.dK kvs) ∧ Paired (RepC K H) cs kvs
theorem RepC.ex {K : PySem.W.Frag} {H H' : Hp} {c : Str × Cl} {p : Key × V} (e : Ex H H') (h : RepC K H c p) : RepC K H' c p := by
  obtain ⟨h0, t, f, m, h1, h2, h3, h4⟩ := h
  exact ⟨h0, t, f, m, h1, ex_t e h2, ex_t e h3, e _ _ h4⟩
theorem pairC_ex {K : PySem.W.Frag} {H H' : Hp} {cs : List (Str × Cl)} {kvs : List (Key × V)} (e : Ex H H') (h : Paired (RepC K H) cs kvs) : Paired (RepC K H') cs kvs := by
  induction h with
  | nil => exact .nil
  | cons h _ ih => exact .cons (h.ex e) ih
theorem RepCs.ex {K : PySem.W.Frag} {H H' : Hp} {a : Addr} {cs : List (Str × Cl)} (e : Ex H H') (h : RepCs K H a cs) : RepCs K H' a cs := by
  obtain ⟨kvs, h1, h2⟩ := h
  exact ⟨kvs, ex_rd e h1, pairC_ex e h2⟩
/-- .. where the dict of classes is locked -/
theorem pairC_lock {K : PySem.W.Frag} {H : Hp} {a : Addr} {kv0 : List (Key × V)} {od : Obj} (ha : H a = some (.dK kv0)) (hs : ∀ p ∈ kv0, ∃ t, p.2 = .ref t) (hn : kv0 ≠ []) : ∀ {cs : List (Str × Cl)} {kvs : List (Key × V)}, Paired (RepC K H) cs kvs →
    Paired (RepC K (upd H a (.frz od (.dK kv0)))) cs kvs
  | [], [], .nil => .nil
  | c :: cs, p0 :: kvs, .cons h t => .cons (by
      obtain ⟨h0, t, f, m, h1, h2, h3, h4⟩ := h
      have hm : m ≠ a := fun z => by
        subst z
        rw [ha] at h4
        have e : kv0 = skv c.2.ms := by injection h4 with h4; injection h4
        cases kv0 with
        | nil => exact hn rfl
        | cons p r =>
          obtain ⟨t, ht⟩ := hs p List.mem_cons_self
          have : p ∈ skv c.2.ms := by rw [← e]; exact List.mem_cons_self
          obtain ⟨q, _, hq⟩ := List.mem_map.mp this
          rw [← hq] at ht
          cases ht
      exact ⟨h0, t, f, m, h1, (Le.lock ha).t h2, (Le.lock ha).t h3, by rw [upd_ne hm]; exact h4⟩) (pairC_lock ha hs hn t)
theorem pairC_refs {K : PySem.W.Frag} {H : Hp} : ∀ {cs : List (Str × Cl)} {kvs : List (Key × V)}, Paired (RepC K H) cs kvs → ∀ p ∈ kvs, ∃ t, p.2 = .ref t
  | _, _, .nil, _, h => by simp at h
  | _, _, .cons h t, p, hp => by
    rcases List.mem_cons.mp hp with rfl | hp
    · obtain ⟨_, t, _, _, h1, _⟩ := h
      exact ⟨t, h1⟩
    · exact pairC_refs t p hp
theorem repCs_lock {K : PySem.W.Frag} {H : Hp} {a : Addr} {cs : List (Str × Cl)} {kvs : List (Key × V)} {od : Obj} (ha : H a = some (.dK kvs)) (h : Paired (RepC K H) cs kvs) : Paired (RepC K (upd H a (.frz od (.dK kvs)))) cs kvs := by
  cases h with
  | nil => exact .nil
  | cons h t => exact pairC_lock ha (pairC_refs (.cons h t)) (by simp) (.cons h t)
def look (cs : List (Str × Cl)) (n : Str) : Option Cl := (cs.find? fun c => decide (c.1 = n)).map (·.2)
theorem pairC_look {K : PySem.W.Frag} {H : Hp} {n : Str} : ∀ {cs : List (Str × Cl)} {kvs : List (Key × V)}, Paired (RepC K H) cs kvs →
    (look cs n = none ∧ valV kvs (Sum.inr n : Key) = none) ∨ ∃ c v, look cs n = some c ∧ valV kvs (Sum.inr n : Key) = some v ∧ RepC K H (n, c) (Sum.inr n, v)
  | [], [], .nil => .inl ⟨rfl, rfl⟩
  | c :: cs, p :: kvs, .cons h t => by
    have h0 := h.1
    by_cases e : c.1 = n
    · refine .inr ⟨c.2, p.2, ?_, ?_, ?_⟩
      · unfold look; rw [List.find?_cons_of_pos (by simp [e])]; rfl
      · unfold valV; rw [List.find?_cons_of_pos (by simp [h0, e])]; rfl
      · subst e
        obtain ⟨p1, p2⟩ := p
        simp only at h0
        subst h0
        exact h
    · have e2 : ¬ p.1 = (Sum.inr n : Key) := by rw [h0]; exact fun z => e (Sum.inr.inj z)
      have g1 : look (c :: cs) n = look cs n := by unfold look; rw [List.find?_cons_of_neg (by simp [e])]
      have g2 : valV (p :: kvs) (Sum.inr n : Key) = valV kvs (Sum.inr n : Key) := by unfold valV; rw [List.find?_cons_of_neg (by simp [e2])]
      rw [g1, g2]
      exact pairC_look t
/-- the classes as they may be when their families are looked at: each parent is one of them -/
structure Known (cs : List (Str × Cl)) : Prop where
  few : cs.length ≤ 100
  par : ∀ n c q, look cs n = some c → c.par = some q → (look cs q).isSome = true
theorem look_mem {cs : List (Str × Cl)} {n : Str} (h : (look cs n).isSome = true) : n ∈ cs.map (·.1) := by
  unfold look at h
  rw [Option.isSome_map, List.find?_isSome] at h
  obtain ⟨c, hc, e⟩ := h
  exact List.mem_map.mpr ⟨c, hc, of_decide_eq_true e⟩
def parOf (cs : List (Str × Cl)) (n : Str) : Option Str := (look cs n).bind (·.par)
/-- family_of's loop -/
def famGo (cs : List (Str × Cl)) : Nat → Option Str → List Str → List Str
  | 0, _, acc => acc
  | _ + 1, none, acc => acc
  | m + 1, some n, acc => if n ∈ acc then acc else famGo cs m (parOf cs n) (acc ++ [n])
def family (cs : List (Str × Cl)) (n : Str) : List Str := famGo cs (cs.length + 1) (some n) []
theorem nodup_sub : ∀ {xs ys : List Str}, xs.Nodup → (∀ x ∈ xs, x ∈ ys) → xs.length ≤ ys.length
  | [], _, _, _ => Nat.zero_le _
  | x :: xs, ys, h, s => by
    obtain ⟨h1, h2⟩ := List.nodup_cons.mp h
    have hx := s x List.mem_cons_self
    have ih := nodup_sub (ys := ys.erase x) h2 fun y hy => (List.mem_erase_of_ne (by rintro rfl; exact h1 hy)).mpr (s y (List.mem_cons_of_mem _ hy))
    rw [List.length_erase_of_mem hx] at ih
    have := List.length_pos_of_mem hx
    rw [List.length_cons]
    omega
section
variable {P : Program} {w : World} {K : PySem.W.Frag} {mg : Str → Option Value} {base : Heap}
def sp_family_of (K : PySem.W.Frag) : Sp := PuL fun vs H xs => ∃ a n cs, vs = [.ref a, .str n] ∧ xs = (family cs n).map V.str ∧ RepCs K H a cs ∧ Known cs ∧ (look cs n).isSome = true
theorem l_family_of {H : Hp} {a : Addr} {n : Str} {cs : List (Str × Cl)} (h : RepCs K H a cs) (hk : Known cs) (hn : (look cs n).isSome = true) : SpL (sp_family_of K) [.ref a, .str n] H ((family cs n).map V.str) :=
  spl fun H1 e => ⟨a, n, cs, rfl, rfl, h.ex e, hk, hn⟩
theorem sc_family_of : FnScope N_family_of P_family_of (C8.fnScope s_family_of) := fnScope_by (by decide +kernel)
theorem ok_family_of (T : Txt w K mg) : Cal P w K mg base 1 "family_of" (sp_family_of K) [] := by
  refine mk_cal T.d_family_of sc_family_of (fun vs H Q E h => ?_) (fun f cdv A outer s H vs Q E hr h => ?_)
  · obtain ⟨z, ⟨_, _, _, rfl, _⟩, _⟩ := h
    rfl
  · obtain ⟨z, ⟨a, n, cs, rfl, rfl, hc, hk, hn⟩, k⟩ := h
    have hu := hu_of hr
    refine ⟨_, pss_cons (ps_set (i := 2) sc_family_of.nd rfl (Or.inl rfl) (pe_lst pa_nil))
      (pss_cons (ps_while PassesOwn.never (PW.pt (pw_and (pt_cmpR op_notN (pv 1) pe_non (nomark _)) (pw_and1 (pt_cmpR op_notIn_seq (pv 1) (pv 2) (by rfl)))))
        (pss_cons (ps_expr (pe_bm PySem.F.plainAttrs_list PySem.F.slot_list_append PySem.F.type_list_append mt_append (pv 2) (pa_cons (pv 1) pa_nil)))
        (pss_one (ps_set (i := 1) sc_family_of.nd rfl (Or.inl rfl) (pe_ix ix_tup (pe_dget hu (pv 0) (pv 1) (fun _ _ => rfl)) pe_int (fun _ _ => rfl))))))
      (pss_one (ps_ret (pv 2)))), ?_⟩
    refine q_asgL (el_lst ea_nil (by decide)) fun l H1 hl e1 h1 => ?_
    refine q_while (fun m σ' H' => ∃ (x : Option Str) (fam : List Str), σ' = [some (.ref a), some (optV x), some (.ref l)] ∧ Ex H H' ∧ H' l = some (.lst (fam.map V.str)) ∧ famGo cs m x fam = family cs n ∧
        fam.length + m = cs.length + 1 ∧ fam.Nodup ∧ (∀ y ∈ fam, y ∈ cs.map (·.1)) ∧ ∀ y, x = some y → (look cs y).isSome = true) (cs.length + 1)
      ⟨some n, [], rfl, e1, h1, rfl, by simp, List.nodup_nil, by simp, fun y hy => by cases hy; exact hn⟩ ?_
    rintro m σ' H' ⟨x, fam, rfl, e, hl', hgo, hlen, hnd, hin, hx⟩
    have hx1 : (([some (.ref a), some (optV x), some (.ref l)] : L2.St)[1]? : Option (Option V)) = some (some (optV x)) := rfl
    have hx2 : (([some (.ref a), some (optV x), some (.ref l)] : L2.St)[2]? : Option (Option V)) = some (some (.ref l)) := rfl
    have hfl : fam.length ≤ cs.length := by
      have := nodup_sub hnd hin
      rwa [List.length_map] at this
    obtain ⟨m, rfl⟩ : ∃ m', m = m' + 1 := ⟨m - 1, by omega⟩
    refine ⟨x.isSome && !(decide (optV x ∈ fam.map V.str)), ?_, fun hb H2 e2 => ?_, fun hb H2 e2 => ?_⟩
    · refine et_and (et_test (ev_is (ev_op (ev_var hx1) ev_c rv_notN) ?_)) fun hs => ?_
      · cases x <;> rfl
      · obtain ⟨y, rfl⟩ := Option.isSome_iff_exists.mp hs
        refine et_test (ev_is (ev_op (ev_var hx1) (ev_var hx2) (rv_niL (sq_of hl') rfl (flat_strs fam))) ?_)
        rw [show optV (some y) = V.str y from rfl, in_strs]
        simp
    · rw [Bool.and_eq_true] at hb
      obtain ⟨y, rfl⟩ := Option.isSome_iff_exists.mp hb.1
      have hy : y ∉ fam := by have := hb.2; simpa [optV] using this
      have hl2 := e2 _ _ hl'
      refine ⟨_, fun σ2 H3 p => ⟨m, Nat.lt_succ_self m, p⟩, ?_⟩
      refine q_app hl2 (ev_var hx2) (ev_var hx1) (by rw [List.length_map]; have := hk.few; omega) fun H3 e3 => ?_
      have eAll : Ex H (upd H3 l (.lst (fam.map V.str ++ [optV (some y)]))) := Ex.mut ((e.trans e2).trans e3) hl
      obtain ⟨kvs, hr1, hr2⟩ := hc.ex eAll
      rcases pairC_look (n := y) hr2 with ⟨g, _⟩ | ⟨c, v, g1, g2, g3⟩
      · have := hx y rfl
        rw [g] at this; cases this
      · obtain ⟨_, t, f2, ms, rfl, g4, _⟩ := g3
        refine s_asg (v := optV c.par) (ev_op (ev_dget (ev_var rfl) (ev_var rfl) hr1 g2) ev_c (rv_ixT g4 (at_of (j := 0) rfl rfl))) fun H4 e4 => ?_
        refine ⟨c.par, fam ++ [y], rfl, eAll.trans e4, ?_, ?_, by rw [List.length_append, List.length_singleton]; omega, ?_, ?_, fun q hq => hk.par y c q g1 hq⟩
        · rw [e4 _ _ upd_same, List.map_append]; rfl
        · rw [← hgo, famGo, if_neg hy]
          have : parOf cs y = c.par := by unfold parOf; rw [g1]; rfl
          rw [this]
        · exact nodup_snoc.mpr ⟨hnd, hy⟩
        · intro q hq
          rcases List.mem_append.mp hq with h | h
          · exact hin q h
          · obtain rfl : q = y := by simpa using h
            exact look_mem (by rw [g1]; rfl)
    · refine s_ret (ev_var hx2) fun H3 e3 => ?_
      have eq : family cs n = fam := by
        rw [← hgo]
        cases x with
        | none => rfl
        | some y =>
          have hy : y ∈ fam := by
            have := hb
            simpa [optV] using this
          rw [famGo, if_pos hy]
      exact k l H3 hl ((e.trans e2).trans e3) (by rw [eq]; exact e3 _ _ (e2 _ _ hl'))
/-! ### rules used in loops -/
theorem s_extT {K : PySem.W.Frag} {σ : L2.St} {H : Hp} {ta te : TE} {D : Ends} {l b : Addr} {xs zs : List V} (hl : H l = some (.lst xs)) (ha : Ev ta σ H (.ref l)) (h : Ev te σ H (.ref b)) (hz : SqT K H b zs) (hn : xs.length + zs.length ≤ 100000)
    (k : ∀ H1, Ex H H1 → D.nx σ (upd H1 l (.lst (xs ++ zs)))) : tDrop (tBM K "list" (rExtT K) ta (tCons te tNil)) D σ H := ha H (Ex.refl H) _ fun H1 e1 =>
  ⟨Or.inl ⟨rfl, xs, sq_of (e1 l _ hl)⟩, h H1 e1 _ fun H2 e2 => ⟨l, b, xs, zs, rfl, rfl, e2 l _ (e1 l _ hl), ex_t (e1.trans e2) hz, sz_of hn, k H2 (e1.trans e2)⟩⟩
theorem s_updD {K : PySem.W.Frag} {σ : L2.St} {H : Hp} {ta te : TE} {D : Ends} {d o : Addr} {kvs more : List (Key × V)} (hd : H d = some (.dK kvs)) (ha : Ev ta σ H (.ref d)) (h : Ev te σ H (.ref o)) (ho : Rd H o (.dK more)) (hne : d ≠ o) (hn : kvs.length + more.length ≤ 100000)
    (k : ∀ H1, Ex H H1 → D.nx σ (upd H1 d (.dK (mergeK kvs more)))) : tDrop (tBM K "dict" rUpdD ta (tCons te tNil)) D σ H := ha H (Ex.refl H) _ fun H1 e1 =>
  ⟨Or.inr (Or.inr (Or.inl ⟨rfl, .inl ⟨kvs, e1 d _ hd⟩⟩)), h H1 e1 _ fun H2 e2 => ⟨d, o, kvs, more, rfl, rfl, hne, e2 d _ (e1 d _ hd), ex_rd (e1.trans e2) ho, sz_of hn, k H2 (e1.trans e2)⟩⟩
/-- for x in reversed(f(..)), a new list -/
theorem q_forRevN {K : PySem.W.Frag} {σ : L2.St} {H : Hp} {D : Ends} {tu tz : TS} {xs : List V} {tl : TE} {j : Nat} (h : EvL tl σ H xs) (Pv : Addr → Nat → L2.St → Hp → Prop) (h0 : ∀ p H1, H p = none → Ex H H1 → H1 p = some (.lst xs) → Pv p 0 σ H1)
    (hl : ∀ p i σ' H', Pv p i σ' H' → SqL K H' p xs) (hs : ∀ p i x σ' H', xs.reverse[i]? = some x → Pv p i σ' H' → tu { D with nx := Pv p (i + 1), ct := Pv p (i + 1), bk := tz D } (σ'.set j (some x)) H')
    (hd : ∀ p σ' H', Pv p xs.length σ' H' → tz D σ' H') : tSeq (tFor (iRev K (tCons tl tNil)) (gName j) tu) tz D σ H :=
  h H (Ex.refl H) _ fun p H1 hp e h1 => ⟨p, xs, rfl, sq_of h1, for_it (D := { D with nx := tz D }) (walk_rev (K := K) (a := p) (xs := xs)) (Pv p) (h0 p H1 hp e h1) (fun i σ' H' _ q => hl p i σ' H' q) (fun i x σ' H' H'' hi q y => by
    obtain ⟨rfl, hy⟩ := y
    exact hs p i x σ' _ (by rw [List.getElem?_reverse hi]; exact hy) q) (hd p)⟩
/-! ### what classes have from their families -/
theorem famGo_mem {cs : List (Str × Cl)} (hk : Known cs) : ∀ (m : Nat) (x : Option Str) (acc : List Str), (∀ y, x = some y → (look cs y).isSome = true) → (∀ y ∈ acc, (look cs y).isSome = true) → ∀ y ∈ famGo cs m x acc, (look cs y).isSome = true
  | 0, _, _, _, ha => ha
  | _ + 1, none, _, _, ha => ha
  | m + 1, some n, acc, hx, ha => by
    unfold famGo
    split
    · exact ha
    · have hn := hx n rfl
      refine famGo_mem hk m _ _ (fun y hy => ?_) (fun y hy => ?_)
      · obtain ⟨c, hc⟩ := Option.isSome_iff_exists.mp hn
        unfold parOf at hy
        rw [hc] at hy
        exact hk.par n c y hc hy
      · rcases List.mem_append.mp hy with h | h
        · exact ha y h
        · obtain rfl : y = n := by simpa using h
          exact hn
theorem famGo_pre {cs : List (Str × Cl)} : ∀ (m : Nat) (x : Option Str) (acc : List Str), ∃ r, famGo cs m x acc = acc ++ r
  | 0, _, acc => ⟨[], (List.append_nil acc).symm⟩
  | _ + 1, none, acc => ⟨[], (List.append_nil acc).symm⟩
  | m + 1, some n, acc => by
    unfold famGo
    split
    · exact ⟨[], (List.append_nil acc).symm⟩
    · obtain ⟨r, h⟩ := famGo_pre (cs := cs) m (parOf cs n) (acc ++ [n])
      exact ⟨n :: r, by rw [h]; simp⟩
theorem famGo_len {cs : List (Str × Cl)} : ∀ (m : Nat) (x : Option Str) (acc : List Str), (famGo cs m x acc).length ≤ acc.length + m
  | 0, _, acc => Nat.le_refl _
  | _ + 1, none, acc => Nat.le_add_right ..
  | m + 1, some n, acc => by
    unfold famGo
    split
    · omega
    · have := famGo_len (cs := cs) m (parOf cs n) (acc ++ [n])
      rw [List.length_append, List.length_singleton] at this
      omega
theorem family_mem {cs : List (Str × Cl)} {n : Str} (hk : Known cs) (hn : (look cs n).isSome = true) : ∀ y ∈ family cs n, (look cs y).isSome = true :=
  famGo_mem hk _ _ _ (fun y hy => by cases hy; exact hn) (by simp)
theorem family_len {cs : List (Str × Cl)} {n : Str} : (family cs n).length ≤ cs.length + 1 := by
  have := famGo_len (cs := cs) (cs.length + 1) (some n) []
  rw [List.length_nil, Nat.zero_add] at this
  exact this
theorem family_head {cs : List (Str × Cl)} {n : Str} : ∃ r, family cs n = n :: r := by
  unfold family famGo
  rw [if_neg (by simp)]
  obtain ⟨r, h⟩ := famGo_pre (cs := cs) cs.length (parOf cs n) ([] ++ [n])
  exact ⟨r, h⟩
def ownOf (cs : List (Str × Cl)) (n : Str) : List Str := ((look cs n).map (·.own)).getD []
def msOf (cs : List (Str × Cl)) (n : Str) : List (Str × Str) := ((look cs n).map (·.ms)).getD []
def allFields (cs : List (Str × Cl)) (n : Str) : List Str := ((family cs n).reverse.map (ownOf cs)).flatten
def allMs (cs : List (Str × Cl)) (n : Str) : List (Key × V) := (family cs n).reverse.foldl (fun acc y => mergeK acc (skv (msOf cs y))) []
def oldest (cs : List (Str × Cl)) (n : Str) : Str := ((family cs n).getLast?).getD n
/-- .. and each has few fields and methods of its own -/
structure Small (cs : List (Str × Cl)) : Prop extends Known cs where
  own : ∀ n c, look cs n = some c → c.own.length ≤ 300
  ms : ∀ n c, look cs n = some c → c.ms.length ≤ 300
theorem repC_at {H : Hp} {a : Addr} {cs : List (Str × Cl)} {n : Str} {c : Cl} (h : RepCs K H a cs) (hn : look cs n = some c) : ∃ kvs v, Rd H a (.dK kvs) ∧ valV kvs (Sum.inr n : Key) = some v ∧ RepC K H (n, c) (Sum.inr n, v) := by
  obtain ⟨kvs, h1, h2⟩ := h
  rcases pairC_look (n := n) h2 with ⟨g, _⟩ | ⟨c', v, g1, g2, g3⟩
  · rw [hn] at g; cases g
  · rw [hn] at g1; cases g1
    exact ⟨kvs, v, h1, g2, g3⟩
def sp_ring (K : PySem.W.Frag) : Sp := PuV fun vs H z => ∃ a n cs, vs = [.ref a, .str n] ∧ z = .bl (parOf cs (oldest cs n)).isSome ∧ RepCs K H a cs ∧ Known cs ∧ (look cs n).isSome = true
theorem v_ring {H : Hp} {a : Addr} {n : Str} {cs : List (Str × Cl)} (h : RepCs K H a cs) (hk : Known cs) (hn : (look cs n).isSome = true) : SpV (sp_ring K) [.ref a, .str n] H (.bl (parOf cs (oldest cs n)).isSome) :=
  spv fun H1 e => ⟨a, n, cs, rfl, rfl, h.ex e, hk, hn⟩
theorem sc_ring : FnScope N_goes_in_a_ring P_goes_in_a_ring (C8.fnScope s_goes_in_a_ring) := fnScope_by (by decide +kernel)
theorem ok_ring (T : Txt w K mg) : Cal P w K mg base 2 "goes_in_a_ring" (sp_ring K) [] := by
  refine mk_cal T.d_goes_in_a_ring sc_ring (fun vs H Q E h => ?_) (fun f cdv A outer s H vs Q E hr h => ?_)
  · obtain ⟨z, ⟨_, _, _, rfl, _⟩, _⟩ := h
    rfl
  · obtain ⟨z, ⟨a, n, cs, rfl, rfl, hc, hk, hn⟩, k⟩ := h
    have hu := hu_of hr
    refine ⟨_, pss_cons (ps_set (i := 2) sc_ring.nd rfl (Or.inl rfl) (pe_ix ix_list (pe_c (ok_family_of T) hr (by decide) (by rfl) (pa_cons (pv 0) (pa_cons (pv 1) pa_nil))) (pe_un un_neg pe_int) (fun _ _ => rfl)))
      (pss_one (ps_ret (pe_cmpR op_notN (pe_ix ix_tup (pe_dget hu (pv 0) (pv 2) (fun _ _ => rfl)) pe_int (fun _ _ => rfl)) pe_non (nomark _)))), ?_⟩
    obtain ⟨r, hf⟩ := family_head (cs := cs) (n := n)
    obtain ⟨o, ho⟩ : ∃ o, (family cs n).getLast? = some o := by rw [hf]; exact ⟨_, List.getLast?_cons⟩
    have eo : oldest cs n = o := by unfold oldest; rw [ho]; rfl
    have hmo : o ∈ family cs n := List.mem_of_getLast? ho
    obtain ⟨c, hco⟩ := Option.isSome_iff_exists.mp (family_mem hk hn o hmo)
    refine q_asg (v := .str o) (ev_opL1 (el_call (ea_cons (ev_var rfl) (ea_cons (ev_var rfl) ea_nil)) (l_family_of hc hk hn)) (fun H1 _ => ev_un ev_c ru_neg) fun p H1 hp _ => rv_ixL (sq_of hp) ?_) fun H1 e1 => ?_
    · obtain ⟨ys, hys⟩ := List.getLast?_eq_some_iff.mp ho
      rw [hys, List.map_append]
      exact atI_last _ _
    · obtain ⟨kvs, v, h1, h2, h3⟩ := repC_at (hc.ex e1) hco
      obtain ⟨_, t, f2, ms, rfl, g4, _⟩ := h3
      refine s_ret (v := .bl (parOf cs (oldest cs n)).isSome) (ev_is (ev_op (ev_op (ev_dget (ev_var rfl) (ev_var rfl) h1 h2) ev_c (rv_ixT g4 (at_of (j := 0) rfl rfl))) ev_c rv_notN) ?_) fun H2 e2 => k H2 (e1.trans e2)
      rw [eo]
      unfold parOf
      rw [hco]
      show V.bl (!decide (optV c.par = V.non)) = V.bl c.par.isSome
      cases c.par <;> rfl
/-! all_fields -/
theorem flat_len {cs : List (Str × Cl)} (hs : Small cs) : ∀ (l : List Str), ((l.map (ownOf cs)).flatten).length ≤ 300 * l.length
  | [] => Nat.le_refl _
  | y :: l => by
    have ih := flat_len hs l
    have h1 : (ownOf cs y).length ≤ 300 := by
      unfold ownOf
      cases h : look cs y with
      | none => exact Nat.zero_le _
      | some c => exact hs.own y c h
    rw [List.map_cons, List.flatten_cons, List.length_append, List.length_cons]
    omega
def sp_all_fields (K : PySem.W.Frag) : Sp := PuU fun vs H xs => ∃ a n cs, vs = [.ref a, .str n] ∧ xs = (allFields cs n).map V.str ∧ RepCs K H a cs ∧ Small cs ∧ (look cs n).isSome = true
theorem u_all_fields {H : Hp} {a : Addr} {n : Str} {cs : List (Str × Cl)} (h : RepCs K H a cs) (hk : Small cs) (hn : (look cs n).isSome = true) : SpU (sp_all_fields K) [.ref a, .str n] H ((allFields cs n).map V.str) :=
  spu fun H1 e => ⟨a, n, cs, rfl, rfl, h.ex e, hk, hn⟩
theorem sc_all_fields : FnScope N_all_fields P_all_fields (C8.fnScope s_all_fields) := fnScope_by (by decide +kernel)
theorem rcu_tupleOf {σ : L2.St} {H : Hp} {te : TE} {l : Addr} {xs : List V} (h : Ev te σ H (.ref l)) (hl : SqL K H l xs) :
    EvU (tCB (fun xs H Q => ∃ p ys, xs = [.ref p] ∧ ((SqL K H p ys ∧ ∀ l, H l = none → Q (.ref l) (upd H l (.tup ys))) ∨ (SqT K H p ys ∧ Q (.ref p) H))) (tCons te tNil)) σ H xs := fun H1 e Q q =>
  h H1 e _ fun H2 e2 => ⟨l, xs, rfl, .inl ⟨ex_l (e.trans e2) hl, fun p hp => q p _ (fresh_back e2 hp) (e2.trans (Ex.new hp)) upd_same⟩⟩
theorem ok_all_fields (T : Txt w K mg) : Cal P w K mg base 2 "all_fields" (sp_all_fields K) [] := by
  refine mk_cal T.d_all_fields sc_all_fields (fun vs H Q E h => ?_) (fun f cdv A outer s H vs Q E hr h => ?_)
  · obtain ⟨z, ⟨_, _, _, rfl, _⟩, _⟩ := h
    rfl
  · obtain ⟨z, ⟨a, n, cs, rfl, rfl, hc, hk, hn⟩, k⟩ := h
    have hu := hu_of hr
    refine ⟨_, pss_cons (ps_set (i := 2) sc_all_fields.nd rfl (Or.inl rfl) (pe_lst pa_nil))
      (pss_cons (ps_for PassesOwn.never rfl (pi_reversed (by rfl) T.revT (pa_cons (pe_c (ok_family_of T) hr (by decide) (by rfl) (pa_cons (pv 0) (pa_cons (pv 1) pa_nil))) pa_nil)) (pg_name (i := 3) sc_all_fields.nd rfl (Or.inl rfl))
        (pss_one (ps_expr (pe_bm PySem.F.plainAttrs_list PySem.F.slot_list_extend PySem.F.type_list_extend mt_extT (pv 2) (pa_cons (pe_ix ix_tup (pe_dget hu (pv 0) (pv 3) (fun _ _ => rfl)) pe_int (fun _ _ => rfl)) pa_nil)))))
      (pss_one (ps_ret (pe_callTy call_tuple_of (by rfl) T.tupT (by decide +kernel) (pa_cons (pv 2) pa_nil))))), ?_⟩
    refine q_asgL (el_lst ea_nil (by decide)) fun l H1 hl e1 h1 => ?_
    have hmem : ∀ y ∈ (family cs n).reverse, (look cs y).isSome = true := fun y hy => family_mem hk.toKnown hn y (List.mem_reverse.mp hy)
    refine q_forRevN (el_call (ea_cons (ev_var rfl) (ea_cons (ev_var rfl) ea_nil)) (l_family_of (hc.ex e1) hk.toKnown hn))
      (fun p i σ' H' => ∃ v, σ' = [some (.ref a), some (.str n), some (.ref l), v] ∧ Ex H H' ∧ p ≠ l ∧ H' p = some (.lst ((family cs n).map V.str)) ∧ H' l = some (.lst ((((family cs n).reverse.take i).map (ownOf cs)).flatten.map V.str)))
      (fun p H2 hp e2 h2 => ⟨none, rfl, e1.trans e2, (fun z => by subst z; rw [h1] at hp; cases hp), h2, e2 _ _ h1⟩) (fun p i σ' H' ⟨_, _, _, _, h, _⟩ => sq_of h) ?_ ?_
    · rintro p i x σ' H' hx ⟨v, rfl, e, hpl, hp, hl'⟩
      obtain ⟨y, hy, rfl⟩ : ∃ y, (family cs n).reverse[i]? = some y ∧ x = .str y := by
        rw [← List.map_reverse, List.getElem?_map] at hx
        cases hh : (family cs n).reverse[i]? with
        | none => rw [hh] at hx; cases hx
        | some y => rw [hh] at hx; exact ⟨y, rfl, (Option.some.inj hx).symm⟩
      obtain ⟨c, hcy⟩ := Option.isSome_iff_exists.mp (hmem y (List.mem_of_getElem? hy))
      obtain ⟨kvs, v2, g1, g2, g3⟩ := repC_at (hc.ex e) hcy
      obtain ⟨_, t, f2, ms, rfl, g4, g5, _⟩ := g3
      have own_y : ownOf cs y = c.own := by unfold ownOf; rw [hcy]; rfl
      refine s_extT hl' (ev_var rfl) (ev_op (ev_dget (ev_var rfl) (ev_var rfl) g1 g2) ev_c (rv_ixT g4 (at_of (j := 2) rfl rfl))) g5 ?_ fun H2 e2 => ?_
      · have a1 := flat_len hk ((family cs n).reverse.take i)
        have a2 : ((family cs n).reverse.take i).length ≤ (family cs n).length := by rw [List.length_take, List.length_reverse]; exact Nat.min_le_right ..
        have a3 := family_len (cs := cs) (n := n)
        have a4 := hk.few
        have a5 := hk.own y c hcy
        rw [List.length_map, List.length_map]
        show _ + c.own.length ≤ _
        omega
      · refine ⟨_, rfl, Ex.mut (e.trans e2) hl, hpl, by rw [upd_ne hpl]; exact e2 _ _ hp, ?_⟩
        rw [upd_same, List.take_add_one, hy, Option.toList_some, List.map_append, List.flatten_append, List.map_append, List.map_singleton, List.flatten_singleton, own_y]
    · rintro p σ' H' ⟨v, rfl, e, hpl, hp, hl'⟩
      refine s_retU (rcu_tupleOf (ev_var rfl) (sq_of hl')) fun q H2 hq e2 h2 => ?_
      rw [List.length_map, List.take_of_length_le (by rw [List.length_reverse]; exact Nat.le_refl _)] at h2
      exact k q H2 (fresh_back e hq) (e.trans e2) h2
/-! all_methods -/
theorem msOf_len {cs : List (Str × Cl)} (hs : Small cs) (y : Str) : (skv (msOf cs y)).length ≤ 300 := by
  unfold skv msOf
  rw [List.length_map]
  cases h : look cs y with
  | none => exact Nat.zero_le _
  | some c => exact hs.ms y c h
theorem foldMs_len {cs : List (Str × Cl)} (hs : Small cs) : ∀ (l : List Str) (acc : List (Key × V)), (l.foldl (fun acc y => mergeK acc (skv (msOf cs y))) acc).length ≤ acc.length + 300 * l.length
  | [], acc => Nat.le_refl _
  | y :: l, acc => by
    have ih := foldMs_len hs l (mergeK acc (skv (msOf cs y)))
    have h1 := length_mergeK (skv (msOf cs y)) acc
    have h2 := msOf_len hs y
    rw [List.foldl_cons, List.length_cons]
    omega
def RetD (kvs : List (Key × V)) (H : Hp) (Q : VK) : Prop := ∀ p H2, H p = none → Ex H H2 → H2 p = some (.dK kvs) → Q (.ref p) H2
def PuD (R : List V → Hp → List (Key × V) → Prop) : Sp := fun vs H Q _ => ∃ xs, R vs H xs ∧ RetD xs H Q
def EvD (te : TE) (σ : L2.St) (H : Hp) (kvs : List (Key × V)) : Prop := ∀ H1, Ex H H1 → ∀ Q : VK, (∀ p H2, H1 p = none → Ex H1 H2 → H2 p = some (.dK kvs) → Q (.ref p) H2) → te σ H1 Q
def SpD (sp : Sp) (vs : List V) (H : Hp) (kvs : List (Key × V)) : Prop := ∀ H1, Ex H H1 → ∀ Q : VK, (∀ p H2, H1 p = none → Ex H1 H2 → H2 p = some (.dK kvs) → Q (.ref p) H2) → ∀ E : XK, sp vs H1 Q E
theorem spd {R : List V → Hp → List (Key × V) → Prop} {vs : List V} {H : Hp} {kvs : List (Key × V)} (h : ∀ H1, Ex H H1 → R vs H1 kvs) : SpD (PuD R) vs H kvs := fun H1 e Q q _ => ⟨kvs, h H1 e, q⟩
theorem ed_call {σ : L2.St} {H : Hp} {sp : Sp} {dvs vs : List V} {kvs : List (Key × V)} {E : XK} {ta : TA} (h : EvA ta σ H vs) (hs : SpD sp (vs ++ dvs) H kvs) : EvD (tCall sp dvs E ta) σ H kvs := fun H1 e Q q =>
  h H1 e _ fun H2 e2 => hs H2 (e.trans e2) Q (fun p H3 hp e3 h3 => q p H3 (fresh_back e2 hp) (e2.trans e3) h3) E
theorem ed_new {σ : L2.St} {H : Hp} : EvD tDNewK σ H [] := fun H1 e Q q => fun p hp => q p _ hp (Ex.new hp) upd_same
theorem q_asgD {σ : L2.St} {H : Hp} {D : Ends} {te : TE} {tz : TS} {i : Nat} {kvs : List (Key × V)} (h : EvD te σ H kvs) (k : ∀ p H1, H p = none → Ex H H1 → H1 p = some (.dK kvs) → tz D (σ.set i (some (.ref p))) H1) : tSeq (tAsg te (gName i)) tz D σ H :=
  h H (Ex.refl H) _ fun p H1 hp e h1 => k p H1 hp e h1
def sp_all_methods (K : PySem.W.Frag) : Sp := PuD fun vs H kvs => ∃ a n cs, vs = [.ref a, .str n] ∧ kvs = allMs cs n ∧ RepCs K H a cs ∧ Small cs ∧ (look cs n).isSome = true
theorem d_all_methods {H : Hp} {a : Addr} {n : Str} {cs : List (Str × Cl)} (h : RepCs K H a cs) (hk : Small cs) (hn : (look cs n).isSome = true) : SpD (sp_all_methods K) [.ref a, .str n] H (allMs cs n) :=
  spd fun H1 e => ⟨a, n, cs, rfl, rfl, h.ex e, hk, hn⟩
theorem sc_all_methods : FnScope N_all_methods P_all_methods (C8.fnScope s_all_methods) := fnScope_by (by decide +kernel)
theorem ok_all_methods (T : Txt w K mg) : Cal P w K mg base 2 "all_methods" (sp_all_methods K) [] := by
  refine mk_cal T.d_all_methods sc_all_methods (fun vs H Q E h => ?_) (fun f cdv A outer s H vs Q E hr h => ?_)
  · obtain ⟨z, ⟨_, _, _, rfl, _⟩, _⟩ := h
    rfl
  · obtain ⟨z, ⟨a, n, cs, rfl, rfl, hc, hk, hn⟩, k⟩ := h
    have hu := hu_of hr
    refine ⟨_, pss_cons (ps_set (i := 2) sc_all_methods.nd rfl (Or.inl rfl) pe_dnewK)
      (pss_cons (ps_for PassesOwn.never rfl (pi_reversed (by rfl) T.revT (pa_cons (pe_c (ok_family_of T) hr (by decide) (by rfl) (pa_cons (pv 0) (pa_cons (pv 1) pa_nil))) pa_nil)) (pg_name (i := 3) sc_all_methods.nd rfl (Or.inl rfl))
        (pss_one (ps_expr (pe_bm PySem.F.plainAttrs_dict PySem.F.slot_dict_update F.type_dict_update mt_updD (pv 2) (pa_cons (pe_ix ix_tup (pe_dget hu (pv 0) (pv 3) (fun _ _ => rfl)) pe_int (fun _ _ => rfl)) pa_nil)))))
      (pss_one (ps_ret (pv 2)))), ?_⟩
    refine q_asgD ed_new fun l H1 hl e1 h1 => ?_
    have hmem : ∀ y ∈ (family cs n).reverse, (look cs y).isSome = true := fun y hy => family_mem hk.toKnown hn y (List.mem_reverse.mp hy)
    refine q_forRevN (el_call (ea_cons (ev_var rfl) (ea_cons (ev_var rfl) ea_nil)) (l_family_of (hc.ex e1) hk.toKnown hn))
      (fun p i σ' H' => ∃ v, σ' = [some (.ref a), some (.str n), some (.ref l), v] ∧ Ex H H' ∧ p ≠ l ∧ H' p = some (.lst ((family cs n).map V.str)) ∧ H' l = some (.dK (((family cs n).reverse.take i).foldl (fun acc y => mergeK acc (skv (msOf cs y))) [])))
      (fun p H2 hp e2 h2 => ⟨none, rfl, e1.trans e2, (fun z => by subst z; rw [h1] at hp; cases hp), h2, e2 _ _ h1⟩) (fun p i σ' H' ⟨_, _, _, _, h, _⟩ => sq_of h) ?_ ?_
    · rintro p i x σ' H' hx ⟨v, rfl, e, hpl, hp, hl'⟩
      obtain ⟨y, hy, rfl⟩ : ∃ y, (family cs n).reverse[i]? = some y ∧ x = .str y := by
        rw [← List.map_reverse, List.getElem?_map] at hx
        cases hh : (family cs n).reverse[i]? with
        | none => rw [hh] at hx; cases hx
        | some y => rw [hh] at hx; exact ⟨y, rfl, (Option.some.inj hx).symm⟩
      obtain ⟨c, hcy⟩ := Option.isSome_iff_exists.mp (hmem y (List.mem_of_getElem? hy))
      obtain ⟨kvs, v2, g1, g2, g3⟩ := repC_at hc hcy
      obtain ⟨_, t, f2, ms, rfl, g4, _, g6⟩ := g3
      have own_y : msOf cs y = c.ms := by unfold msOf; rw [hcy]; rfl
      have hne : l ≠ ms := fun z => by
        subst z
        rw [hl] at g6; cases g6
      replace g1 := ex_rd e g1
      replace g4 := ex_t e g4
      replace g6 := e _ _ g6
      refine s_updD hl' (ev_var rfl) (ev_op (ev_dget (ev_var rfl) (ev_var rfl) g1 g2) ev_c (rv_ixT g4 (at_of (j := 3) rfl rfl))) (.inl g6) hne ?_ fun H2 e2 => ?_
      · have a1 := foldMs_len hk ((family cs n).reverse.take i) []
        have a2 : ((family cs n).reverse.take i).length ≤ (family cs n).length := by rw [List.length_take, List.length_reverse]; exact Nat.min_le_right ..
        have a3 := family_len (cs := cs) (n := n)
        have a4 := hk.few
        have a5 := hk.ms y c hcy
        have a6 : (skv c.ms).length = c.ms.length := by unfold skv; rw [List.length_map]
        rw [List.length_nil] at a1
        show _ + (skv c.ms).length ≤ _
        omega
      · refine ⟨_, rfl, Ex.mut (e.trans e2) hl, hpl, by rw [upd_ne hpl]; exact e2 _ _ hp, ?_⟩
        rw [upd_same, List.take_add_one, hy, Option.toList_some, List.foldl_append, List.foldl_cons, List.foldl_nil, own_y]
    · rintro p σ' H' ⟨v, rfl, e, hpl, hp, hl'⟩
      refine s_ret (ev_var rfl) fun H2 e2 => ?_
      rw [List.length_map, List.take_of_length_le (by rw [List.length_reverse]; exact Nat.le_refl _)] at hl'
      exact k l H2 hl (e.trans e2) (e2 _ _ hl')
end
end EE
set_option Elab.async false
set_option linter.all false
set_option maxRecDepth 100000
set_option maxHeartbeats 4000000
namespace EE
open PySem L2 Evl
open C8 (Cal cal0 pe_c pe_gc fnScope_by)
def OkNm (z : Str) : Prop := isNm z = true ∧ z.length ≤ sizeLine
structure RightCl (cs : List (Str × Cl)) (c : Cl) : Prop where
  par : ∀ q, c.par = some q → OkNm q ∧ (look cs q).isSome = true
  lvl : 1 ≤ c.lvl ∧ c.lvl ≤ 2
  own : (∀ z ∈ c.own, OkNm z) ∧ c.own.Nodup ∧ c.own.length ≤ 3
  ms : (∀ p ∈ c.ms, OkNm p.1 ∧ OkNm p.2) ∧ c.ms.length ≤ 300
theorem NmVs.ok {K : PySem.W.Frag} {H : Hp} : ∀ {zs : List Str}, (∀ z ∈ zs, OkNm z) → NmVs K H (zs.map V.str) (zs.map fun _ => true)
  | [], _ => .nil
  | z :: zs, h => .cons (.inl ⟨z, rfl, (h z List.mem_cons_self).2, ((h z List.mem_cons_self).1).symm⟩) (NmVs.ok fun y hy => h y (List.mem_cons_of_mem _ hy))
theorem consts_bl {α : Type} (l : List α) (b : Bool) : (l.map fun _ => V.bl b) = (l.map fun _ => b).map V.bl := by rw [List.map_map]; rfl
theorem all_true {α : Type} : ∀ (l : List α), (l.map fun _ => true).all id = true
  | [] => rfl
  | _ :: l => by rw [List.map_cons, List.all_cons, all_true l]; rfl
section
variable {K : PySem.W.Frag} {σ : L2.St} {H H' : Hp} {ta tb te : TE} {t u : TT} {x y z v : V}
theorem et_orF (h1 : EvT t σ H false) (h2 : EvT u σ H false) : EvT (tOr t u) σ H false := et_or (a := false) (b := false) h1 fun _ => h2
theorem et_notT (h : EvT t σ H true) : EvT (tNot t) σ H false := et_not (a := true) h
theorem ev_andT (h1 : Ev ta σ H (.bl true)) (h2 : Ev tb σ H (.bl true)) : Ev (tAndV ta tb) σ H (.bl true) := ev_andV (a := true) (b := true) h1 fun _ => h2
theorem q_no {D : Ends} {tu tz : TS} (h : EvT t σ H false) (k : ∀ H1, Ex H H1 → tz D σ H1) : tSeq (tIfS t tu tNext) tz D σ H := q_when (b := false) h (fun z => nomatch z) fun _ => k
theorem rc_lenD {a : Addr} {kvs : List (Key × V)} (h : H a = some (.dK kvs)) : RC (fun xs H Q => ∃ a kvs, xs = [V.ref a] ∧ H a = some (.dK kvs) ∧ Q (.int kvs.length) H) [.ref a] H (.int (kvs.length : Nat)) :=
  fun H1 e Q q => ⟨a, kvs, rfl, e _ _ h, q H1 (Ex.refl H1)⟩
theorem q_asgT4 {D : Ends} {tz : TS} {a : Addr} {x1 x2 x3 x4 : V} {i1 i2 i3 i4 : Nat} (h : Ev te σ H (.ref a)) (ha : SqT K H a [x1, x2, x3, x4]) (k : ∀ H1, Ex H H1 → tz D ((((σ.set i1 (some x1)).set i2 (some x2)).set i3 (some x3)).set i4 (some x4)) H1) :
    tSeq (tAsg te (gTup K 4 (gCons (gName i1) (gCons (gName i2) (gCons (gName i3) (gCons (gName i4) gNil)))))) tz D σ H := h H (Ex.refl H) _ fun H1 e => ⟨a, _, rfl, ex_t e ha, rfl, _, _, rfl, _, _, rfl, _, _, rfl, _, _, rfl, rfl, k H1 e⟩
theorem q_asgT3 {D : Ends} {tz : TS} {a : Addr} {x1 x2 x3 : V} {i1 i2 i3 : Nat} (h : Ev te σ H (.ref a)) (ha : SqT K H a [x1, x2, x3]) (k : ∀ H1, Ex H H1 → tz D (((σ.set i1 (some x1)).set i2 (some x2)).set i3 (some x3)) H1) :
    tSeq (tAsg te (gTup K 3 (gCons (gName i1) (gCons (gName i2) (gCons (gName i3) gNil))))) tz D σ H := h H (Ex.refl H) _ fun H1 e => ⟨a, _, rfl, ex_t e ha, rfl, _, _, rfl, _, _, rfl, _, _, rfl, rfl, k H1 e⟩
theorem et_andF2 {b : Bool} (h1 : EvT t σ H b) (h2 : b = true → EvT u σ H false) : EvT (tAnd t u) σ H false := et_is (et_and h1 h2) (Bool.and_false _)
/-- f(x, t), t a new tuple -/
theorem ev_callU2 {sp : Sp} {xs : List V} {E : XK} (ha : Ev ta σ H x) (hb : EvU tb σ H xs) (hs : ∀ p H1, Ex H H1 → H1 p = some (.tup xs) → SpV sp [x, .ref p] H1 z) : Ev (tCall sp [] E (tCons ta (tCons tb tNil))) σ H z := fun H1 e Q q =>
  ha H1 e _ fun H2 e2 => hb H2 (e.trans e2) _ fun p H3 _ e3 h3 => hs p H3 ((e.trans e2).trans e3) h3 H3 (Ex.refl H3) Q (fun H4 e4 => q H4 ((e2.trans e3).trans e4)) E
theorem et_B' {b : Bool} (h : Ev te σ H (.bl b)) : EvT (tB te) σ H b := et_B h
theorem et_cmp {t : TE} {b : Bool} (h : Ev t σ H (.bl b)) : EvT (tB t) σ H b := et_B h
end
section
variable {P : Program} {w : World} {K : PySem.W.Frag} {mg : Str → Option Value} {base : Heap}
def sp_is_class (K : PySem.W.Frag) : Sp := PuV fun vs H z => ∃ a v n c cs, vs = [.ref a, v] ∧ z = .bl true ∧ RepCs K H a cs ∧ RepC K H (n, c) (Sum.inr n, v) ∧ RightCl cs c
theorem v_is_class {H : Hp} {a : Addr} {v : V} {n : Str} {c : Cl} {cs : List (Str × Cl)} (h : RepCs K H a cs) (hc : RepC K H (n, c) (Sum.inr n, v)) (hr : RightCl cs c) : SpV (sp_is_class K) [.ref a, v] H (.bl true) :=
  spv fun H1 e => ⟨a, v, n, c, cs, rfl, rfl, h.ex e, hc.ex e, hr⟩
theorem sc_is_class : FnScope N_is_class P_is_class (C8.fnScope s_is_class) := fnScope_by (by decide +kernel)
theorem ok_is_class (T : Txt w K mg) : Cal P w K mg base 5 "is_class" (sp_is_class K) [] := by
  refine mk_cal T.d_is_class sc_is_class (fun vs H Q E h => ?_) (fun f cdv A outer s H vs Q E hr h => ?_)
  · obtain ⟨z, ⟨_, _, _, _, _, rfl, _⟩, _⟩ := h
    rfl
  · obtain ⟨z, ⟨a, v, n, c, cs, rfl, rfl, hcs, hc, hok⟩, k⟩ := h
    have hu := hu_of hr
    obtain ⟨_, t, fl, m, rfl, g1, g2, g3⟩ := hc
    have nd := sc_is_class.nd
    refine ⟨_, pss_cons (ps_if (PW.pt (pw_or (pt_not (pt_val (pe_callB call_isi (by rfl) T.isi (by decide +kernel) (pa_cons (pv 1) (pa_cons (pe_bltn (v := .ty "tuple") (by rfl) T.tupT (u := .type "tuple") (by decide +kernel) (by rfl)) pa_nil)))))
        (pw_or1 (pt_cmpR op_ne (pe_callB call_len_seq (by rfl) T.len (by decide +kernel) (pa_cons (pv 1) pa_nil)) pe_int (nomark _))))) (pss_one (ps_ret pe_bl)) pss_nil)
      (pss_cons (ps_asg (pv 1) (pg_tup (by rfl) (pgs_cons (pg_name (i := 2) nd rfl (Or.inl rfl)) (pgs_cons (pg_name (i := 3) nd rfl (Or.inl rfl)) (pgs_cons (pg_name (i := 4) nd rfl (Or.inl rfl)) (pgs_cons (pg_name (i := 5) nd rfl (Or.inl rfl)) pgs_nil))))))
      (pss_cons (ps_if (PW.pt (pw_and (pt_cmpR op_notN (pv 2) pe_non (nomark _)) (pw_and1 (pt_not (PW.pt (pw_and (pt_val (pe_c (ok_is_name T) hr (by decide) (by rfl) (pa_cons (pv 2) pa_nil))) (pw_and1 (pt_cmp (pc_din hu (pv 2) (pv 0)))))))))) (pss_one (ps_ret pe_bl)) pss_nil)
      (pss_one (ps_ret (pe_and (pe_c (ok_between T) hr (by decide) (by rfl) (pa_cons pe_int (pa_cons pe_int (pa_cons (pv 3) pa_nil))))
        (pe_and (pe_c (ok_is_dict_of_names T) hr (by decide) (by rfl) (pa_cons (pv 5) pa_nil))
        (pe_one (pe_c (ok_unlike T) hr (by decide) (by rfl) (pa_cons (pe_gc (by rfl) T.c_MOST_OWN_FIELDS) (pa_cons (pv 4) pa_nil)))))))))), ?_⟩
    refine q_no (et_orF (et_notT (et_B (ev_cb (ea_cons (ev_var rfl) (ea_cons ev_c ea_nil)) (rc_isi (.ty "tuple") (tyx_sqT g1) (kit_ty (by decide +kernel)))))) (et_test (ev_is (ev_op (ev_cb (ea_cons (ev_var rfl) ea_nil) (rc_lenS (.inr g1))) ev_c (rv_ne rfl)) (by simp)))) fun H1 e1 => ?_
    replace g1 := ex_t e1 g1
    replace hcs := hcs.ex e1
    refine q_asgT4 (ev_var rfl) g1 fun H2 e2 => ?_
    replace g2 := ex_t (e1.trans e2) g2
    replace g3 := (e1.trans e2) _ _ g3
    replace hcs := hcs.ex e2
    refine q_no (et_andF2 (et_test (ev_op (ev_var rfl) ev_c rv_notN)) fun hp => et_notT ?_) fun H3 e3 => ?_
    · obtain ⟨q, hq⟩ : ∃ q, c.par = some q := by
        have hp : (!decide (optV c.par = V.non)) = true := hp
        cases h : c.par with
        | none => rw [h] at hp; cases hp
        | some q => exact ⟨q, rfl⟩
      have hv : optV c.par = .str q := by rw [hq]; rfl
      obtain ⟨⟨n1, n2⟩, n3⟩ := hok.par q hq
      refine et_and (a := true) (b := true) (et_B (ev_call (ea_cons (ev_var (show _ = some (some (V.str q)) by rw [← hv]; rfl)) ea_nil) (v_is_name (.inl ⟨q, rfl, n2, n1.symm⟩)))) fun _ => ?_
      obtain ⟨kvs, h1, h2⟩ := hcs
      rcases pairC_look (n := q) h2 with ⟨g, _⟩ | ⟨c', v', _, k2, _⟩
      · rw [g] at n3; cases n3
      · exact et_is (et_B (et_din (k := Sum.inr q) (ev_var (show _ = some (some (V.str q)) by rw [← hv]; rfl)) (ev_var rfl) h1)) (by rw [k2]; rfl)
    · refine s_ret (v := .bl true) (ev_andT ?_ (ev_andT ?_ ?_)) fun H4 e4 => k H4 (((e1.trans e2).trans e3).trans e4)
      · refine ev_is (ev_call (ea_cons ev_c (ea_cons ev_c (ea_cons (ev_var rfl) ea_nil))) (v_between (.inl ⟨c.lvl, rfl, rfl⟩))) ?_
        show V.bl (decide (1 ≤ c.lvl) && decide (c.lvl ≤ 2)) = .bl true
        simp [hok.lvl.1, hok.lvl.2]
      · refine ev_is (ev_call (ea_cons (ev_var rfl) ea_nil) (v_is_dict_of_names (o := some (skv c.ms)) (ks := c.ms.map fun _ => true) (bs := c.ms.map fun _ => true) ⟨.inl ⟨m, _, rfl, e3 _ _ g3, rfl⟩, fun kvs hk => ?_⟩)) ?_
        · cases hk
          have a1 : ((skv c.ms).map fun p => kV p.1) = (c.ms.map (·.1)).map V.str := by unfold skv; rw [List.map_map, List.map_map]; rfl
          have a2 : ((skv c.ms).map fun p => p.2) = (c.ms.map (·.2)).map V.str := by unfold skv; rw [List.map_map, List.map_map]; rfl
          rw [a1, a2]
          have b1 := NmVs.ok (K := K) (H := H3) (zs := c.ms.map (·.1)) fun z hz => by
            obtain ⟨p, hp, rfl⟩ := List.mem_map.mp hz
            exact (hok.ms.1 p hp).1
          have b2 := NmVs.ok (K := K) (H := H3) (zs := c.ms.map (·.2)) fun z hz => by
            obtain ⟨p, hp, rfl⟩ := List.mem_map.mp hz
            exact (hok.ms.1 p hp).2
          have c1 : ((c.ms.map (·.1)).map fun _ => true) = c.ms.map fun _ => true := by rw [List.map_map]; rfl
          have c2 : ((c.ms.map (·.2)).map fun _ => true) = c.ms.map fun _ => true := by rw [List.map_map]; rfl
          rw [c1] at b1
          rw [c2] at b2
          refine ⟨b1, b2, ?_⟩
          unfold skv; rw [List.length_map]; have := hok.ms.2; omega
        · show V.bl (true && ((c.ms.map fun _ => true).all id && (c.ms.map fun _ => true).all id)) = .bl true
          rw [all_true]; rfl
      · refine ev_is (ev_call (ea_cons ev_c (ea_cons (ev_var rfl) ea_nil)) (v_unlike (o := some (c.own.map V.str)) (bs := c.own.map fun _ => true) (by decide) ⟨.inl ⟨fl, _, rfl, ex_t e3 g2, rfl⟩, fun xs hx => ?_⟩)) ?_
        · cases hx
          exact ⟨NmVs.ok hok.own.1, by rw [List.length_map]; have := hok.own.2.2; omega⟩
        · show V.bl ((true && (decide (((c.own.map V.str).length : Int) ≤ 3) && (c.own.map fun _ => true).all id)) && decide (((c.own.map V.str).map unV).Nodup)) = .bl true
          rw [all_true, un_map, List.length_map]
          have := hok.own.2.2
          simp [hok.own.2.1, this]
          omega
/-! has_right_family -/
structure RightFam (cs : List (Str × Cl)) (n : Str) : Prop where
  ring : parOf cs (oldest cs n) = none
  nd : (allFields cs n).Nodup
  len : (allFields cs n).length ≤ 4
theorem allFields_ok {cs : List (Str × Cl)} {n : Str} (h : ∀ y c, look cs y = some c → ∀ z ∈ c.own, OkNm z) : ∀ z ∈ allFields cs n, OkNm z := fun z hz => by
  unfold allFields at hz
  obtain ⟨l, hl, hz⟩ := List.mem_flatten.mp hz
  obtain ⟨y, _, rfl⟩ := List.mem_map.mp hl
  unfold ownOf at hz
  cases g : look cs y with
  | none => rw [g] at hz; simp at hz
  | some c => rw [g] at hz; exact h y c g z hz
def sp_fam (K : PySem.W.Frag) : Sp := PuV fun vs H z => ∃ a n cs, vs = [.ref a, .str n] ∧ z = .bl true ∧ RepCs K H a cs ∧ Small cs ∧ (look cs n).isSome = true ∧ RightFam cs n ∧ ∀ y c, look cs y = some c → ∀ z ∈ c.own, OkNm z
theorem v_fam {H : Hp} {a : Addr} {n : Str} {cs : List (Str × Cl)} (h : RepCs K H a cs) (hs : Small cs) (hn : (look cs n).isSome = true) (hf : RightFam cs n) (ho : ∀ y c, look cs y = some c → ∀ z ∈ c.own, OkNm z) : SpV (sp_fam K) [.ref a, .str n] H (.bl true) :=
  spv fun H1 e => ⟨a, n, cs, rfl, rfl, h.ex e, hs, hn, hf, ho⟩
theorem sc_fam : FnScope N_has_right_family P_has_right_family (C8.fnScope s_has_right_family) := fnScope_by (by decide +kernel)
theorem ok_fam (T : Txt w K mg) : Cal P w K mg base 5 "has_right_family" (sp_fam K) [] := by
  refine mk_cal T.d_has_right_family sc_fam (fun vs H Q E h => ?_) (fun f cdv A outer s H vs Q E hr h => ?_)
  · obtain ⟨z, ⟨_, _, _, rfl, _⟩, _⟩ := h
    rfl
  · obtain ⟨z, ⟨a, n, cs, rfl, rfl, hc, hs, hn, hf, ho⟩, k⟩ := h
    refine ⟨_, pss_cons (ps_if (pt_val (pe_c (ok_ring T) hr (by decide) (by rfl) (pa_cons (pv 0) (pa_cons (pv 1) pa_nil)))) (pss_one (ps_ret pe_bl)) pss_nil)
      (pss_one (ps_ret (pe_c (ok_unlike T) hr (by decide) (by rfl) (pa_cons (pe_gc (by rfl) T.c_MOST_FIELDS) (pa_cons (pe_c (ok_all_fields T) hr (by decide) (by rfl) (pa_cons (pv 0) (pa_cons (pv 1) pa_nil))) pa_nil))))), ?_⟩
    refine q_no (et_is (et_B (ev_call (ea_cons (ev_var rfl) (ea_cons (ev_var rfl) ea_nil)) (v_ring hc hs.toKnown hn))) (by rw [hf.ring]; rfl)) fun H1 e1 => ?_
    replace hc := hc.ex e1
    refine s_ret (v := .bl true) ?_ fun H2 e2 => k H2 (e1.trans e2)
    refine ev_callU2 ev_c (eu_call (ea_cons (ev_var rfl) (ea_cons (ev_var rfl) ea_nil)) (u_all_fields hc hs hn)) fun p H2 e2 h2 => ?_
    have er : tupUn 4 (some ((allFields cs n).map V.str)) ((allFields cs n).map fun _ => true) = true := by
      show ((true && (decide ((((allFields cs n).map V.str).length : Int) ≤ 4) && ((allFields cs n).map fun _ => true).all id)) && decide ((((allFields cs n).map V.str).map unV).Nodup)) = true
      rw [all_true, un_map, List.length_map]
      have := hf.len
      simp [hf.nd]
      omega
    have z := v_unlike (K := K) (H := H2) (most := 4) (v := .ref p) (o := some ((allFields cs n).map V.str)) (bs := (allFields cs n).map fun _ => true) (by decide) ⟨.inl ⟨p, _, rfl, st_of h2, rfl⟩, fun xs hx => by
      cases hx
      exact ⟨NmVs.ok (allFields_ok ho), by rw [List.length_map]; have := hf.len; omega⟩⟩
    rw [er] at z
    exact z
/-! are_classes -/
structure Right (cs : List (Str × Cl)) : Prop where
  six : cs.length ≤ 6
  nm : ∀ c ∈ cs, OkNm c.1 ∧ c.1 ∉ (["word", "row", "kept"] : List Str)
  nd : (cs.map (·.1)).Nodup
  cl : ∀ c ∈ cs, RightCl cs c.2
  fam : ∀ c ∈ cs, RightFam cs c.1
theorem look_in {cs : List (Str × Cl)} {n : Str} {c : Cl} (h : look cs n = some c) : (n, c) ∈ cs := by
  unfold look at h
  cases g : cs.find? (fun c => decide (c.1 = n)) with
  | none => rw [g] at h; cases h
  | some p =>
    rw [g] at h
    have h1 := List.mem_of_find?_eq_some g
    have h2 : p.1 = n := by have := List.find?_some g; simpa using this
    cases h
    subst h2
    exact h1
theorem Right.small {cs : List (Str × Cl)} (h : Right cs) : Small cs where
  few := by have := h.six; omega
  par := fun n c q hn hq => ((h.cl _ (look_in hn)).par q hq).2
  own := fun n c hn => by have : c.own.length ≤ 3 := (h.cl _ (look_in hn)).own.2.2; omega
  ms := fun n c hn => (h.cl _ (look_in hn)).ms.2
theorem Right.owns {cs : List (Str × Cl)} (h : Right cs) : ∀ y c, look cs y = some c → ∀ z ∈ c.own, OkNm z := fun y c hy => (h.cl _ (look_in hy)).own.1
theorem look_some {cs : List (Str × Cl)} {n : Str} (h : n ∈ cs.map (·.1)) : (look cs n).isSome = true := by
  unfold look
  rw [Option.isSome_map, List.find?_isSome]
  obtain ⟨c, hc, e⟩ := List.mem_map.mp h
  exact ⟨c, hc, decide_eq_true e⟩
theorem pairC_keys {H : Hp} : ∀ {cs : List (Str × Cl)} {kvs : List (Key × V)}, Paired (RepC K H) cs kvs → (kvs.map fun p => kV p.1) = (cs.map (·.1)).map V.str
  | [], [], .nil => rfl
  | c :: cs, p :: kvs, .cons h t => by
    rw [List.map_cons, List.map_cons, List.map_cons, pairC_keys t, h.1]
    rfl
theorem pairC_get {H : Hp} : ∀ {cs : List (Str × Cl)} {kvs : List (Key × V)} {i : Nat} {v : V}, Paired (RepC K H) cs kvs → (kvs.map fun p => p.2)[i]? = some v → ∃ c, cs[i]? = some c ∧ RepC K H c (Sum.inr c.1, v)
  | [], [], _, _, .nil, h => by simp at h
  | c :: cs, p :: kvs, 0, v, .cons h t, hv => by
    simp at hv
    subst hv
    refine ⟨c, rfl, ?_⟩
    have := h.1
    obtain ⟨p1, p2⟩ := p
    simp only at this
    subst this
    exact h
  | c :: cs, p :: kvs, i + 1, v, .cons _ t, hv => by
    obtain ⟨c', h1, h2⟩ := pairC_get (i := i) t (by simpa using hv)
    exact ⟨c', by simpa using h1, h2⟩
def RepD (K : PySem.W.Frag) (H : Hp) (a : Addr) (cs : List (Str × Cl)) : Prop := ∃ kvs, H a = some (.dK kvs) ∧ Paired (RepC K H) cs kvs
theorem RepD.ex {H H' : Hp} {a : Addr} {cs : List (Str × Cl)} (e : Ex H H') (h : RepD K H a cs) : RepD K H' a cs := by
  obtain ⟨kvs, h1, h2⟩ := h
  exact ⟨kvs, e _ _ h1, pairC_ex e h2⟩
theorem RepD.rd {H : Hp} {a : Addr} {cs : List (Str × Cl)} (h : RepD K H a cs) : RepCs K H a cs := by
  obtain ⟨kvs, h1, h2⟩ := h
  exact ⟨kvs, .inl h1, h2⟩
def sp_are_classes (K : PySem.W.Frag) : Sp := PuV fun vs H z => ∃ a cs, vs = [.ref a] ∧ z = .bl true ∧ RepD K H a cs ∧ Right cs
theorem v_are_classes {H : Hp} {a : Addr} {cs : List (Str × Cl)} (h : RepD K H a cs) (hr : Right cs) : SpV (sp_are_classes K) [.ref a] H (.bl true) := spv fun H1 e => ⟨a, cs, rfl, rfl, h.ex e, hr⟩
theorem sc_are_classes : FnScope N_are_classes P_are_classes (C8.fnScope s_are_classes) := fnScope_by (by decide +kernel)
theorem len_keys {H : Hp} {cs : List (Str × Cl)} {kvs : List (Key × V)} (h : Paired (RepC K H) cs kvs) : kvs.length = cs.length := (Paired.length h).symm
theorem ok_are_classes (T : Txt w K mg) : Cal P w K mg base 6 "are_classes" (sp_are_classes K) [] := by
  refine mk_cal T.d_are_classes sc_are_classes (fun vs H Q E h => ?_) (fun f cdv A outer s H vs Q E hr h => ?_)
  · obtain ⟨z, ⟨_, _, rfl, _⟩, _⟩ := h
    rfl
  · obtain ⟨z, ⟨a, cs, rfl, rfl, hc, hok⟩, k⟩ := h
    have nd := sc_are_classes.nd
    obtain ⟨ka, mgk, hK⟩ := T.c_KINDS
    refine ⟨_, pss_cons (ps_if (PW.pt (pw_or (pt_not (pt_val (pe_callB call_isi (by rfl) T.isi (by decide +kernel) (pa_cons (pv 0) (pa_cons (pe_bltn (v := .ty "dict") (by rfl) T.dictT (u := .type "dict") (by decide +kernel) (by rfl)) pa_nil)))))
        (pw_or (pt_cmpR op_gt (pe_callB call_lenD (by rfl) T.len (by decide +kernel) (pa_cons (pv 0) pa_nil)) (pe_gc (by rfl) T.c_MOST_CLASSES) (nomark _)) (pw_or1 (pt_not (pt_val (pe_c (ok_are_names T) hr (by decide) (by rfl) (pa_cons (pv 0) pa_nil)))))))) (pss_one (ps_ret pe_bl)) pss_nil)
      (pss_cons (ps_if (pt_val (pe_callB (cr_any rfl) (by rfl) T.any (by decide +kernel) (pa_cons (pe_lock (pe_lc (own := [("name", 1)]) (g := gName 1) (tt := tYes) rfl nd (pi_keys (pv 0)) (blkOk_by (N := N_are_classes) (sc := C8.fnScope s_are_classes) (by decide +kernel))
        (fun _ _ _ _ _ => pg_name (i := 1) nd rfl (Or.inl rfl)) (fun _ _ _ _ _ => pts_nil) (fun _ _ _ _ _ => pe_cmpR (show OpR _ (compareOp .In) (rIn K false) from op_in_seq) (pv 1) (pe_gc (v := .ref ka) (by rfl) ⟨_, mgk, rfl⟩) (by rfl)))) pa_nil))) (pss_one (ps_ret pe_bl)) pss_nil)
      (pss_cons (ps_if (pt_not (pt_val (pe_callB (cr_all rfl) (by rfl) T.all (by decide +kernel) (pa_cons (pe_lock (pe_lc (own := [("told", 2)]) (g := gName 2) (tt := tYes) rfl nd (pi_values (pv 0)) (blkOk_by (N := N_are_classes) (sc := C8.fnScope s_are_classes) (by decide +kernel))
        (fun _ _ _ _ _ => pg_name (i := 2) nd rfl (Or.inl rfl)) (fun _ _ _ _ _ => pts_nil) (fun _ _ _ _ _ => pe_c (ok_is_class T) hr (by decide) (by rfl) (pa_cons (pv 0) (pa_cons (pv 2) pa_nil))))) pa_nil)))) (pss_one (ps_ret pe_bl)) pss_nil)
      (pss_one (ps_ret (pe_callB (cr_all rfl) (by rfl) T.all (by decide +kernel) (pa_cons (pe_lock (pe_lc (own := [("name", 1)]) (g := gName 1) (tt := tYes) rfl nd (pi_keys (pv 0)) (blkOk_by (N := N_are_classes) (sc := C8.fnScope s_are_classes) (by decide +kernel))
        (fun _ _ _ _ _ => pg_name (i := 1) nd rfl (Or.inl rfl)) (fun _ _ _ _ _ => pts_nil) (fun _ _ _ _ _ => pe_c (ok_fam T) hr (by decide) (by rfl) (pa_cons (pv 0) (pa_cons (pv 1) pa_nil))))) pa_nil)))))), ?_⟩
    obtain ⟨kvs, h1, h2⟩ := hc
    have hl : kvs.length = cs.length := len_keys h2
    have six := hok.six
    have keys := pairC_keys h2
    have nmk : ∀ H1 : Hp, NmVs K H1 ((cs.map (·.1)).map V.str) ((cs.map (·.1)).map fun _ => true) := fun H1 => NmVs.ok fun z hz => by
      obtain ⟨c, hc, rfl⟩ := List.mem_map.mp hz
      exact (hok.nm c hc).1
    refine q_no (et_orF (et_notT (et_B (ev_cb (ea_cons (ev_var rfl) (ea_cons ev_c ea_nil)) (rc_isi (.ty "dict") (.base (.dK h1)) (kit_ty (by decide +kernel)))))) (et_orF (et_test (ev_is (ev_op (ev_cb (ea_cons (ev_var rfl) ea_nil) (rc_lenD h1)) ev_c rv_I0) ?_)) (et_notT (et_B (ev_is (ev_call (ea_cons (ev_var rfl) ea_nil) (v_are_names ⟨a, rfl, .inr (.inr ⟨kvs, h1, rfl⟩)⟩ (by rw [keys]; exact nmk H) (by rw [List.length_map]; omega))) (by rw [all_true])))))) fun H1 e1 => ?_
    · show V.bl (decide ((6 : Int) < (kvs.length : Nat))) = .bl false
      rw [decide_eq_false (by omega)]
    have hx : ∀ {i : Nat} {x : V}, ((cs.map (·.1)).map V.str)[i]? = some x → ∃ c ∈ cs, x = .str c.1 := fun {i x} h => by
      obtain ⟨c, hc, rfl⟩ : ∃ c, c ∈ (cs.map (·.1)) ∧ V.str c = x := List.mem_map.mp (List.mem_of_getElem? h)
      obtain ⟨c', hc', rfl⟩ := List.mem_map.mp hc
      exact ⟨c', hc', rfl⟩
    refine q_no (et_B (ev_is (ev_cbL (evl_lock (e1 _ _ h1) fun od => el_lcA ((cs.map (·.1)).map fun _ => V.bl false) (by rw [List.length_map, List.length_map, List.length_map]; omega) (ei_keys (ev_var rfl) upd_same) (by rw [List.length_map]; omega) (fun _ => rfl) fun i x y H2 e2 hxi hy => ?_) fun p H2 e2 hp => rc_any (bs := (cs.map (·.1)).map fun _ => false) (sq_of (by rw [hp, consts_bl]))) ?_)) fun H2 e2 => ?_
    · rw [keys] at hxi
      obtain ⟨c, hc, rfl⟩ := hx hxi
      have : y = .bl false := by
        obtain ⟨_, _, rfl⟩ := List.mem_map.mp (List.mem_of_getElem? hy)
        rfl
      subst this
      refine ev_is (ev_op (ev_var rfl) ev_c (rv_isT (hK _) rfl rfl)) ?_
      have := in_strs c.1 ["word", "row", "kept"]
      rw [show ([V.str "word", V.str "row", V.str "kept"] : List V) = (["word", "row", "kept"] : List Str).map V.str from rfl, this, decide_eq_false (hok.nm c hc).2]
    · congr 1
      rw [List.any_map]
      exact List.any_eq_false.mpr fun _ _ => by simp
    · have h1' := e1 _ _ h1
      have h1'' := e2 _ _ h1'
      have h2'' := pairC_ex (e1.trans e2) h2
      refine q_no (et_notT (et_B (ev_is (ev_cbL (evl_lock h1'' fun od => el_lcA ((cs.map (·.1)).map fun _ => V.bl true) (by rw [List.length_map, List.length_map, List.length_map]; omega) (ei_vals (ev_var rfl) upd_same) (by rw [List.length_map]; omega) (fun _ => rfl) fun i x y H3 e3 hxi hy => ?_) fun p H3 e3 hp => rc_all (bs := (cs.map (·.1)).map fun _ => true) (sq_of (by rw [hp, consts_bl]))) (by rw [all_true])))) fun H3 e3 => ?_
      · obtain ⟨c, hc, hrep⟩ := pairC_get (repCs_lock (od := od) h1'' h2'') hxi
        have : y = .bl true := by
          obtain ⟨_, _, rfl⟩ := List.mem_map.mp (List.mem_of_getElem? hy)
          rfl
        subst this
        exact ev_call (ea_cons (ev_var rfl) (ea_cons (ev_var rfl) ea_nil)) (v_is_class (RepCs.ex e3 ⟨kvs, .inr ⟨od, upd_same⟩, repCs_lock h1'' h2''⟩) (hrep.ex e3) (hok.cl c (List.mem_of_getElem? hc)))
      · refine s_ret (v := .bl true) (ev_is (ev_cbL (evl_lock (e3 _ _ h1'') fun od => el_lcA ((cs.map (·.1)).map fun _ => V.bl true) (by rw [List.length_map, List.length_map, List.length_map]; omega) (ei_keys (ev_var rfl) upd_same) (by rw [List.length_map]; omega) (fun _ => rfl) fun i x y H4 e4 hxi hy => ?_) fun p H3 e3 hp => rc_all (bs := (cs.map (·.1)).map fun _ => true) (sq_of (by rw [hp, consts_bl]))) (by rw [all_true])) fun H4 e4 => k H4 (((e1.trans e2).trans e3).trans e4)
        rw [keys] at hxi
        obtain ⟨c, hc, rfl⟩ := hx hxi
        have : y = .bl true := by
          obtain ⟨_, _, rfl⟩ := List.mem_map.mp (List.mem_of_getElem? hy)
          rfl
        subst this
        exact ev_call (ea_cons (ev_var rfl) (ea_cons (ev_var rfl) ea_nil)) (v_fam (RepCs.ex e4 ⟨kvs, .inr ⟨od, upd_same⟩, repCs_lock (e3 _ _ h1'') (pairC_ex e3 h2'')⟩) hok.small (look_some (List.mem_map.mpr ⟨c, hc, rfl⟩)) (hok.fam c hc) hok.owns)
end
end EE
set_option Elab.async false
set_option linter.all false
set_option maxRecDepth 100000
set_option maxHeartbeats 4000000
/-! list(zip(a, b)), a and b tuples of one length -/
namespace EE
open PySem PySem.Spec PyProof.Rows L2 RZ
section
variable {X : Cx} {pins : List (Addr × Obj)} {σ : L2.St} {H H' : Hp} {s : Shared} {h' : Heap} {tk : Nat}
/-- new objects of any number are laid -/
theorem lay_many (I : Inv X pins σ H s) (hk : ∀ b o, s.heap.get? b = some o → h'.get? b = some o) (old : ∀ b u, H b = some u → H' b = some u) (new : ∀ b, b < s.heap.objs.size → H' b = H b)
    (ok : ∀ b u, H' b = some u → H b = none → ObjOk X.prog X.w H' h' b u) : Inv X pins σ H' { s with heap := h', toks := tk } := by
  refine I.call' (ch := []) rfl ⟨fun b o q _ _ _ => hk b o q, fun b o q _ _ _ => ⟨o.slots, hk b o q⟩, fun b o q n _ => by rw [new b (Heap.lt_size q)]; exact n, fun b o q _ => ⟨o, hk b o q⟩, fun b xs q => old b _ q, fun b o u q => old b _ q,
    fun b ps q => ⟨#[], by rw [old b _ q]; simp⟩⟩ (fun b u q => ?_) I.bare fun b z => by simp at z
  cases e : H b with
  | none => exact ok b u q e
  | some v =>
    have := old b v e
    rw [q] at this
    cases this
    exact (I.hok b u e).stay (fun d v _ y => hk d v y) (fun d y => old d _ y) fun d xs y => old d _ y
end
section
variable {prog : Program} {w : World} {A : Around} {E : Value → Shared → Prop} {s : Shared}
theorem zipT_item_held {z TI TO T i1 i2 l1 l2 : Addr} {f : Bool} {oT : Obj} {k1 k2 : Nat} {xs ys : Array Value} {x y : Value} {Q : Value → Shared → Prop} (D : ZipApart z TI TO i1 i2 l1 l2)
    (hz : PySem.IsZipHeld s.heap z TI TO T f) (hT : s.heap.get? T = some oT) (hTI : IsPair s.heap TI (.ref i1) (.ref i2)) (h1 : s.heap.IsTupleIter i1 l1 k1) (h2 : s.heap.IsTupleIter i2 l2 k2) (hl1 : s.heap.IsTuple l1 xs) (hl2 : s.heap.IsTuple l2 ys) (hx : xs[k1]? = some x) (hy : ys[k2]? = some y)
    (hQ : ∀ h', PySem.IsZipHeld h' z TI TO T true → h'.IsTupleIter i1 l1 (k1 + 1) → h'.IsTupleIter i2 l2 (k2 + 1) → IsPair h' s.heap.objs.size x y → h'.objs.size = s.heap.objs.size + 1 → (∀ c o, c ≠ z → c ≠ i1 → c ≠ i2 → s.heap.get? c = some o → h'.get? c = some o) → Q (.ref s.heap.objs.size) { s with heap := h' }) :
    wpAny (model prog w) A (Builtin.«zip.__next__» ⟨[.ref z], []⟩) (fun fin s' => ∃ v, fin = .done (.ret v) ∧ Q v s') E s := by
  show wpAny _ _ (field (.ref z) 2 >>= _) _ _ _; refine wpAny_bind (wpAny_field hz rfl (x := .bool false) rfl ?_)
  show wpAny _ _ (field (.ref z) 3 >>= _) _ _ _; refine wpAny_bind (wpAny_field hz rfl (x := .ref TI) rfl (wpAny_bind (wpAny_seqItems hTI rfl ?_)))
  show wpAny _ _ (Builtin.SmallTypes.ownedTupleIsFree (.ref z) >>= _) _ _ _; refine wpAny_bind (PySem.wpAny_tupleHeld_zip hz hT fun ha hza sa => ?_)
  simp only [Bool.false_eq_true, if_false]; refine wpAny_bind ?_; rw [← Array.forIn_toList]
  simp only [List.forIn_cons, List.forIn_nil]; refine wpAny_bind (wpAny_bind (wpAny_holding ?_))
  show wpAny _ _ (Builtin.SmallTypes.nextOf (.ref i1) >>= _) _ _ _
  refine wpAny_bind (nextOf_tuple_item (s := { s with heap := ha }) (h1.extBut sa.extBut D.i1z) (hl1.extBut sa.extBut D.l1z) hx fun hb h1b sb => wpAny_pure (wpAny_pure (wpAny_bind (wpAny_bind (wpAny_holding ?_)))))
  show wpAny _ _ (Builtin.SmallTypes.nextOf (.ref i2) >>= _) _ _ _
  refine wpAny_bind (nextOf_tuple_item (s := { s with heap := hb }) ((h2.extBut sa.extBut D.i2z).extBut sb.extBut D.i12.symm) ((hl2.extBut sa.extBut D.l2z).extBut sb.extBut D.l2i1) hy fun hc h2c sc => wpAny_pure (wpAny_pure (wpAny_pure ?_)))
  show wpAny _ _ (newTuple [x, y] >>= _) _ _ _; refine wpAny_bind (wpAny_newTuple (wpAny_pure ⟨_, rfl, ?_⟩))
  have size : hc.objs.size = s.heap.objs.size := by rw [sc.1, sb.1, sa.1]
  have hzc : PySem.IsZipHeld hc z TI TO T true := sc.extBut _ _ D.i2z.symm (sb.extBut _ _ D.i1z.symm hza)
  have keep : ∀ c o, c ≠ z → c ≠ i1 → c ≠ i2 → s.heap.get? c = some o → hc.get? c = some o := fun c o c1 c2 c3 e => sc.extBut _ _ c3 (sb.extBut _ _ c2 (sa.extBut _ _ c1 e))
  show Q (.ref hc.objs.size) _
  have pair : IsPair (hc.push { cls := .type "tuple", data := .seq #[x, y] }) hc.objs.size x y := Heap.get?_push_size _ rfl
  have size2 : (hc.push { cls := .type "tuple", data := .seq #[x, y] }).objs.size = hc.objs.size + 1 := Heap.size_push ..
  rw [size] at pair size2 ⊢
  exact hQ _ (Heap.get?_push_of_some _ hzc) ((h1b.extBut sc.extBut D.i12).at fun o e => Heap.get?_push_of_some _ e) (h2c.at fun o e => Heap.get?_push_of_some _ e) pair size2 fun c o c1 c2 c3 e => Heap.get?_push_of_some _ (keep c o c1 c2 c3 e)
theorem zipT_end_held {z TI TO T i1 i2 l1 l2 : Addr} {f : Bool} {oT : Obj} {k1 k2 : Nat} {xs : Array Value} {Q : Fin → Shared → Prop} (hh : A.handled = none) (D : ZipApart z TI TO i1 i2 l1 l2) (hz : PySem.IsZipHeld s.heap z TI TO T f) (hT : s.heap.get? T = some oT)
    (hTI : IsPair s.heap TI (.ref i1) (.ref i2)) (h1 : s.heap.IsTupleIter i1 l1 k1) (hl1 : s.heap.IsTuple l1 xs) (hx : xs[k1]? = none)
    (hE : ∀ h' e, (∀ c o, c ≠ z → c ≠ i1 → s.heap.get? c = some o → h'.get? c = some o) → (∃ o, h'.get? e = some o ∧ o.cls = .type "StopIteration") → E (.ref e) { s with heap := h' }) : wpAny (model prog w) A (Builtin.«zip.__next__» ⟨[.ref z], []⟩) Q E s := by
  show wpAny _ _ (field (.ref z) 2 >>= _) _ _ _; refine wpAny_bind (wpAny_field hz rfl (x := .bool false) rfl ?_)
  show wpAny _ _ (field (.ref z) 3 >>= _) _ _ _; refine wpAny_bind (wpAny_field hz rfl (x := .ref TI) rfl (wpAny_bind (wpAny_seqItems hTI rfl ?_)))
  show wpAny _ _ (Builtin.SmallTypes.ownedTupleIsFree (.ref z) >>= _) _ _ _; refine wpAny_bind (PySem.wpAny_tupleHeld_zip hz hT fun ha hza sa => ?_)
  simp only [Bool.false_eq_true, if_false]; refine wpAny_bind ?_; rw [← Array.forIn_toList]
  simp only [List.forIn_cons, List.forIn_nil]; refine wpAny_bind (wpAny_bind (wpAny_holding ?_))
  show wpAny _ _ (Builtin.SmallTypes.nextOf (.ref i1) >>= _) _ _ _
  exact wpAny_bind (nextOf_tuple_end (s := { s with heap := ha }) hh (h1.extBut sa.extBut D.i1z) (hl1.extBut sa.extBut D.l1z) hx fun hb e sb he => hE hb e (fun c o c1 c2 x => sb _ _ c2 (sa.extBut _ _ c1 x)) he)
theorem next_item_held {z TI TO T i1 i2 l1 l2 : Addr} {f : Bool} {oT : Obj} {k1 k2 : Nat} {xs ys : Array Value} {x y : Value} {Q : Option Value → Shared → Prop} (D : ZipApart z TI TO i1 i2 l1 l2)
    (hz : PySem.IsZipHeld s.heap z TI TO T f) (hT : s.heap.get? T = some oT) (hTI : IsPair s.heap TI (.ref i1) (.ref i2)) (h1 : s.heap.IsTupleIter i1 l1 k1) (h2 : s.heap.IsTupleIter i2 l2 k2) (hl1 : s.heap.IsTuple l1 xs) (hl2 : s.heap.IsTuple l2 ys) (hx : xs[k1]? = some x) (hy : ys[k2]? = some y)
    (hQ : ∀ h', PySem.IsZipHeld h' z TI TO T true → h'.IsTupleIter i1 l1 (k1 + 1) → h'.IsTupleIter i2 l2 (k2 + 1) → IsPair h' s.heap.objs.size x y → h'.objs.size = s.heap.objs.size + 1 → (∀ c o, c ≠ z → c ≠ i1 → c ≠ i2 → s.heap.get? c = some o → h'.get? c = some o) → Q (some (.ref s.heap.objs.size)) { s with heap := h' }) :
    wpAny (model prog w) A (pyNext (.ref z)) Q E s := by
  have hTy : s.TypeIs (.ref z) "zip" := ⟨_, hz, rfl⟩
  unfold pyNext
  refine wpAny_bind (wpAny_attempt (wpAny_callSpecial?_slot (name := Str.ofString "__next__") hTy F.slot_zip_next (wpAny_call_entry F.slot_zip_next hTy F.entry_zip_next (zipT_item_held D hz hT hTI h1 h2 hl1 hl2 hx hy fun h' a1 a3 a4 a5 a6 a7 => wpAny_pure (hQ h' a1 a3 a4 a5 a6 a7)) (F.args_zip_next_1 _))))
theorem next_end_held {z TI TO T i1 i2 l1 l2 : Addr} {f : Bool} {oT : Obj} {k1 k2 : Nat} {xs : Array Value} {Q : Option Value → Shared → Prop} (hh : A.handled = none) (D : ZipApart z TI TO i1 i2 l1 l2) (hz : PySem.IsZipHeld s.heap z TI TO T f) (hT : s.heap.get? T = some oT)
    (hTI : IsPair s.heap TI (.ref i1) (.ref i2)) (h1 : s.heap.IsTupleIter i1 l1 k1) (hl1 : s.heap.IsTuple l1 xs) (hx : xs[k1]? = none) (hQ : ∀ h', (∀ c o, c ≠ z → c ≠ i1 → s.heap.get? c = some o → h'.get? c = some o) → Q none { s with heap := h' }) : wpAny (model prog w) A (pyNext (.ref z)) Q E s := by
  have hTy : s.TypeIs (.ref z) "zip" := ⟨_, hz, rfl⟩
  unfold pyNext
  refine wpAny_bind (wpAny_attempt (wpAny_callSpecial?_slot (name := Str.ofString "__next__") hTy F.slot_zip_next (wpAny_call_entry F.slot_zip_next hTy F.entry_zip_next (zipT_end_held (k2 := k2) hh D hz hT hTI h1 hl1 hx fun h' e hk he => ?_) (F.args_zip_next_1 _))))
  obtain ⟨o, ho, hc⟩ := he
  exact wpAny_bind (wpAny_isInstance (T := "StopIteration") (b := true) ⟨o, ho, hc⟩ isSubtype_stop (wpAny_pure (hQ _ hk)))
/-- where a zip of the tuples xs, ys stands ahead of turn k; S: the list that is being made -/
structure ZipSt (z TI TO i1 i2 l1 l2 S : Addr) (xs ys : Array Value) (k : Nat) (h : Heap) : Prop where
  ti : IsPair h TI (.ref i1) (.ref i2)
  it1 : h.IsTupleIter i1 l1 k
  it2 : h.IsTupleIter i2 l2 k
  t1 : h.IsTuple l1 xs
  t2 : h.IsTuple l2 ys
  st : (IsZip h z TI TO .none ∧ ∃ a b, IsPair h TO a b) ∨ ∃ T f oT, PySem.IsZipHeld h z TI TO T f ∧ h.get? T = some oT ∧ T ≠ z ∧ T ≠ i1 ∧ T ≠ i2 ∧ T ≠ S
theorem ZipSt.at {z TI TO i1 i2 l1 l2 S : Addr} {xs ys : Array Value} {k : Nat} {h h' : Heap} (x : ZipSt z TI TO i1 i2 l1 l2 S xs ys k h) (hk : ∀ b o, b ≠ S → h.get? b = some o → h'.get? b = some o) (n : TI ≠ S ∧ i1 ≠ S ∧ i2 ≠ S ∧ l1 ≠ S ∧ l2 ≠ S ∧ z ≠ S ∧ TO ≠ S) :
    ZipSt z TI TO i1 i2 l1 l2 S xs ys k h' := by
  obtain ⟨n1, n2, n3, n4, n5, n6, n7⟩ := n
  obtain ⟨a1, a2, a3, a4, a5, a6⟩ := x
  refine ⟨hk _ _ n1 a1, a2.at fun o e => hk _ o n2 e, a3.at fun o e => hk _ o n3 e, a4.at fun o e => hk _ o n4 e, a5.at fun o e => hk _ o n5 e, ?_⟩
  rcases a6 with ⟨b1, b2, b3, b4⟩ | ⟨T, f, oT, c1, c2, c3, c4, c5, c6⟩
  · exact .inl ⟨hk _ _ n6 b1, b2, b3, hk _ _ n7 b4⟩
  · exact .inr ⟨T, f, oT, hk _ _ n6 c1, hk _ _ c6 c2, c3, c4, c5, c6⟩
/-- the pairs made so far: at ts, all of them new -/
def Made (base : Nat) (xs ys : Array Value) (ts : List Addr) (h : Heap) : Prop := ts.Nodup ∧ ∀ (j : Nat) (t : Addr), ts[j]? = some t → base ≤ t ∧ ∃ x y, xs[j]? = some x ∧ ys[j]? = some y ∧ IsPair h t x y
theorem list_turns {z TI TO i1 i2 l1 l2 S : Addr} {xs ys : Array Value} {res : Value} {base : Nat} {R : Result → Shared → Prop} (hh : A.in1.handled = none) (D : ZipApart z TI TO i1 i2 l1 l2) (hl : xs.size = ys.size) (hn : xs.size ≤ 1000) (ap : TI ≠ S ∧ i1 ≠ S ∧ i2 ≠ S ∧ l1 ≠ S ∧ l2 ≠ S ∧ z ≠ S ∧ TO ≠ S)
    (hb : z < base ∧ TO < base ∧ i1 < base ∧ i2 < base ∧ S < base) (m : Nat) : ∀ (k : Nat) (s : Shared) (ts : List Addr) (acc : Array Value) (c : Nat), xs.size - k = m → k ≤ xs.size → ZipSt z TI TO i1 i2 l1 l2 S xs ys k s.heap → ts.length = k → acc.toList = ts.map Value.ref →
      s.heap.get? S = some { cls := .type "list", dict := none, data := .seq acc c, slots := #[] } → Made base xs ys ts s.heap → base ≤ s.heap.objs.size →
      (∀ h' tk ts' acc' c', acc'.toList = ts'.map Value.ref → ts'.length = xs.size → h'.get? S = some { cls := .type "list", dict := none, data := .seq acc' c', slots := #[] } → Made base xs ys ts' h' → (∀ b o, b ≠ z → b ≠ TO → b ≠ i1 → b ≠ i2 → b ≠ S → s.heap.get? b = some o → h'.get? b = some o) → R (.ok (.ret res)) { s with heap := h', toks := tk }) →
      codeAny (model prog w) A (.builtin "list.extend.loop" ⟨[.ref S, .ref z, res], []⟩) R s := by
  induction m with
  | zero =>
    rintro k s ts acc c hm hk st hts hacc hS hM hbs hR
    obtain rfl : k = xs.size := by omega
    refine codeAny_builtin F.entry_extend_loop ?_; rw [Around.under_plainId F.plain_extend_loop _]; show wpAny _ A.in1 (pyNext (.ref z) >>= _) _ _ s
    have hx : xs[xs.size]? = none := Array.getElem?_eq_none (Nat.le_refl _)
    have fin : ∀ h', (∀ c o, c ≠ z → c ≠ TO → c ≠ i1 → c ≠ i2 → s.heap.get? c = some o → h'.get? c = some o) → R (.ok (.ret res)) { s with heap := h' } := fun h' hk' => by
      refine hR h' s.toks ts acc c hacc hts (hk' _ _ (Ne.symm ap.2.2.2.2.2.1) (Ne.symm ap.2.2.2.2.2.2) (Ne.symm ap.2.1) (Ne.symm ap.2.2.1) hS) ⟨hM.1, fun j t ht => ?_⟩ fun b o b1 b2 b3 b4 _ e => hk' b o b1 b2 b3 b4 e
      obtain ⟨g1, x, y, g2, g3, g4⟩ := hM.2 j t ht
      have lt : ∀ {q : Addr}, q < base → t ≠ q := fun hq e => absurd hq (Nat.not_lt.mpr (e ▸ g1))
      exact ⟨g1, x, y, g2, g3, hk' _ _ (lt hb.1) (lt hb.2.1) (lt hb.2.2.1) (lt hb.2.2.2.1) g4⟩
    rcases st.st with ⟨q1, a, b, q2⟩ | ⟨T, f, oT, q1, q2, q3, q4, q5, q6⟩
    · exact wpAny_bind (pyNext_zipT_end hh D q1 st.ti q2 st.it1 st.it2 st.t1 st.t2 (.inl hx) fun h' hk' => wpAny_pure (fin h' hk'))
    · exact wpAny_bind (next_end_held (k2 := xs.size) hh D q1 q2 st.ti st.it1 st.t1 hx fun h' hk' => wpAny_pure (fin h' fun c o c1 _ c3 _ e => hk' c o c1 c3 e))
  | succ m ih =>
    rintro k s ts acc c hm hk st hts hacc hS hM hbs hR
    have hlt : k < xs.size := by omega
    refine codeAny_builtin F.entry_extend_loop ?_; rw [Around.under_plainId F.plain_extend_loop _]; show wpAny _ A.in1 (pyNext (.ref z) >>= _) _ _ s
    have hx : xs[k]? = some xs[k] := Array.getElem?_eq_getElem hlt
    have hy : ys[k]? = some ys[k] := Array.getElem?_eq_getElem (by omega)
    have szl : acc.size = k := by
      have := congrArg List.length hacc
      rw [List.length_map, hts] at this
      rw [← this]; simp
    -- behind the next pair: it is pushed, and so on
    have go : ∀ h', ZipSt z TI TO i1 i2 l1 l2 S xs ys (k + 1) h' → IsPair h' s.heap.objs.size xs[k] ys[k] → h'.objs.size = s.heap.objs.size + 1 → (∀ c o, c ≠ z → c ≠ TO → c ≠ i1 → c ≠ i2 → s.heap.get? c = some o → h'.get? c = some o) →
        wpAny (model prog w) A.in1 (updateSeq S (·.push (Value.ref s.heap.objs.size)) >>= fun _ => again (.builtin "list.extend.loop" ⟨[.ref S, .ref z, res], []⟩)) (fun fin s' => match fin with | .done f => R (.ok f) s' | .again c' => c'.quiet = true ∧ codeAny (model prog w) A c' R s') (fun e s' => R (.error e) s') { s with heap := h' } := fun h' st' pr hsz hk' => by
      have hS' := hk' _ _ (Ne.symm ap.2.2.2.2.2.1) (Ne.symm ap.2.2.2.2.2.2) (Ne.symm ap.2.1) (Ne.symm ap.2.2.1) hS
      refine wpAny_bind (wpAny_updateSeq hS' rfl (wpAny_pure ⟨plainId_quiet F.plain_extend_loop _, ?_⟩) (by rw [szl, sizeLine_eq]; omega) (by show (acc.push _).size ≤ _; rw [Array.size_push, szl, sizeLine_eq]; omega))
      have oth : ∀ b o, b ≠ S → h'.get? b = some o → (h'.update S (Obj.mapSeq (·.push (Value.ref s.heap.objs.size)))).get? b = some o := fun b o hbS e => (Heap.get?_update_other _ _ (Ne.symm hbS)).trans e
      have neS : ∀ {t : Addr}, base ≤ t → t ≠ S := fun ht e => absurd hb.2.2.2.2 (Nat.not_lt.mpr (e ▸ ht))
      have nw : ∀ {q : Addr} {o : Obj}, s.heap.get? q = some o → s.heap.objs.size ≠ q := fun e => Nat.ne_of_gt (Heap.lt_size e)
      refine ih (k + 1) _ (ts ++ [s.heap.objs.size]) (acc.push (.ref s.heap.objs.size)) _ (by omega) hlt (st'.at oth ap) (by rw [List.length_append, hts]; rfl) (by rw [Array.toList_push, hacc, List.map_append]; rfl) (Heap.get?_update_self _ hS' rfl) ⟨?_, fun j t ht => ?_⟩ (by rw [Heap.size_update, hsz]; omega) fun h2 tk ts' acc' c' q1 q2 q3 q4 q5 => ?_
      · refine List.nodup_append.mpr ⟨hM.1, by simp, fun a ha b hb' e => ?_⟩
        obtain rfl : b = s.heap.objs.size := by simpa using hb'
        obtain ⟨j, hj⟩ := List.mem_iff_getElem?.mp ha
        obtain ⟨_, x, y, _, _, g4⟩ := hM.2 j a hj
        exact nw g4 e.symm
      · by_cases hj : j < ts.length
        · rw [List.getElem?_append_left hj] at ht
          obtain ⟨g1, x, y, g2, g3, g4⟩ := hM.2 j t ht
          have lt : ∀ {q : Addr}, q < base → t ≠ q := fun hq e => absurd hq (Nat.not_lt.mpr (e ▸ g1))
          exact ⟨g1, x, y, g2, g3, oth _ _ (neS g1) (hk' _ _ (lt hb.1) (lt hb.2.1) (lt hb.2.2.1) (lt hb.2.2.2.1) g4)⟩
        · have hj2 : j = ts.length := by
            have := (List.getElem?_eq_some_iff.mp ht).1
            rw [List.length_append, List.length_singleton] at this
            omega
          subst hj2
          rw [List.getElem?_append_right (Nat.le_refl _), Nat.sub_self] at ht
          obtain rfl : s.heap.objs.size = t := by simpa using ht
          rw [hts]
          exact ⟨hbs, _, _, hx, hy, oth _ _ (neS hbs) pr⟩
      · exact hR h2 tk ts' acc' c' q1 q2 q3 q4 fun b o b1 b2 b3 b4 b5 e => q5 b o b1 b2 b3 b4 b5 (oth b o b5 (hk' b o b1 b2 b3 b4 e))
    rcases st.st with ⟨q1, a, b, q2⟩ | ⟨T, f, oT, q1, q2, q3, q4, q5, q6⟩
    · refine wpAny_bind (pyNext_zipT_item D q1 st.ti q2 st.it1 st.it2 st.t1 st.t2 hx hy fun h' a1 a2 a3 a4 a5 a6 a7 => ?_)
      have nw : ∀ {q : Addr} {o : Obj}, s.heap.get? q = some o → s.heap.objs.size ≠ q := fun e => Nat.ne_of_gt (Heap.lt_size e)
      have n1 : s.heap.objs.size ≠ i1 := let ⟨_, e, _⟩ := st.it1; nw e
      have n2 : s.heap.objs.size ≠ i2 := let ⟨_, e, _⟩ := st.it2; nw e
      exact go h' ⟨a7 _ _ D.TIz D.TITO D.TIi1 D.TIi2 st.ti, a3, a4, st.t1.at fun o e => a7 _ o D.l1z D.l1TO D.l1i1 D.l1i2 e, st.t2.at fun o e => a7 _ o D.l2z D.l2TO D.l2i1 D.l2i2 e, .inr ⟨s.heap.objs.size, false, _, a1, a5, nw q1, n1, n2, nw hS⟩⟩ a5 a6 a7
    · refine wpAny_bind (next_item_held D q1 q2 st.ti st.it1 st.it2 st.t1 st.t2 hx hy fun h' a1 a3 a4 a5 a6 a7 => ?_)
      exact go h' ⟨a7 _ _ D.TIz D.TIi1 D.TIi2 st.ti, a3, a4, st.t1.at fun o e => a7 _ o D.l1z D.l1i1 D.l1i2 e, st.t2.at fun o e => a7 _ o D.l2z D.l2i1 D.l2i2 e, .inr ⟨T, true, oT, a1, a7 _ _ q3 q4 q5 q2, q3, q4, q5, q6⟩⟩ a5 a6 fun c o c1 _ c3 c4 e => a7 c o c1 c3 c4 e
theorem zip_no_len : typeLookup (.type "zip") "__len__" = pure none := am_miss_of_fast (by decide +kernel)
theorem zip_no_hint : typeLookup (.type "zip") "__length_hint__" = pure none := am_miss_of_fast (by decide +kernel)
/-- list(z), z a zip of two tuples that has not been asked -/
theorem call_list_zip {z TI TO i1 i2 l1 l2 : Addr} {xs ys : Array Value} {Q : Value → Shared → Prop} (hh : A.handled = none) (D : ZipApart z TI TO i1 i2 l1 l2) (hl : xs.size = ys.size) (hn : xs.size ≤ 1000) (st : ZipSt z TI TO i1 i2 l1 l2 s.heap.objs.size xs ys 0 s.heap) (hz : IsZip s.heap z TI TO .none) (hTO : ∃ a b, IsPair s.heap TO a b)
    (hQ : ∀ h' tk ts acc c, acc.toList = ts.map Value.ref → ts.length = xs.size → h'.get? s.heap.objs.size = some { cls := .type "list", dict := none, data := .seq acc c, slots := #[] } → Made (s.heap.objs.size + 1) xs ys ts h' → (∀ b o, b ≠ z → b ≠ TO → b ≠ i1 → b ≠ i2 → s.heap.get? b = some o → h'.get? b = some o) → Q (.ref s.heap.objs.size) { s with heap := h', toks := tk }) :
    wpAny (model prog w) A (call (.type "list") [.ref z]) Q E s := by
  have lt : ∀ {b o}, s.heap.get? b = some o → b < s.heap.objs.size := fun e => Heap.lt_size e
  have ltI : ∀ {b a i}, s.heap.IsTupleIter b a i → b < s.heap.objs.size := fun ⟨_, e, _⟩ => lt e
  have ltT : ∀ {b a}, s.heap.IsTuple b a → b < s.heap.objs.size := fun ⟨_, e, _⟩ => lt e
  have n := fun {b : Addr} (h : b < s.heap.objs.size) => Nat.ne_of_lt h
  obtain ⟨oa, ob, hTO⟩ := hTO
  have ap : TI ≠ s.heap.objs.size ∧ i1 ≠ s.heap.objs.size ∧ i2 ≠ s.heap.objs.size ∧ l1 ≠ s.heap.objs.size ∧ l2 ≠ s.heap.objs.size ∧ z ≠ s.heap.objs.size ∧ TO ≠ s.heap.objs.size :=
    ⟨n (lt st.ti), n (ltI st.it1), n (ltI st.it2), n (ltT st.t1), n (ltT st.t2), n (lt hz), n (lt hTO)⟩
  refine callType_codes (Q₁ := fun obj s1 => obj = .ref s.heap.objs.size ∧ s1 = { s with heap := s.heap.push { cls := .type "list", data := .seq #[] } }) F.called_list (F.typeCall_list_1 _) F.entry_list_init (code_list_new _ ⟨rfl, rfl⟩) fun obj s1 h1 => ?_
  obtain ⟨rfl, rfl⟩ := h1
  have hS : (s.heap.push { cls := .type "list", data := .seq #[] }).get? s.heap.objs.size = some { cls := .type "list", data := .seq #[] } := Heap.get?_push_size _ rfl
  refine ⟨⟨_, hS, rfl⟩, F.args_list_init_2 _ _, ?_⟩
  show wpAny _ A.in1.in1 (do let old ← Builtin.List.listItems (.ref s.heap.objs.size); Builtin.List.listUpdate (.ref s.heap.objs.size) (fun _ => #[]); letGo old.toList.reverse; Builtin.List.listExtendWith (.ref s.heap.objs.size) (.ref z) .none) _ _ _
  refine wpAny_bind ?_; unfold Builtin.List.listItems; refine wpAny_bind (wpAny_seqItems hS rfl (wpAny_pure ?_))
  show wpAny _ A.in1.in1 (updateSeq s.heap.objs.size (fun _ => #[]) >>= fun _ => letGo (#[] : Array Value).toList.reverse >>= fun _ => Builtin.List.listExtendWith (.ref s.heap.objs.size) (.ref z) .none) _ _ _
  refine wpAny_bind (wpAny_updateSeq hS rfl ?_)
  have hS2 := Heap.get?_update_self (Obj.mapSeq (fun _ => (#[] : Array Value))) hS rfl
  refine wpAny_bind (wpAny_letGo ?_)
  unfold Builtin.List.listExtendWith
  have oth2 : ∀ b o, b ≠ s.heap.objs.size → s.heap.get? b = some o → ((s.heap.push { cls := .type "list", data := .seq #[] }).update s.heap.objs.size (Obj.mapSeq (fun _ => (#[] : Array Value)))).get? b = some o := fun b o hb e => (Heap.get?_update_other _ _ (Ne.symm hb)).trans (Heap.get?_push_of_some _ e)
  have hz2 := oth2 _ _ ap.2.2.2.2.2.1 hz
  refine wpAny_bind (wpAny_typeOf (T := "zip") ⟨_, hz2, rfl⟩ ?_)
  have e1 : Builtin.List.listSameRef (.ref s.heap.objs.size) (.ref z) = false := by simp [Builtin.List.listSameRef, Ne.symm ap.2.2.2.2.2.1]
  have e2 : (Value.type "zip" == Value.type "list") = false := by decide
  have e3 : (Value.type "zip" == Value.type "tuple") = false := by decide
  simp only [e1, e2, e3, Bool.or_false, Bool.false_eq_true, if_false]
  refine wpAny_bind (wpAny_pyIter_zip hz2 (wpAny_bind (wpAny_holding ?_)))
  unfold Builtin.List.listLengthHint
  refine wpAny_bind (wpAny_specialOf (T := "zip") ⟨_, hz2, rfl⟩ zip_no_len ?_)
  show wpAny _ A.in1.in1 (specialOf (Value.ref z) (Str.ofString "__length_hint__") >>= _) _ _ _
  refine wpAny_bind (wpAny_specialOf (T := "zip") ⟨_, hz2, rfl⟩ zip_no_hint (wpAny_pure ?_))
  show wpAny _ A.in1.in1 (rule "list.extend.makes-room" >>= fun _ => Builtin.List.listTouch (.ref s.heap.objs.size) >>= fun _ => again (.builtin "list.extend.loop" ⟨[.ref s.heap.objs.size, .ref z, .none], []⟩)) _ _ _
  refine wpAny_bind (wpAny_rule (wpAny_bind ?_))
  show wpAny _ A.in1.in1 (updateSeq s.heap.objs.size (·.push .none) >>= fun _ => updateSeq s.heap.objs.size (·.pop)) _ _ _
  refine wpAny_bind (wpAny_updateSeq hS2 rfl ?_)
  have hS3 := Heap.get?_update_self (Obj.mapSeq (·.push Value.none)) hS2 rfl
  refine wpAny_updateSeq (hz := by seq_fits) hS3 rfl ?_
  have hS4 := Heap.get?_update_self (Obj.mapSeq (·.pop)) hS3 rfl
  have oth4 : ∀ b o, b ≠ s.heap.objs.size → s.heap.get? b = some o → ((((s.heap.push { cls := .type "list", data := .seq #[] }).update s.heap.objs.size (Obj.mapSeq (fun _ => (#[] : Array Value)))).update s.heap.objs.size (Obj.mapSeq (·.push Value.none))).update s.heap.objs.size (Obj.mapSeq (·.pop))).get? b = some o :=
    fun b o hb e => (Heap.get?_update_other _ _ (Ne.symm hb)).trans ((Heap.get?_update_other _ _ (Ne.symm hb)).trans (oth2 b o hb e))
  have up : ∀ {b : Addr}, b < s.heap.objs.size → b < s.heap.objs.size + 1 := fun h => Nat.lt_succ_of_lt h
  refine wpAny_pure ⟨plainId_quiet F.plain_extend_loop _, list_turns (base := s.heap.objs.size + 1) (by simp [hh]) D hl hn ap ⟨up (lt hz), up (lt hTO), up (ltI st.it1), up (ltI st.it2), Nat.lt_succ_self _⟩ (xs.size - 0) 0 _ [] _ _ rfl (Nat.zero_le _) (st.at oth4 ap) rfl rfl hS4 ⟨List.nodup_nil, fun j t h => by simp at h⟩ ?_ fun h' tk ts acc c q1 q2 q3 q4 q5 => ?_⟩
  · simp only [Heap.size_update, Heap.size_push]; exact Nat.le_refl _
  · exact ⟨rfl, hQ h' tk ts acc c q1 q2 q3 q4 fun b o b1 b2 b3 b4 e => q5 b o b1 b2 b3 b4 (n (lt e)) (oth4 b o (n (lt e)) e)⟩
end
section
variable {X : Cx} {e1 e2 : Expr} {ta : TA} {p p2 pos pos2 : Pos}
/-- list(zip(a, b)): a new list of new pairs -/
def tListZip (K : PySem.W.Frag) (ta : TA) : TE := fun σ H Q => ta σ H fun vs H1 => ∃ a b xs ys, vs = [V.ref a, V.ref b] ∧ SqT K H1 a xs ∧ SqT K H1 b ys ∧ xs.length = ys.length ∧ xs.length ≤ 1000 ∧
  ∀ (l : Addr) (ts : List Addr) (H2 : Hp), (∀ b u, H1 b = some u → H2 b = some u) → H1 l = none → (∀ t ∈ ts, H1 t = none) → H2 l = some (.lst (ts.map V.ref)) → ts.length = xs.length → (∀ (j : Nat) (t : Addr), ts[j]? = some t → ∃ x y, xs[j]? = some x ∧ ys[j]? = some y ∧ H2 t = some (.tup [x, y])) → Q (.ref l) H2
theorem vals_at : ∀ {xs : List V} {us : List Value} {j : Nat} {u : Value}, Vals xs us → us[j]? = some u → ∃ x, xs[j]? = some x ∧ RelV x u
  | [], [], _, _, .nil, h => by simp at h
  | x :: xs, v :: us, 0, u, .cons r _, h => by
    simp at h
    subst h
    exact ⟨x, rfl, r⟩
  | x :: xs, v :: us, j + 1, u, .cons _ t, h => vals_at (j := j) t (by simpa using h)
theorem pe_listZip (hc : X.calm = true) (hg : Gl X "list") (hm : X.mg "list" = none) (hg2 : Gl X "zip") (hm2 : X.mg "zip" = none) (ha : PA X [e1, e2] ta) (hv : bootBuiltins "list" = some (.type "list"))
    (hs : starEach [.Call (.Name "zip" p2) [e1, e2] [] pos2] X.env = (false, eval (.Call (.Name "zip" p2) [e1, e2] [] pos2) X.env) :: starEach [] X.env := by rfl) (hs2 : starEach [e1, e2] X.env = (false, eval e1 X.env) :: starEach [e2] X.env := by rfl) (hpl : (backTo pos2 (starEach [e2] X.env)).any (·.1) = false := by rfl) :
    PE X (.Call (.Name "list" p) [.Call (.Name "zip" p2) [e1, e2] [] pos2] [] pos) (tListZip X.K ta) := by
  refine ⟨fun pins s σ H Q I hq => wpAny_Call_Name_kw (ld_blt I hg hm hv (PyProof.Rows.callWith_type1 ?_ hs rfl))⟩
  rw [hs]
  show wpAny _ _ (spliced ((false, eval (.Call (.Name "zip" p2) [e1, e2] [] pos2) X.env) :: backTo pos (starEach [] X.env))) _ _ s
  refine Calls.spliced_cons (Call_ (ld_blt I hg2 hm2 PyProof.Rows.boot_zip (PyProof.Rows.callWith_type1 (thn (ha.run pos2 pins s σ H _ I hq) fun us s1 ⟨vs, H1, I1, r1, q1⟩ => ?_) hs2 hpl)))
  obtain ⟨a, b, xs, ys, rfl, ha1, hb1, hlen, hsm, q⟩ := q1
  cases r1 with
  | cons r rr =>
    cases rr with
    | cons r' rr =>
      cases rr; cases r; cases r'
      obtain ⟨its, rv, p1, _⟩ := I1.tuple ha1
      obtain ⟨its2, rv2, p2, _⟩ := I1.tuple hb1
      have ⟨o1, ho1, _⟩ := p1
      have ⟨o2, ho2, _⟩ := p2
      have l1 : its.toArray.size = xs.length := by rw [List.size_toArray, ← rv.length]
      have l2 : its2.toArray.size = ys.length := by rw [List.size_toArray, ← rv2.length]
      refine call_zipT (show s1.heap.IsTuple a its.toArray from p1) (show s1.heap.IsTuple b its2.toArray from p2) fun h' hz hTI hTO hi1 hi2 hsz hk => Calls.spliced_nil ?_
      have I2 : Inv X pins σ H1 { s1 with heap := h' } := I1.kept (t' := s1.toks) hk
      have D := PySem.W.ktu_apart s1.heap.objs.size a b (Heap.lt_size ho1) (Heap.lt_size ho2)
      refine call_list_zip (s := { s1 with heap := h' }) (I1.ok.hd hc) D (by rw [l1, l2]; exact hlen) (by rw [l1]; exact hsm) ⟨hTI, hi1, hi2, Heap.IsTuple.at p1 fun o e => hk _ o e, Heap.IsTuple.at p2 fun o e => hk _ o e, .inl ⟨hz, _, _, hTO⟩⟩ hz ⟨_, _, hTO⟩ fun h2 tk ts acc c q1 q2 q3 q4 q5 => ?_
      have l0 : h'.objs.size = s1.heap.objs.size + 5 := hsz
      have hts : ts.length = xs.length := by rw [q2, l1]
      have uniq : ∀ {i j : Nat} {t : Addr}, ts[i]? = some t → ts[j]? = some t → i = j := fun e1 e2 => nd_ix q4.1 e1 e2
      have big : ∀ {j : Nat} {t : Addr}, ts[j]? = some t → s1.heap.objs.size + 6 ≤ t := fun ht => by
        have := (q4.2 _ _ ht).1
        rw [show ({ s1 with heap := h' } : Shared).heap.objs.size = s1.heap.objs.size + 5 from hsz] at this
        exact this
      have pairOf : ∀ (j : Nat) (t : Addr), ts[j]? = some t → ∃ x y vx vy, xs[j]? = some x ∧ ys[j]? = some y ∧ RelV x vx ∧ RelV y vy ∧ IsPair h2 t vx vy := fun j t ht => by
        obtain ⟨_, vx, vy, g1, g2, g3⟩ := q4.2 j t ht
        obtain ⟨x, k1, k2⟩ := vals_at rv (by simpa using g1)
        obtain ⟨y, k3, k4⟩ := vals_at rv2 (by simpa using g2)
        exact ⟨x, y, vx, vy, k1, k3, k2, k4, g3⟩
      classical
      let l : Addr := h'.objs.size
      let H2 : Hp := fun b => if b = l then some (.lst (ts.map V.ref)) else if hb : ∃ j : Nat, ts[j]? = some b then some (.tup [xs.getD hb.choose .non, ys.getD hb.choose .non]) else H1 b
      have at_l : H2 l = some (.lst (ts.map V.ref)) := if_pos rfl
      have tl : ∀ {j : Nat} {t : Addr}, ts[j]? = some t → t ≠ l := fun {j t} ht e => by
        have := big ht
        have el : @Eq Nat t (s1.heap.objs.size + 5) := e.trans l0
        omega
      have at_t : ∀ (j : Nat) (t : Addr), ts[j]? = some t → ∃ x y vx vy, xs[j]? = some x ∧ ys[j]? = some y ∧ RelV x vx ∧ RelV y vy ∧ IsPair h2 t vx vy ∧ H2 t = some (.tup [x, y]) := fun j t ht => by
        obtain ⟨x, y, vx, vy, g1, g2, g3, g4, g5⟩ := pairOf j t ht
        refine ⟨x, y, vx, vy, g1, g2, g3, g4, g5, ?_⟩
        have hb : ∃ j : Nat, ts[j]? = some t := ⟨j, ht⟩
        have ej : hb.choose = j := uniq hb.choose_spec ht
        show (if t = l then _ else if hb : ∃ j : Nat, ts[j]? = some t then some (HO.tup [xs.getD hb.choose .non, ys.getD hb.choose .non]) else H1 t) = _
        rw [if_neg (tl ht), dif_pos hb, ej, List.getD_eq_getElem?_getD, List.getD_eq_getElem?_getD, g1, g2]
        rfl
      have low : ∀ b, b < s1.heap.objs.size → H2 b = H1 b := fun b hb => by
        have n1 : b ≠ l := fun e => by have : @Eq Nat b (s1.heap.objs.size + 5) := e.trans l0; omega
        have n2 : ¬ ∃ j : Nat, ts[j]? = some b := fun hx => by obtain ⟨j, hj⟩ := hx; have := big hj; omega
        show (if b = l then _ else if hb : ∃ j : Nat, ts[j]? = some b then some (HO.tup [xs.getD hb.choose .non, ys.getD hb.choose .non]) else H1 b) = _
        rw [if_neg n1, dif_neg n2]
      have old : ∀ b u, H1 b = some u → H2 b = some u := fun b u e => by rw [low b (I1.hok.lt e)]; exact e
      have kept : ∀ b o, s1.heap.get? b = some o → h2.get? b = some o := fun b o e => by
        have := Heap.lt_size e
        have up : ∀ m, b ≠ s1.heap.objs.size + m := fun m => Nat.ne_of_lt (Nat.lt_of_lt_of_le this (Nat.le_add_right _ m))
        exact q5 b o (up 4) (up 3) (up 0) (up 1) (hk b o e)
      have fresh : ∀ {b : Addr}, s1.heap.objs.size ≤ b → H1 b = none := fun hb => I1.hok.fresh hb
      have J : Inv X pins σ H2 { s1 with heap := h2, toks := tk } := lay_many I1 kept old low fun b u hu hn => by
        by_cases hb : b = l
        · subst hb
          rw [at_l] at hu
          cases hu
          exact ⟨by rw [List.length_map, sizeLine_eq]; omega, acc.toList, c, by rw [q1]; exact LiI.vals_refs ts, by rw [Array.toArray_toList (xs := acc)]; exact q3⟩
        · by_cases hj : ∃ j : Nat, ts[j]? = some b
          · obtain ⟨j, hj⟩ := hj
            obtain ⟨x, y, vx, vy, _, _, g3, g4, g5, g6⟩ := at_t j b hj
            rw [g6] at hu
            cases hu
            exact ⟨by show 2 ≤ sizeLine; decide, [vx, vy], .cons g3 (.cons g4 .nil), ⟨_, g5, rfl, _, rfl⟩⟩
          · have : H2 b = H1 b := by
              show (if b = l then _ else if hb : ∃ j : Nat, ts[j]? = some b then some (HO.tup [xs.getD hb.choose .non, ys.getD hb.choose .non]) else H1 b) = _
              rw [if_neg hb, dif_neg hj]
            rw [this, hn] at hu
            cases hu
      refine ⟨.ref l, H2, J, rfl, q l ts H2 old (fresh (by show s1.heap.objs.size ≤ h'.objs.size; omega)) (fun t ht => ?_) at_l hts fun j t ht => ?_⟩
      · obtain ⟨j, hj⟩ := (List.mem_iff_getElem? (a := t) (l := ts)).mp ht
        have hbig := big hj
        exact fresh (by omega)
      · obtain ⟨x, y, _, _, g1, g2, _, _, _, g6⟩ := at_t j t ht
        exact ⟨x, y, g1, g2, g6⟩
end
end EE
set_option Elab.async false
set_option linter.all false
set_option maxRecDepth 100000
set_option maxHeartbeats 1000000
namespace EE
open PySem L2 Evl
open C8 (Cal cal0 pe_c pe_gc fnScope_by)
/-- data: what things may be; oth: a list or a dict -/
inductive Dt where
  | non
  | bl (b : Bool)
  | int (i : Int)
  | str (z : Str)
  | tup (xs : List Dt)
  | oth
mutual
inductive At (K : PySem.W.Frag) (H : Hp) : V → Dt → Prop
  | non : At K H .non .non
  | bl (b : Bool) : At K H (.bl b) (.bl b)
  | int (i : Int) : At K H (.int i) (.int i)
  | str (z : Str) (h : z.length ≤ sizeLine) : At K H (.str z) (.str z)
  | tup {a : Addr} {vs : List V} {xs : List Dt} (h : SqT K H a vs) (r : AtL K H vs xs) (hz : vs.length ≤ 40000) : At K H (.ref a) (.tup xs)
  | lst {a : Addr} {vs : List V} (h : SqL K H a vs) : At K H (.ref a) .oth
  | dic {a : Addr} {kvs : List (Key × V)} (h : Rd H a (.dK kvs)) : At K H (.ref a) .oth
  | odd {a : Addr} (h : Rd H a (oddO a)) : At K H (.ref a) .oth
inductive AtL (K : PySem.W.Frag) (H : Hp) : List V → List Dt → Prop
  | nil : AtL K H [] []
  | cons {v : V} {vs : List V} {d : Dt} {ds : List Dt} (h : At K H v d) (t : AtL K H vs ds) : AtL K H (v :: vs) (d :: ds)
end
section
variable {K : PySem.W.Frag} {σ : L2.St} {H H' : Hp} {ta tb tc te : TE} {t u : TT} {x y z v : V} {d : Dt}
mutual
theorem At.le (e : Le H H') : ∀ {v : V} {d : Dt}, At K H v d → At K H' v d
  | _, _, .non => .non
  | _, _, .bl b => .bl b
  | _, _, .int i => .int i
  | _, _, .str z h => .str z h
  | _, _, .tup h r hz => .tup (e.t h) (AtL.le e r) hz
  | _, _, .lst h => .lst (e.l h)
  | _, _, .dic h => .dic (e _ _ h)
  | _, _, .odd h => .odd (e _ _ h)
theorem AtL.le (e : Le H H') : ∀ {vs : List V} {ds : List Dt}, AtL K H vs ds → AtL K H' vs ds
  | _, _, .nil => .nil
  | _, _, .cons h t => .cons (At.le e h) (AtL.le e t)
end
theorem tyx_sqL {a : Addr} {xs : List V} (h : SqL K H a xs) : TyX K H (.ref a) (.type "list") := by
  rcases h with (h | ⟨o, h⟩) | h
  · exact .base (.lst h)
  · exact .base (.frz h)
  · obtain ⟨o, _, _, e, c, _⟩ := h
    exact .kList e c
theorem tyx_rdD {a : Addr} {kvs : List (Key × V)} (h : Rd H a (.dK kvs)) : TyX K H (.ref a) (.type "dict") := by
  rcases h with h | ⟨o, h⟩
  · exact .base (.dK h)
  · exact .fDict h
mutual
theorem At.ex (e : Ex H H') : ∀ {v : V} {d : Dt}, At K H v d → At K H' v d
  | _, _, .non => .non
  | _, _, .bl b => .bl b
  | _, _, .int i => .int i
  | _, _, .str z h => .str z h
  | _, _, .tup h r hz => .tup (ex_t e h) (AtL.ex e r) hz
  | _, _, .lst h => .lst (ex_l e h)
  | _, _, .dic h => .dic (ex_rd e h)
  | _, _, .odd h => .odd (ex_rd e h)
theorem AtL.ex (e : Ex H H') : ∀ {vs : List V} {ds : List Dt}, AtL K H vs ds → AtL K H' vs ds
  | _, _, .nil => .nil
  | _, _, .cons h t => .cons (At.ex e h) (AtL.ex e t)
end
theorem AtL.len : ∀ {vs : List V} {ds : List Dt}, AtL K H vs ds → vs.length = ds.length
  | _, _, .nil => rfl
  | _, _, .cons _ t => congrArg (· + 1) (AtL.len t)
theorem AtL.get : ∀ {vs : List V} {ds : List Dt} {i : Nat} {v : V}, AtL K H vs ds → vs[i]? = some v → ∃ d, ds[i]? = some d ∧ At K H v d
  | _, _, 0, _, .cons h _, e => by simp at e; subst e; exact ⟨_, rfl, h⟩
  | _, _, i + 1, _, .cons _ t, e => by simp at e; simpa using AtL.get t e
  | _, _, _, _, .nil, e => by simp at e
def Dt.isStr : Dt → Bool
  | .str _ => true
  | _ => false
def Dt.isTup : Dt → Bool
  | .tup _ => true
  | _ => false
def Dt.isBl : Dt → Bool
  | .bl _ => true
  | _ => false
def Dt.isInt : Dt → Bool
  | .bl _ => true
  | .int _ => true
  | _ => false
theorem at_isi {T : String} (h : At K H v d) (f : Dt → Bool) (hn : kitB "NoneType" T = some (f .non)) (hb : kitB "bool" T = some (f (.bl true)) ∧ f (.bl false) = f (.bl true)) (hi : ∀ i, kitB "int" T = some (f (.int i))) (hs : ∀ z, kitB "str" T = some (f (.str z)))
    (ht : ∀ xs, kitB "tuple" T = some (f (.tup xs))) (ho : kitB "list" T = some (f .oth) ∧ kitB "dict" T = some (f .oth)) : ∃ t, TyX K H v t ∧ PySem.W.kitOne K t (.type T) = some (f d) := by
  cases h with
  | non => exact ⟨_, .base .non, kit_ty hn⟩
  | bl b => exact ⟨_, .base (.bl b), kit_ty (by cases b with | true => exact hb.1 | false => rw [hb.2]; exact hb.1)⟩
  | int i => exact ⟨_, .base (.int i), kit_ty (hi i)⟩
  | str z h => exact ⟨_, .base (.str z), kit_ty (hs z)⟩
  | tup h r hz0 => exact ⟨_, tyx_sqT h, kit_ty (ht _)⟩
  | lst h => exact ⟨_, tyx_sqL h, kit_ty ho.1⟩
  | dic h => exact ⟨_, tyx_rdD h, kit_ty ho.2⟩
  | odd h => exact ⟨_, .odd h, kit_ty ho.2⟩
theorem at_isStr (h : At K H v d) : ∃ t, TyX K H v t ∧ PySem.W.kitOne K t (.type "str") = some d.isStr := at_isi h Dt.isStr (show kitB "NoneType" "str" = some false from by decide +kernel) ⟨(show kitB "bool" "str" = some false from by decide +kernel), rfl⟩ (fun _ => (show kitB "int" "str" = some false from by decide +kernel)) (fun _ => (show kitB "str" "str" = some true from by decide +kernel)) (fun _ => (show kitB "tuple" "str" = some false from by decide +kernel)) ⟨(show kitB "list" "str" = some false from by decide +kernel), (show kitB "dict" "str" = some false from by decide +kernel)⟩
theorem at_isTup (h : At K H v d) : ∃ t, TyX K H v t ∧ PySem.W.kitOne K t (.type "tuple") = some d.isTup := at_isi h Dt.isTup (show kitB "NoneType" "tuple" = some false from by decide +kernel) ⟨(show kitB "bool" "tuple" = some false from by decide +kernel), rfl⟩ (fun _ => (show kitB "int" "tuple" = some false from by decide +kernel)) (fun _ => (show kitB "str" "tuple" = some false from by decide +kernel)) (fun _ => (show kitB "tuple" "tuple" = some true from by decide +kernel)) ⟨(show kitB "list" "tuple" = some false from by decide +kernel), (show kitB "dict" "tuple" = some false from by decide +kernel)⟩
theorem at_isBl (h : At K H v d) : ∃ t, TyX K H v t ∧ PySem.W.kitOne K t (.type "bool") = some d.isBl := at_isi h Dt.isBl (show kitB "NoneType" "bool" = some false from by decide +kernel) ⟨(show kitB "bool" "bool" = some true from by decide +kernel), rfl⟩ (fun _ => (show kitB "int" "bool" = some false from by decide +kernel)) (fun _ => (show kitB "str" "bool" = some false from by decide +kernel)) (fun _ => (show kitB "tuple" "bool" = some false from by decide +kernel)) ⟨(show kitB "list" "bool" = some false from by decide +kernel), (show kitB "dict" "bool" = some false from by decide +kernel)⟩
theorem at_isInt (h : At K H v d) : ∃ t, TyX K H v t ∧ PySem.W.kitOne K t (.type "int") = some d.isInt := at_isi h Dt.isInt (show kitB "NoneType" "int" = some false from by decide +kernel) ⟨(show kitB "bool" "int" = some true from by decide +kernel), rfl⟩ (fun _ => (show kitB "int" "int" = some true from by decide +kernel)) (fun _ => (show kitB "str" "int" = some false from by decide +kernel)) (fun _ => (show kitB "tuple" "int" = some false from by decide +kernel)) ⟨(show kitB "list" "int" = some false from by decide +kernel), (show kitB "dict" "int" = some false from by decide +kernel)⟩
theorem et_isTup (h : At K H v d) (he : Ev te σ H v) : EvT (tB (tCB (rIsi K) (tCons te (tCons (tC (.ty "tuple")) tNil)))) σ H d.isTup := by
  obtain ⟨t, h1, h2⟩ := at_isTup h
  exact et_B (ev_cb (ea_cons he (ea_cons ev_c ea_nil)) (rc_isi (.ty "tuple") h1 h2))
/-! == and in with texts on one side -/
def isS (z : Str) : Dt → Bool
  | .str y => decide (y = z)
  | _ => false
def rEqS (K : PySem.W.Frag) : R2 := fun x y H Q => ∃ z d, y = .str z ∧ At K H x d ∧ Q (.bl (isS z d)) H
theorem rv_eqS {s : Str} (h : At K H v d) : RV (rEqS K) v (.str s) H (.bl (isS s d)) := fun H1 e _ q => ⟨s, d, rfl, h.ex e, q H1 (Ex.refl H1)⟩
def inS (zs : List Str) : Dt → Bool
  | .str y => decide (y ∈ zs)
  | _ => false
def rInS (K : PySem.W.Frag) : R2 := fun x y H Q => ∃ p zs d, y = .ref p ∧ (SqL K H p (zs.map V.str) ∨ SqT K H p (zs.map V.str)) ∧ At K H x d ∧ Q (.bl (inS zs d)) H
theorem rv_inS {p : Addr} {zs : List Str} (hp : SqL K H p (zs.map V.str) ∨ SqT K H p (zs.map V.str)) (h : At K H v d) : RV (rInS K) v (.ref p) H (.bl (inS zs d)) := fun H1 e _ q => ⟨p, zs, d, rfl, hp.imp (ex_l e) (ex_t e), h.ex e, q H1 (Ex.refl H1)⟩
end
theorem inV_strs (z : Str) (zs : List Str) : inV (.str z) (zs.map V.str) = decide (z ∈ zs) := by
  unfold inV
  rw [List.any_map]
  induction zs with
  | nil => rfl
  | cons y r ih =>
    rw [List.any_cons, ih]
    show (eqV (.str y) (.str z) || _) = _
    by_cases e : y = z
    · subst e
      simp [eqV]
    · have e' : ¬ z = y := fun h => e h.symm
      simp [eqV, e, e']
theorem odd_at {X : Cx} {pins : List (Addr × Obj)} {σ : L2.St} {H : Hp} {s : Shared} {a : Addr} (I : Inv X pins σ H s) (h : Rd H a (oddO a)) : SeqAt.DictAt s a := by
  obtain ⟨⟨es, n, h1⟩, _⟩ := (show ObjOk X.prog X.w H s.heap a (oddO a) from h.ok I.hok)
  exact ⟨⟨_, h1, rfl⟩, _, es, n, _, _, h1⟩
theorem op_eqS {X : Cx} (hu : X.A.units + 1 < cLine) : OpR X (compareOp .Eq) (rEqS X.K) := by
  intro pins s σ H x y v u Q I rx ry h
  obtain ⟨z, d, rfl, hx, q⟩ := h
  have flat : scal x (.str z) = true → isS z d = decide (x = .str z) → wpAny (model X.prog X.w) X.A (compareOp .Eq v u) (EP X pins σ Q) X.xe s := fun h1 h2 => op_eq pins s σ H x (.str z) v u Q I rx ry ⟨h1, by rw [← h2]; exact q⟩
  cases hx with
  | non => exact flat rfl (by simp [isS])
  | bl b => exact flat rfl (by simp [isS])
  | int i => exact flat rfl (by simp [isS])
  | str y h => exact flat rfl (by simp [isS])
  | tup h r hz0 =>
    cases (show v = Value.ref _ from rx)
    obtain ⟨t, rfl⟩ := ry
    obtain ⟨its, r, pl, hz⟩ := I.tuple h
    exact SeqAt.RcAt.tuple_str z t pl (by omega) X.prog X.w _ _ ⟨.bl false, H, I, rfl, q⟩
  | lst h =>
    cases (show v = Value.ref _ from rx)
    obtain ⟨t, rfl⟩ := ry
    obtain ⟨its, r, pl, hz⟩ := I.list h
    exact SeqAt.RcAt.list_str z t pl.isList (by omega) X.prog X.w _ _ ⟨.bl false, H, I, rfl, q⟩
  | @dic a kvs h =>
    cases (show v = Value.ref _ from rx)
    obtain ⟨t, rfl⟩ := ry
    obtain ⟨_, ya, va, ra, da⟩ := (show ObjOk X.prog X.w H s.heap a (.dK kvs) from h.ok I.hok)
    exact SeqAt.RcAt.dict_str z t (SeqAt.dictAt_of da) (by omega) X.prog X.w _ _ ⟨.bl false, H, I, rfl, q⟩
  | @odd a h =>
    cases (show v = Value.ref _ from rx)
    obtain ⟨t, rfl⟩ := ry
    exact SeqAt.RcAt.dict_str z t (odd_at I h) (by omega) X.prog X.w _ _ ⟨.bl false, H, I, rfl, q⟩
theorem op_inS {X : Cx} (hu : X.A.units + 2 < cLine) : OpR X (compareOp .In) (rInS X.K) := by
  intro pins s σ H x y v u Q I rx ry h
  obtain ⟨p, zs, d, rfl, hp, hx, q⟩ := h
  have flat : flatV x = true → inS zs d = inV x (zs.map V.str) → wpAny (model X.prog X.w) X.A (compareOp .In v u) (EP X pins σ Q) X.xe s := fun h1 h2 => op_in_seq pins s σ H x (.ref p) v u Q I rx ry ⟨p, zs.map V.str, rfl, hp, h1, flat_strs zs, by rw [← h2]; exact q⟩
  have no : inS zs d = false → (∀ (z : Str) (t : Tok), SeqAt.EqAt X.A.in1 s (.str z t) v false) → wpAny (model X.prog X.w) X.A (compareOp .In v u) (EP X pins σ Q) X.xe s := fun h1 h2 => by
    cases (show u = Value.ref p from ry)
    rw [h1] at q
    rcases hp with hp | hp
    · obtain ⟨its, r, pl, hz⟩ := I.list hp
      refine SeqAt.in_listAt (fun _ => false) pl.isList (fun w hw => ?_) ⟨.bl false, H, I, (by show Value.bool _ = Value.bool false; simp), q⟩
      obtain ⟨j, hj⟩ := List.mem_iff_getElem?.mp (by simpa using hw : w ∈ its)
      obtain ⟨x1, k1, k2⟩ := vals_at r hj
      rw [List.getElem?_map] at k1
      cases hh : zs[j]? with
      | none => rw [hh] at k1; cases k1
      | some z => rw [hh] at k1; cases k1; obtain ⟨t, rfl⟩ := k2; exact h2 z t
    · obtain ⟨its, r, pl, hz⟩ := I.tuple hp
      refine SeqAt.in_tupleAt (fun _ => false) pl (fun w hw => ?_) ⟨.bl false, H, I, (by show Value.bool _ = Value.bool false; simp), q⟩
      obtain ⟨j, hj⟩ := List.mem_iff_getElem?.mp (by simpa using hw : w ∈ its)
      obtain ⟨x1, k1, k2⟩ := vals_at r hj
      rw [List.getElem?_map] at k1
      cases hh : zs[j]? with
      | none => rw [hh] at k1; cases k1
      | some z => rw [hh] at k1; cases k1; obtain ⟨t, rfl⟩ := k2; exact h2 z t
  have u1 : X.A.in1.units < cLine := by show X.A.units + 1 < cLine; omega
  cases hx with
  | non => exact flat rfl (by simp [inS, inV, eqV])
  | bl b => exact flat rfl (by simp [inS, inV, eqV])
  | int i => exact flat rfl (by simp [inS, inV, eqV])
  | str y h => exact flat rfl (inV_strs y zs).symm
  | tup h r hz0 =>
    cases (show v = Value.ref _ from rx)
    obtain ⟨its, r, pl, hz⟩ := I.tuple h
    exact no rfl fun z t => SeqAt.EqAt.str_tuple z t pl u1
  | lst h =>
    cases (show v = Value.ref _ from rx)
    obtain ⟨its, r, pl, hz⟩ := I.list h
    exact no rfl fun z t => SeqAt.EqAt.str_list z t pl.isList u1
  | @dic a kvs h =>
    cases (show v = Value.ref _ from rx)
    obtain ⟨_, ya, va, ra, da⟩ := (show ObjOk X.prog X.w H s.heap a (.dK kvs) from h.ok I.hok)
    exact no rfl fun z t => SeqAt.EqAt.str_dict z t (SeqAt.dictAt_of da) u1
  | @odd a h =>
    cases (show v = Value.ref _ from rx)
    exact no rfl fun z t => SeqAt.EqAt.str_dict z t (odd_at I h) u1
end EE
set_option Elab.async false
set_option linter.all false
set_option maxRecDepth 100000
set_option maxHeartbeats 1000000
namespace EE
open PySem L2 Evl
open C8 (Cal cal0 pe_c pe_gc fnScope_by)
structure TxtG (w : World) (K : PySem.W.Frag) (mg : Str → Option Value) extends Txt w K mg where
  d_is_any_name : DefX K mg "is_any_name" s_is_any_name P_is_any_name
  d_is_shared_name : DefX K mg "is_shared_name" s_is_shared_name P_is_shared_name
  d_is_class_name : DefX K mg "is_class_name" s_is_class_name P_is_class_name
  d_is_function_name : DefX K mg "is_function_name" s_is_function_name P_is_function_name
  d_is_price : DefX K mg "is_price" s_is_price P_is_price
  d_are_words_to_ask : DefX K mg "are_words_to_ask" s_are_words_to_ask P_are_words_to_ask
  d_are_expressions : DefX K mg "are_expressions" s_are_expressions P_are_expressions
  d_is_test : DefX K mg "is_test" s_is_test P_is_test
  d_is_kind : DefX K mg "is_kind" s_is_kind P_is_kind
  rangeG : mg "range" = none
  c_DEAREST : ∃ u, mg "DEAREST" = some u ∧ RelV (.int 9) u
  c_MOST_EXPRESSIONS : ∃ u, mg "MOST_EXPRESSIONS" = some u ∧ RelV (.int 4) u
  c_MOST_NOTS : ∃ u, mg "MOST_NOTS" = some u ∧ RelV (.int 3) u
/-- the names that blocks may name -/
structure Kn where
  sh : List Str
  cl : List Str
  fn : List Str
def KeysOf (H : Hp) (a : Addr) (zs : List Str) : Prop := ∃ kvs : List (Key × V), Rd H a (.dK kvs) ∧ kvs.map (·.1) = zs.map Sum.inr
def KnAt (K : PySem.W.Frag) (H : Hp) (kv : V) (kn : Kn) : Prop := ∃ t s c f, kv = .ref t ∧ SqT K H t [.ref s, .ref c, .ref f] ∧ KeysOf H s kn.sh ∧ KeysOf H c kn.cl ∧ KeysOf H f kn.fn
section
variable {K : PySem.W.Frag} {σ : L2.St} {H H' : Hp} {ta tb tc te td ty : TE} {t u : TT} {x y z v kv : V} {d : Dt} {kn : Kn}
theorem KeysOf.ex {a : Addr} {zs : List Str} (e : Ex H H') (h : KeysOf H a zs) : KeysOf H' a zs := let ⟨k, h1, h2⟩ := h; ⟨k, ex_rd e h1, h2⟩
theorem KnAt.ex (e : Ex H H') (h : KnAt K H kv kn) : KnAt K H' kv kn := by
  obtain ⟨t, s, c, f, rfl, h1, h2, h3, h4⟩ := h
  exact ⟨t, s, c, f, rfl, ex_t e h1, h2.ex e, h3.ex e, h4.ex e⟩
theorem valV_keys {z : Str} : ∀ {kvs : List (Key × V)} {zs : List Str}, kvs.map (·.1) = zs.map Sum.inr → (valV kvs (Sum.inr z : Key)).isSome = decide (z ∈ zs)
  | [], [], _ => rfl
  | [], _ :: _, h => by simp at h
  | _ :: _, [], h => by simp at h
  | p :: kvs, y :: zs, h => by
    simp at h
    obtain ⟨h1, h2⟩ := h
    by_cases e : y = z
    · subst e
      rw [valV_pos h1]
      simp
    · rw [valV_neg (fun q => e (Sum.inr.inj (h1.symm.trans q))), valV_keys (by simpa using h2)]
      have : ¬ z = y := fun q => e q.symm
      simp [this]
theorem et_keys {a : Addr} {zs : List Str} {s : Str} (hy : Ev ty σ H (.str s)) (hd : Ev td σ H (.ref a)) (h : KeysOf H a zs) : Ev (tDIn ty td) σ H (.bl (decide (s ∈ zs))) := by
  obtain ⟨kvs, h1, h2⟩ := h
  exact ev_is (et_din (k := Sum.inr s) hy hd h1) (by rw [valV_keys h2])
def nmD : Dt → Bool
  | .str z => isNm z
  | _ => false
theorem at_nm (h : At K H v d) : NmV K H v (nmD d) := by
  cases h with
  | str z hz => exact .inl ⟨z, rfl, hz, rfl⟩
  | non => exact .inr ⟨rfl, _, .base .non, kit_ty (by decide +kernel)⟩
  | bl b => exact .inr ⟨rfl, _, .base (.bl b), kit_ty (by decide +kernel)⟩
  | int i => exact .inr ⟨rfl, _, .base (.int i), kit_ty (by decide +kernel)⟩
  | tup h r hz => exact .inr ⟨rfl, _, tyx_sqT h, kit_ty (by decide +kernel)⟩
  | lst h => exact .inr ⟨rfl, _, tyx_sqL h, kit_ty (by decide +kernel)⟩
  | dic h => exact .inr ⟨rfl, _, tyx_rdD h, kit_ty (by decide +kernel)⟩
  | odd h => exact .inr ⟨rfl, _, .odd h, kit_ty (by decide +kernel)⟩
theorem at_nms : ∀ {vs : List V} {ds : List Dt}, AtL K H vs ds → NmVs K H vs (ds.map nmD)
  | _, _, .nil => .nil
  | _, _, .cons h t => .cons (at_nm h) (at_nms t)
theorem v_nmD (h : At K H v d) : SpV (sp_is_name K) [v] H (.bl (nmD d)) := v_is_name (at_nm h)
def nmIn (zs : List Str) : Dt → Bool
  | .str z => isNm z && decide (z ∈ zs)
  | _ => false
def sp_leaf (K : PySem.W.Frag) (f : Kn → Dt → Bool) : Sp := PuV fun vs H z => ∃ kv kn v d, vs = [kv, v] ∧ KnAt K H kv kn ∧ At K H v d ∧ z = .bl (f kn d)
theorem v_leaf {f : Kn → Dt → Bool} (hk : KnAt K H kv kn) (h : At K H v d) : SpV (sp_leaf K f) [kv, v] H (.bl (f kn d)) := spv fun H1 e => ⟨kv, kn, v, d, rfl, hk.ex e, h.ex e, rfl⟩
/-! the mirrors -/
def unD : Dt → Str
  | .str z => z
  | _ => Str.empty
theorem un_at (h : At K H v d) : unV v = unD d := by cases h <;> rfl
theorem un_ats : ∀ {vs : List V} {ds : List Dt}, AtL K H vs ds → vs.map unV = ds.map unD
  | _, _, .nil => rfl
  | _, _, .cons h t => by rw [List.map_cons, List.map_cons, un_at h, un_ats t]
def priceD : Dt → Bool
  | .int i => decide (0 ≤ i) && decide (i ≤ 9)
  | _ => false
def unlikeD (most : Int) : Dt → Bool
  | .tup xs => (decide ((xs.length : Int) ≤ most) && (xs.map nmD).all id) && decide ((xs.map unD).Nodup)
  | _ => false
def wordsD : Dt → Bool
  | .tup xs => unlikeD 3 (.tup xs) && decide (2 ≤ xs.length)
  | _ => false
def ge2 : Dt → Bool
  | .tup xs => decide (2 ≤ xs.length)
  | _ => false
def exprD : Dt → Bool
  | .tup xs => decide (xs.length = 1) && nmD (xs.headD .non)
  | d => nmD d
def exprsD : Dt → Bool
  | .tup xs => decide (xs.length ≤ 4) && (xs.map exprD).all id
  | _ => false
abbrev kinds3 : List Str := ["word", "row", "kept"]
def kindD (kn : Kn) (d : Dt) : Bool := inS kinds3 d || nmIn kn.cl d
def isNot : Dt → Bool
  | .tup xs => decide (xs.length = 2) && isS "not" (xs.headD .non)
  | _ => false
def sndD : Dt → Dt
  | .tup xs => xs.getD 1 .non
  | d => d
def strip1 (d : Dt) : Dt := if isNot d then sndD d else d
def strips : Nat → Dt → Dt
  | 0, d => d
  | n + 1, d => strip1 (strips n d)
def coreD (kn : Kn) : Dt → Bool
  | .tup xs => decide (xs.length = 3) && (if isS "same" (xs.headD .non) then exprD (xs.getD 1 .non) && exprD (xs.getD 2 .non) else isS "kind" (xs.headD .non) && (exprD (xs.getD 1 .non) && kindD kn (xs.getD 2 .non)))
  | _ => false
def testD (kn : Kn) (d : Dt) : Bool := coreD kn (strips 3 d)
theorem dec_int {n m : Nat} : decide (V.int (n : Int) = V.int (m : Int)) = decide (n = m) := decide_eq_decide.mpr ⟨fun h => by injection h with h; omega, fun h => by rw [h]⟩
theorem dec_intc {n : Nat} {m : Int} (k : Nat) (hk : m = (k : Int)) : decide (V.int (n : Int) = V.int m) = decide (n = k) := by subst hk; exact dec_int
theorem ev_lenA {a : Addr} {vs : List V} {xs : List Dt} (he : Ev te σ H (.ref a)) (h : SqT K H a vs) (r : AtL K H vs xs) : Ev (tCB (fun ys H Q => ∃ p zs, ys = [V.ref p] ∧ (SqL K H p zs ∨ SqT K H p zs) ∧ Q (.int zs.length) H) (tCons te tNil)) σ H (.int xs.length) :=
  ev_is (ev_cb (ea_cons he ea_nil) (rc_lenS (.inr h))) (by rw [r.len])
theorem ev_ixA {a : Addr} {vs : List V} {xs : List Dt} {i : Nat} {d : Dt} (he : Ev te σ H (.ref a)) (h : SqT K H a vs) (r : AtL K H vs xs) (hd : xs[i]? = some d) : ∃ w, At K H w d ∧ vs[i]? = some w ∧ Ev (tOp (rIxT K) te (tC (.int (i : Nat)))) σ H w := by
  have hi : i < vs.length := by rw [r.len]; exact (List.getElem?_eq_some_iff.mp hd).1
  obtain ⟨d', h1, h2⟩ := r.get (List.getElem?_eq_getElem hi)
  rw [hd] at h1
  cases h1
  exact ⟨_, h2, List.getElem?_eq_getElem hi, ev_op he ev_c (rv_ixT h (at_of (j := i) rfl (List.getElem?_eq_getElem hi)))⟩
end
section
variable {P : Program} {w : World} {K : PySem.W.Frag} {mg : Str → Option Value} {base : Heap}
theorem leaf_len {f : Kn → Dt → Bool} {vs : List V} {H : Hp} {Q : VK} {E : XK} (h : sp_leaf K f vs H Q E) : vs.length = 2 := by
  obtain ⟨z, ⟨_, _, _, _, rfl, _⟩, _⟩ := h
  rfl
theorem sc_is_any_name : FnScope N_is_any_name P_is_any_name (C8.fnScope s_is_any_name) := fnScope_by (by decide +kernel)
theorem ok_any (T : TxtG w K mg) : Cal P w K mg base 2 "is_any_name" (sp_leaf K fun _ d => nmD d) [] := by
  refine mk_cal T.d_is_any_name sc_is_any_name (fun vs H Q E h => leaf_len h) (fun f cdv A outer s H vs Q E hr h => ?_)
  obtain ⟨z, ⟨kv, kn, v, d, rfl, hk, hv, rfl⟩, k⟩ := h
  refine ⟨_, pss_one (ps_ret (pe_c (ok_is_name T.toTxt) hr (by decide) (by rfl) (pa_cons (pv 1) pa_nil))), ?_⟩
  exact s_ret (v := .bl (nmD d)) (ev_call (ea_cons (ev_var rfl) ea_nil) (v_nmD hv)) fun H1 e1 => k H1 e1
theorem ev_nmIn {K : PySem.W.Frag} {σ : L2.St} {H : Hp} {ta tb td : TE} {v : V} {d : Dt} {zs : List Str} {a : Addr} {E : XK} (hv : At K H v d) (h1 : Ev ta σ H v) (h2 : Ev tb σ H v) (hd : Ev td σ H (.ref a)) (hk : KeysOf H a zs) :
    Ev (tAndV (tCall (sp_is_name K) [] E (tCons ta tNil)) (tDIn tb td)) σ H (.bl (nmIn zs d)) := by
  have z := ev_andV (a := nmD d) (b := decide (unD d ∈ zs)) (ev_call (E := E) (ea_cons h1 ea_nil) (v_nmD hv)) fun hb => by
    cases hv with
    | str z hz => exact et_keys h2 hd hk
    | _ => cases hb
  refine ev_is z ?_
  cases d <;> rfl
theorem sc_is_shared_name : FnScope N_is_shared_name P_is_shared_name (C8.fnScope s_is_shared_name) := fnScope_by (by decide +kernel)
theorem ok_shared_name (T : TxtG w K mg) : Cal P w K mg base 2 "is_shared_name" (sp_leaf K fun kn d => nmIn kn.sh d) [] := by
  refine mk_cal T.d_is_shared_name sc_is_shared_name (fun vs H Q E h => leaf_len h) (fun f cdv A outer s H vs Q E hr h => ?_)
  obtain ⟨z, ⟨kv, kn, v, d, rfl, hk, hv, rfl⟩, k⟩ := h
  have hu := hu_of hr
  obtain ⟨t, sa, ca, fa, rfl, g1, g2, g3, g4⟩ := hk
  refine ⟨_, pss_one (ps_ret (pe_and (pe_c (ok_is_name T.toTxt) hr (by decide) (by rfl) (pa_cons (pv 1) pa_nil)) (pe_one (pe_cmp (pc_din hu (pv 1) (pe_ix ix_tup (pv 0) pe_int (fun _ _ => rfl))) (by rfl))))), ?_⟩
  exact s_ret (v := .bl (nmIn kn.sh d)) (ev_nmIn hv (ev_var rfl) (ev_var rfl) (ev_op (ev_var (v := .ref t) rfl) ev_c (rv_ixT g1 (at_of (j := 0) rfl rfl))) g2) fun H1 e1 => k H1 e1
theorem sc_is_class_name : FnScope N_is_class_name P_is_class_name (C8.fnScope s_is_class_name) := fnScope_by (by decide +kernel)
theorem ok_class_name (T : TxtG w K mg) : Cal P w K mg base 2 "is_class_name" (sp_leaf K fun kn d => nmIn kn.cl d) [] := by
  refine mk_cal T.d_is_class_name sc_is_class_name (fun vs H Q E h => leaf_len h) (fun f cdv A outer s H vs Q E hr h => ?_)
  obtain ⟨z, ⟨kv, kn, v, d, rfl, hk, hv, rfl⟩, k⟩ := h
  have hu := hu_of hr
  obtain ⟨t, sa, ca, fa, rfl, g1, g2, g3, g4⟩ := hk
  refine ⟨_, pss_one (ps_ret (pe_and (pe_c (ok_is_name T.toTxt) hr (by decide) (by rfl) (pa_cons (pv 1) pa_nil)) (pe_one (pe_cmp (pc_din hu (pv 1) (pe_ix ix_tup (pv 0) pe_int (fun _ _ => rfl))) (by rfl))))), ?_⟩
  exact s_ret (v := .bl (nmIn kn.cl d)) (ev_nmIn hv (ev_var rfl) (ev_var rfl) (ev_op (ev_var (v := .ref t) rfl) ev_c (rv_ixT g1 (at_of (j := 1) rfl rfl))) g3) fun H1 e1 => k H1 e1
theorem sc_is_function_name : FnScope N_is_function_name P_is_function_name (C8.fnScope s_is_function_name) := fnScope_by (by decide +kernel)
theorem ok_function_name (T : TxtG w K mg) : Cal P w K mg base 2 "is_function_name" (sp_leaf K fun kn d => nmIn kn.fn d) [] := by
  refine mk_cal T.d_is_function_name sc_is_function_name (fun vs H Q E h => leaf_len h) (fun f cdv A outer s H vs Q E hr h => ?_)
  obtain ⟨z, ⟨kv, kn, v, d, rfl, hk, hv, rfl⟩, k⟩ := h
  have hu := hu_of hr
  obtain ⟨t, sa, ca, fa, rfl, g1, g2, g3, g4⟩ := hk
  refine ⟨_, pss_one (ps_ret (pe_and (pe_c (ok_is_name T.toTxt) hr (by decide) (by rfl) (pa_cons (pv 1) pa_nil)) (pe_one (pe_cmp (pc_din hu (pv 1) (pe_ix ix_tup (pv 0) pe_int (fun _ _ => rfl))) (by rfl))))), ?_⟩
  exact s_ret (v := .bl (nmIn kn.fn d)) (ev_nmIn hv (ev_var rfl) (ev_var rfl) (ev_op (ev_var (v := .ref t) rfl) ev_c (rv_ixT g1 (at_of (j := 2) rfl rfl))) g4) fun H1 e1 => k H1 e1
theorem at_int {H : Hp} {v : V} {d : Dt} (h : At K H v d) : IntQ K H v (match d with | .int i => some i | _ => none) := by
  cases h with
  | int i => exact .inl ⟨i, rfl, rfl⟩
  | non => exact .inr ⟨rfl, .inr ⟨_, .base .non, kit_ty (by decide +kernel)⟩⟩
  | bl b => exact .inr ⟨rfl, .inl ⟨b, rfl⟩⟩
  | str z hz => exact .inr ⟨rfl, .inr ⟨_, .base (.str z), kit_ty (by decide +kernel)⟩⟩
  | tup h r hz => exact .inr ⟨rfl, .inr ⟨_, tyx_sqT h, kit_ty (by decide +kernel)⟩⟩
  | lst h => exact .inr ⟨rfl, .inr ⟨_, tyx_sqL h, kit_ty (by decide +kernel)⟩⟩
  | dic h => exact .inr ⟨rfl, .inr ⟨_, tyx_rdD h, kit_ty (by decide +kernel)⟩⟩
  | odd h => exact .inr ⟨rfl, .inr ⟨_, .odd h, kit_ty (by decide +kernel)⟩⟩
theorem sc_is_price : FnScope N_is_price P_is_price (C8.fnScope s_is_price) := fnScope_by (by decide +kernel)
theorem ok_price (T : TxtG w K mg) : Cal P w K mg base 2 "is_price" (sp_leaf K fun _ d => priceD d) [] := by
  refine mk_cal T.d_is_price sc_is_price (fun vs H Q E h => leaf_len h) (fun f cdv A outer s H vs Q E hr h => ?_)
  obtain ⟨z, ⟨kv, kn, v, d, rfl, hk, hv, rfl⟩, k⟩ := h
  refine ⟨_, pss_one (ps_ret (pe_c (ok_between T.toTxt) hr (by decide) (by rfl) (pa_cons pe_int (pa_cons (pe_gc (by rfl) T.c_DEAREST) (pa_cons (pv 1) pa_nil))))), ?_⟩
  exact s_ret (v := .bl (priceD d)) (ev_is (ev_call (ea_cons ev_c (ea_cons ev_c (ea_cons (ev_var rfl) ea_nil))) (v_between (low := 0) (high := 9) (at_int hv))) (by cases d <;> rfl)) fun H1 e1 => k H1 e1
theorem at_unl {H : Hp} {v : V} {d : Dt} {most : Int} (h : At K H v d) : ∃ o bs, TupN K H v o bs ∧ tupUn most o bs = unlikeD most d := by
  cases h with
  | tup h r hz => exact ⟨_, _, ⟨.inl ⟨_, _, rfl, h, rfl⟩, fun xs hx => by cases hx; exact ⟨at_nms r, hz⟩⟩, by
      show ((true && (decide ((_ : Int) ≤ most) && _)) && decide _) = _
      rw [Bool.true_and, Option.getD_some, un_ats r, r.len]
      rfl⟩
  | non => exact ⟨none, [], ⟨.inr ⟨rfl, _, .base .non, kit_ty (by decide +kernel)⟩, fun _ h => by cases h⟩, rfl⟩
  | bl b => exact ⟨none, [], ⟨.inr ⟨rfl, _, .base (.bl b), kit_ty (by decide +kernel)⟩, fun _ h => by cases h⟩, rfl⟩
  | int i => exact ⟨none, [], ⟨.inr ⟨rfl, _, .base (.int i), kit_ty (by decide +kernel)⟩, fun _ h => by cases h⟩, rfl⟩
  | str z hz => exact ⟨none, [], ⟨.inr ⟨rfl, _, .base (.str z), kit_ty (by decide +kernel)⟩, fun _ h => by cases h⟩, rfl⟩
  | lst h => exact ⟨none, [], ⟨.inr ⟨rfl, _, tyx_sqL h, kit_ty (by decide +kernel)⟩, fun _ h => by cases h⟩, rfl⟩
  | dic h => exact ⟨none, [], ⟨.inr ⟨rfl, _, tyx_rdD h, kit_ty (by decide +kernel)⟩, fun _ h => by cases h⟩, rfl⟩
  | odd h => exact ⟨none, [], ⟨.inr ⟨rfl, _, .odd h, kit_ty (by decide +kernel)⟩, fun _ h => by cases h⟩, rfl⟩
theorem v_unlikeD {H : Hp} {v : V} {d : Dt} {most : Int} (hm : most ≤ 900) (h : At K H v d) : SpV (sp_unlike K) [.int most, v] H (.bl (unlikeD most d)) := by
  obtain ⟨o, bs, h1, h2⟩ := at_unl (most := most) h
  rw [← h2]
  exact v_unlike hm h1
theorem sc_are_words : FnScope N_are_words_to_ask P_are_words_to_ask (C8.fnScope s_are_words_to_ask) := fnScope_by (by decide +kernel)
theorem ok_words (T : TxtG w K mg) : Cal P w K mg base 5 "are_words_to_ask" (sp_leaf K fun _ d => wordsD d) [] := by
  refine mk_cal T.d_are_words_to_ask sc_are_words (fun vs H Q E h => leaf_len h) (fun f cdv A outer s H vs Q E hr h => ?_)
  obtain ⟨z, ⟨kv, kn, v, d, rfl, hk, hv, rfl⟩, k⟩ := h
  refine ⟨_, pss_one (ps_ret (pe_and (pe_c (ok_unlike T.toTxt) hr (by decide) (by rfl) (pa_cons pe_int (pa_cons (pv 1) pa_nil))) (pe_one (pe_cmpR op_ge (pe_callB call_len_seq (by rfl) T.len (by decide +kernel) (pa_cons (pv 1) pa_nil)) pe_int (nomark _))))), ?_⟩
  refine s_ret (v := .bl (wordsD d)) ?_ fun H1 e1 => k H1 e1
  refine ev_is (ev_andV (a := unlikeD 3 d) (b := ge2 d) (ev_call (ea_cons ev_c (ea_cons (ev_var rfl) ea_nil)) (v_unlikeD (by decide) hv)) fun hb => ?_) (by cases d <;> rfl)
  cases hv with
  | tup h r hz => exact ev_is (ev_op (ev_lenA (ev_var rfl) h r) (ev_c (v := .int 2)) rv_I0) (by show V.bl _ = V.bl _; congr 1; apply decide_eq_decide.mpr; omega)
  | _ => cases hb
theorem sc_is_expressionG : FnScope N_is_expression P_is_expression (C8.fnScope s_is_expression) := fnScope_by (by decide +kernel)
theorem ok_expr (T : TxtG w K mg) : Cal P w K mg base 2 "is_expression" (sp_leaf K fun _ d => exprD d) [] := by
  refine mk_cal T.d_is_expression sc_is_expressionG (fun vs H Q E h => leaf_len h) (fun f cdv A outer s H vs Q E hr h => ?_)
  obtain ⟨z, ⟨kv, kn, v, d, rfl, hk, hv, rfl⟩, k⟩ := h
  refine ⟨_, pss_cons (ps_if (pt_val (pe_callB call_isi (by rfl) T.isi (by decide +kernel) (pa_cons (pv 1) (pa_cons (pe_bltn (v := .ty "tuple") (by rfl) T.tupT (u := .type "tuple") (by decide +kernel) (by rfl)) pa_nil))))
      (pss_one (ps_ret (pe_and (pe_cmpR op_eq (pe_callB call_len_seq (by rfl) T.len (by decide +kernel) (pa_cons (pv 1) pa_nil)) pe_int (nomark _)) (pe_one (pe_c (ok_is_name T.toTxt) hr (by decide) (by rfl) (pa_cons (pe_ix ix_tup (pv 1) pe_int (fun _ _ => rfl)) pa_nil)))))) pss_nil)
      (pss_one (ps_ret (pe_c (ok_is_name T.toTxt) hr (by decide) (by rfl) (pa_cons (pv 1) pa_nil)))), ?_⟩
  refine q_when (b := d.isTup) (et_isTup hv (ev_var rfl)) (fun hb H1 e1 => ?_) (fun hb H1 e1 => ?_)
  · cases hv with
    | @tup a vs xs h r hz =>
      refine s_ret (v := .bl (exprD (.tup xs))) ?_ fun H2 e2 => k H2 (e1.trans e2)
      refine ev_andV (a := decide (xs.length = 1)) (ev_is (ev_op (ev_lenA (ev_var rfl) (ex_t e1 h) (r.ex e1)) (ev_c (v := .int 1)) (rv_eq rfl)) (congrArg V.bl (dec_intc (m := 1) 1 rfl))) fun hl => ?_
      have hl1 := of_decide_eq_true hl
      match xs, hl1 with
      | [x], _ =>
        obtain ⟨w0, a1, a2, a3⟩ := ev_ixA (σ := [some kv, some (.ref a)]) (te := tVar 1) (i := 0) (ev_var rfl) (ex_t e1 h) (r.ex e1) (d := x) rfl
        exact ev_call (ea_cons a3 ea_nil) (v_nmD a1)
    | _ => cases hb
  · refine s_ret (v := .bl (exprD d)) ?_ fun H2 e2 => k H2 (e1.trans e2)
    refine ev_is (ev_call (ea_cons (ev_var rfl) ea_nil) (v_nmD (hv.ex e1))) ?_
    cases d <;> first | rfl | cases hb
theorem sc_are_expressions : FnScope N_are_expressions P_are_expressions (C8.fnScope s_are_expressions) := fnScope_by (by decide +kernel)
theorem ok_exprs (T : TxtG w K mg) : Cal P w K mg base 3 "are_expressions" (sp_leaf K fun _ d => exprsD d) [] := by
  refine mk_cal T.d_are_expressions sc_are_expressions (fun vs H Q E h => leaf_len h) (fun f cdv A outer s H vs Q E hr h => ?_)
  obtain ⟨z, ⟨kv, kn, v, d, rfl, hk, hv, rfl⟩, k⟩ := h
  have nd := sc_are_expressions.nd
  refine ⟨_, pss_cons (ps_if (PW.pt (pw_or (pt_not (pt_val (pe_callB call_isi (by rfl) T.isi (by decide +kernel) (pa_cons (pv 1) (pa_cons (pe_bltn (v := .ty "tuple") (by rfl) T.tupT (u := .type "tuple") (by decide +kernel) (by rfl)) pa_nil)))))
      (pw_or1 (pt_cmpR op_gt (pe_callB call_len_seq (by rfl) T.len (by decide +kernel) (pa_cons (pv 1) pa_nil)) (pe_gc (by rfl) T.c_MOST_EXPRESSIONS) (nomark _))))) (pss_one (ps_ret pe_bl)) pss_nil)
    (pss_one (ps_ret (pe_callB (cr_all rfl) (by rfl) T.all (by decide +kernel) (pa_cons (pe_lc (own := [("part", 2)]) (g := gName 2) (tt := tYes) rfl nd (pi_tup (pv 1)) (blkOk_by (N := N_are_expressions) (sc := C8.fnScope s_are_expressions) (by decide +kernel))
        (fun _ _ _ _ _ => pg_name (i := 2) nd rfl (Or.inl rfl)) (fun _ _ _ _ _ => pts_nil) (fun _ _ _ _ _ => pe_c (ok_expr T) hr (by decide) (by rfl) (pa_cons (pv 0) (pa_cons (pv 2) pa_nil)))) pa_nil)))), ?_⟩
  cases hd : d.isTup with
  | false =>
    have e0 : exprsD d = false := by cases d <;> first | rfl | cases hd
    refine q_when (b := true) (et_is (et_or (a := true) (b := true) (et_is (et_not (et_isTup hv (ev_var rfl))) (by rw [hd]; rfl)) fun z => nomatch z) rfl) (fun hb H1 e1 => s_ret (v := .bl false) ev_c fun H2 e2 => ?_) (fun z => nomatch z)
    rw [show (fun _ d => exprsD d : Kn → Dt → Bool) kn d = false from e0] at k
    exact k H2 (e1.trans e2)
  | true =>
    cases hv with
    | @tup a vs xs h r hz =>
      refine q_when (b := decide ((xs.length : Int) > 4)) (et_is (et_or (a := false) (b := decide ((xs.length : Int) > 4)) (et_notT (et_isTup (.tup h r hz) (ev_var rfl))) fun _ => et_test (ev_op (ev_lenA (ev_var rfl) h r) ev_c rv_I0)) rfl) (fun hb H1 e1 => ?_) (fun hb H1 e1 => ?_)
      · refine s_ret (v := .bl false) ev_c fun H2 e2 => ?_
        have e0 : exprsD (.tup xs) = false := by
          have := of_decide_eq_true hb
          show (decide (xs.length ≤ 4) && _) = false
          rw [decide_eq_false (by omega)]; rfl
        rw [show (fun _ d => exprsD d : Kn → Dt → Bool) kn (.tup xs) = false from e0] at k
        exact k H2 (e1.trans e2)
      · refine s_ret (v := .bl (exprsD (.tup xs))) ?_ fun H2 e2 => k H2 (e1.trans e2)
        have hb' := of_decide_eq_false hb
        have e0 : exprsD (.tup xs) = (xs.map exprD).all id := by
          show (decide (xs.length ≤ 4) && _) = _
          rw [decide_eq_true (by omega)]; rfl
        rw [e0]
        refine ev_cbL (el_lcA ((xs.map exprD).map V.bl) (by rw [List.length_map, List.length_map, r.len]) (ei_tup (ev_var rfl) (ex_t e1 h)) hz (fun _ => rfl) fun i x y H2 e2 hx hy => ?_) fun p H2 _ hp => rc_all (sq_of hp)
        obtain ⟨d', q1, q2⟩ := r.get hx
        rw [List.getElem?_map, List.getElem?_map, q1] at hy
        cases hy
        exact ev_call (ea_cons (ev_var rfl) (ea_cons (ev_var rfl) ea_nil)) (v_leaf (f := fun _ d => exprD d) (hk.ex (e1.trans e2)) (q2.ex (e1.trans e2)))
    | _ => cases hd
theorem sc_is_kind : FnScope N_is_kind P_is_kind (C8.fnScope s_is_kind) := fnScope_by (by decide +kernel)
theorem ok_kind (T : TxtG w K mg) : Cal P w K mg base 3 "is_kind" (sp_leaf K kindD) [] := by
  obtain ⟨ka, mgk, hK⟩ := T.c_KINDS
  refine mk_cal T.d_is_kind sc_is_kind (fun vs H Q E h => leaf_len h) (fun f cdv A outer s H vs Q E hr h => ?_)
  obtain ⟨z, ⟨kv, kn, v, d, rfl, hk, hv, rfl⟩, k⟩ := h
  have hu2 : (A.deeper (PyProof.Rows.envOfC "is_kind" (C8.fnScope s_is_kind) s.heap.objs.size f cdv)).units + 2 < cLine := by have := hr.un; omega
  refine ⟨_, pss_one (ps_ret (pe_or (pe_cmpR (op_inS hu2) (pv 1) (pe_gc (v := .ref ka) (by rfl) ⟨_, mgk, rfl⟩) (by rfl)) (pe_one (pe_c (ok_class_name T) hr (by decide) (by rfl) (pa_cons (pv 0) (pa_cons (pv 1) pa_nil)))))), ?_⟩
  refine s_ret (v := .bl (kindD kn d)) ?_ fun H1 e1 => k H1 e1
  exact ev_orV (ev_op (ev_var rfl) ev_c (rv_inS (zs := kinds3) (.inr (hK _)) hv)) fun _ => ev_call (ea_cons (ev_var rfl) (ea_cons (ev_var rfl) ea_nil)) (v_leaf (f := fun kn d => nmIn kn.cl d) hk hv)
end
end EE
set_option Elab.async false
set_option linter.all false
set_option maxRecDepth 100000
set_option maxHeartbeats 4000000
namespace EE
open PySem L2 Evl
open C8 (Cal cal0 pe_c pe_gc fnScope_by)
/-! ### dicts by their keys -/
section
variable {α : Type} {R : Str × α → Key × V → Prop}
def lookA (cs : List (Str × α)) (n : Str) : Option α := (cs.find? fun c => decide (c.1 = n)).map (·.2)
theorem pairA_look (hk : ∀ c p, R c p → p.1 = Sum.inr c.1) (n : Str) : ∀ {cs : List (Str × α)} {kvs : List (Key × V)}, Paired R cs kvs →
    (lookA cs n = none ∧ valV kvs (Sum.inr n : Key) = none) ∨ ∃ c v, lookA cs n = some c ∧ valV kvs (Sum.inr n : Key) = some v ∧ R (n, c) (Sum.inr n, v)
  | [], [], .nil => .inl ⟨rfl, rfl⟩
  | (c1, c2) :: cs, (p1, p2) :: kvs, .cons h t => by
    have h0 : p1 = Sum.inr c1 := hk _ _ h
    subst h0
    by_cases e : c1 = n
    · subst e
      refine .inr ⟨c2, p2, ?_, ?_, h⟩
      · unfold lookA; rw [List.find?_cons_of_pos (by simp)]; rfl
      · unfold valV; rw [List.find?_cons_of_pos (by simp)]; rfl
    · have e2 : ¬ (Sum.inr c1 : Key) = Sum.inr n := fun z => e (Sum.inr.inj z)
      have g1 : lookA ((c1, c2) :: cs) n = lookA cs n := by unfold lookA; rw [List.find?_cons_of_neg (by simp [e])]
      have g2 : valV ((Sum.inr c1, p2) :: kvs) (Sum.inr n : Key) = valV kvs (Sum.inr n : Key) := by unfold valV; rw [List.find?_cons_of_neg (by simp [e2])]
      rw [g1, g2]
      exact pairA_look hk n t
theorem pairA_keys (hk : ∀ c p, R c p → p.1 = Sum.inr c.1) : ∀ {cs : List (Str × α)} {kvs : List (Key × V)}, Paired R cs kvs → (kvs.map fun p => kV p.1) = (cs.map (·.1)).map V.str
  | [], [], .nil => rfl
  | c :: cs, p :: kvs, .cons h t => by
    rw [List.map_cons, List.map_cons, List.map_cons, pairA_keys hk t, hk _ _ h]
    rfl
theorem pairA_get (hk : ∀ c p, R c p → p.1 = Sum.inr c.1) : ∀ {cs : List (Str × α)} {kvs : List (Key × V)} {i : Nat} {v : V}, Paired R cs kvs → (kvs.map fun p => p.2)[i]? = some v → ∃ c, cs[i]? = some c ∧ R c (Sum.inr c.1, v)
  | [], [], _, _, .nil, h => by simp at h
  | c :: cs, (p1, p2) :: kvs, 0, v, .cons h t, hv => by
    have h0 : p1 = Sum.inr c.1 := hk _ _ h
    subst h0
    simp at hv
    subst hv
    exact ⟨c, rfl, h⟩
  | c :: cs, p :: kvs, i + 1, v, .cons _ t, hv => by
    obtain ⟨c', h1, h2⟩ := pairA_get hk (i := i) t (by simpa using hv)
    exact ⟨c', by simpa using h1, h2⟩
theorem pairA_mono {R' : Str × α → Key × V → Prop} (h : ∀ c p, R c p → R' c p) : ∀ {cs : List (Str × α)} {kvs : List (Key × V)}, Paired R cs kvs → Paired R' cs kvs
  | [], [], .nil => .nil
  | _ :: _, _ :: _, .cons x t => .cons (h _ _ x) (pairA_mono h t)
theorem lookA_some {cs : List (Str × α)} {n : Str} (h : n ∈ cs.map (·.1)) : (lookA cs n).isSome = true := by
  unfold lookA
  rw [Option.isSome_map, List.find?_isSome]
  obtain ⟨c, hc, e⟩ := List.mem_map.mp h
  exact ⟨c, hc, decide_eq_true e⟩
theorem lookA_in {cs : List (Str × α)} {n : Str} {c : α} (h : lookA cs n = some c) : (n, c) ∈ cs := by
  unfold lookA at h
  cases g : cs.find? (fun c => decide (c.1 = n)) with
  | none => rw [g] at h; cases h
  | some p =>
    rw [g] at h
    have h1 := List.mem_of_find?_eq_some g
    have h2 : p.1 = n := by have := List.find?_some g; simpa using this
    cases h
    subst h2
    exact h1
end
/-! ### functions (their blocks: none, or one return) -/
abbrev Blk := Dt
def RepB (K : PySem.W.Frag) (H : Hp) (b : Addr) (k : Blk) : Prop := At K H (.ref b) k
structure Fn where
  ps : List Str
  lvl : Int
  blk : Blk
def RepF (K : PySem.W.Frag) (H : Hp) (c : Str × Fn) (p : Key × V) : Prop :=
  p.1 = Sum.inr c.1 ∧ ∃ t pt bt, p.2 = .ref t ∧ SqT K H t [.ref pt, .int c.2.lvl, .ref bt] ∧ SqT K H pt (c.2.ps.map V.str) ∧ RepB K H bt c.2.blk
def RepFs (K : PySem.W.Frag) (H : Hp) (a : Addr) (fs : List (Str × Fn)) : Prop := ∃ kvs, Rd H a (.dK kvs) ∧ Paired (RepF K H) fs kvs
def RepFD (K : PySem.W.Frag) (H : Hp) (a : Addr) (fs : List (Str × Fn)) : Prop := ∃ kvs, H a = some (.dK kvs) ∧ Paired (RepF K H) fs kvs
theorem RepB.le {K : PySem.W.Frag} {H H' : Hp} {b : Addr} {k : Blk} (e : Le H H') (h : RepB K H b k) : RepB K H' b k := At.le e h
theorem RepF.le {K : PySem.W.Frag} {H H' : Hp} {c : Str × Fn} {p : Key × V} (e : Le H H') (h : RepF K H c p) : RepF K H' c p := by
  obtain ⟨h0, t, pt, bt, h1, h2, h3, h4⟩ := h
  exact ⟨h0, t, pt, bt, h1, e.t h2, e.t h3, h4.le e⟩
theorem RepFs.le {K : PySem.W.Frag} {H H' : Hp} {a : Addr} {fs : List (Str × Fn)} (e : Le H H') (h : RepFs K H a fs) : RepFs K H' a fs := by
  obtain ⟨kvs, h1, h2⟩ := h
  exact ⟨kvs, e _ _ h1, pairA_mono (fun _ _ => RepF.le e) h2⟩
theorem RepFD.ex {K : PySem.W.Frag} {H H' : Hp} {a : Addr} {fs : List (Str × Fn)} (e : Ex H H') (h : RepFD K H a fs) : RepFD K H' a fs := by
  obtain ⟨kvs, h1, h2⟩ := h
  exact ⟨kvs, e _ _ h1, pairA_mono (fun _ _ => RepF.le (Le.of e)) h2⟩
theorem RepFD.rd {K : PySem.W.Frag} {H : Hp} {a : Addr} {fs : List (Str × Fn)} (h : RepFD K H a fs) : RepFs K H a fs := by
  obtain ⟨kvs, h1, h2⟩ := h
  exact ⟨kvs, .inl h1, h2⟩
structure RightFn (fn : Fn) : Prop where
  lvl : 1 ≤ fn.lvl ∧ fn.lvl ≤ 2
  ps : (∀ z ∈ fn.ps, OkNm z) ∧ fn.ps.Nodup ∧ fn.ps.length ≤ 4
structure RightFs (fs : List (Str × Fn)) : Prop where
  len : 1 ≤ fs.length ∧ fs.length ≤ 12
  nm : ∀ c ∈ fs, OkNm c.1
  fn : ∀ c ∈ fs, RightFn c.2
  nd : (fs.map (·.1)).Nodup
section
variable {P : Program} {w : World} {K : PySem.W.Frag} {mg : Str → Option Value} {base : Heap}
theorem keyF {H : Hp} : ∀ c p, RepF K H c p → p.1 = Sum.inr c.1 := fun _ _ h => h.1
/-- unlike names, few of them -/
theorem v_unlikeT {H : Hp} {most : Int} {pt : Addr} {zs : List Str} (hm : most ≤ 900) (h : SqT K H pt (zs.map V.str)) (ok : ∀ z ∈ zs, OkNm z) (nd : zs.Nodup) (len : (zs.length : Int) ≤ most) : SpV (sp_unlike K) [.int most, .ref pt] H (.bl true) := by
  have er : tupUn most (some (zs.map V.str)) (zs.map fun _ => true) = true := by
    show ((true && (decide (((zs.map V.str).length : Int) ≤ most) && (zs.map fun _ => true).all id)) && decide (((zs.map V.str).map unV).Nodup)) = true
    rw [all_true, un_map, List.length_map]
    simp [nd, len]
  have z := v_unlike (K := K) (H := H) (most := most) (v := .ref pt) (o := some (zs.map V.str)) (bs := zs.map fun _ => true) hm ⟨.inl ⟨pt, _, rfl, h, rfl⟩, fun xs hx => by
    cases hx
    exact ⟨NmVs.ok ok, by rw [List.length_map]; omega⟩⟩
  rw [er] at z
  exact z
theorem v_lvl {H : Hp} {l : Int} (h : 1 ≤ l ∧ l ≤ 2) : SpV (sp_between K) [.int 1, .int 2, .int l] H (.bl true) := by
  have z := v_between (K := K) (H := H) (low := 1) (high := 2) (v := .int l) (o := some l) (.inl ⟨l, rfl, rfl⟩)
  have er : intBt 1 2 (some l) = true := by
    show (decide (1 ≤ l) && decide (l ≤ 2)) = true
    simp [h.1, h.2]
  rw [er] at z
  exact z
def sp_is_function (K : PySem.W.Frag) : Sp := PuV fun vs H z => ∃ v n fn, vs = [v] ∧ z = .bl true ∧ RepF K H (n, fn) (Sum.inr n, v) ∧ RightFn fn
theorem v_is_function {H : Hp} {v : V} {n : Str} {fn : Fn} (h : RepF K H (n, fn) (Sum.inr n, v)) (hr : RightFn fn) : SpV (sp_is_function K) [v] H (.bl true) := spv fun H1 e => ⟨v, n, fn, rfl, rfl, h.le (Le.of e), hr⟩
theorem sc_is_function : FnScope N_is_function P_is_function (C8.fnScope s_is_function) := fnScope_by (by decide +kernel)
theorem ok_is_function (T : Txt w K mg) : Cal P w K mg base 5 "is_function" (sp_is_function K) [] := by
  refine mk_cal T.d_is_function sc_is_function (fun vs H Q E h => ?_) (fun f cdv A outer s H vs Q E hr h => ?_)
  · obtain ⟨z, ⟨_, _, _, rfl, _⟩, _⟩ := h
    rfl
  · obtain ⟨z, ⟨v, n, fn, rfl, rfl, hc, hok⟩, k⟩ := h
    obtain ⟨_, t, pt, bt, rfl, g1, g2, g3⟩ := hc
    have nd := sc_is_function.nd
    refine ⟨_, pss_cons (ps_if (PW.pt (pw_or (pt_not (pt_val (pe_callB call_isi (by rfl) T.isi (by decide +kernel) (pa_cons (pv 0) (pa_cons (pe_bltn (v := .ty "tuple") (by rfl) T.tupT (u := .type "tuple") (by decide +kernel) (by rfl)) pa_nil)))))
        (pw_or1 (pt_cmpR op_ne (pe_callB call_len_seq (by rfl) T.len (by decide +kernel) (pa_cons (pv 0) pa_nil)) pe_int (nomark _))))) (pss_one (ps_ret pe_bl)) pss_nil)
      (pss_cons (ps_asg (pv 0) (pg_tup (by rfl) (pgs_cons (pg_name (i := 1) nd rfl (Or.inl rfl)) (pgs_cons (pg_name (i := 2) nd rfl (Or.inl rfl)) (pgs_cons (pg_name (i := 3) nd rfl (Or.inl rfl)) pgs_nil)))))
      (pss_one (ps_ret (pe_and (pe_c (ok_unlike T) hr (by decide) (by rfl) (pa_cons (pe_gc (by rfl) T.c_MOST_PARAMETERS) (pa_cons (pv 1) pa_nil)))
        (pe_one (pe_c (ok_between T) hr (by decide) (by rfl) (pa_cons pe_int (pa_cons pe_int (pa_cons (pv 2) pa_nil))))))))), ?_⟩
    refine q_no (et_orF (et_notT (et_B (ev_cb (ea_cons (ev_var rfl) (ea_cons ev_c ea_nil)) (rc_isi (.ty "tuple") (tyx_sqT g1) (kit_ty (by decide +kernel)))))) (et_test (ev_is (ev_op (ev_cb (ea_cons (ev_var rfl) ea_nil) (rc_lenS (.inr g1))) ev_c (rv_ne rfl)) (by simp)))) fun H1 e1 => ?_
    refine q_asgT3 (ev_var rfl) (ex_t e1 g1) fun H2 e2 => ?_
    refine s_ret (v := .bl true) (ev_andT ?_ ?_) fun H3 e3 => k H3 ((e1.trans e2).trans e3)
    · exact ev_call (ea_cons ev_c (ea_cons (ev_var rfl) ea_nil)) (v_unlikeT (by decide) (ex_t (e1.trans e2) g2) hok.ps.1 hok.ps.2.1 (by have := hok.ps.2.2; show (fn.ps.length : Int) ≤ 4; omega))
    · exact ev_call (ea_cons ev_c (ea_cons ev_c (ea_cons (ev_var rfl) ea_nil))) (v_lvl hok.lvl)
/-! are_functions -/
def sp_are_functions (K : PySem.W.Frag) : Sp := PuV fun vs H z => ∃ a fs, vs = [.ref a] ∧ z = .bl true ∧ RepFD K H a fs ∧ RightFs fs
theorem v_are_functions {H : Hp} {a : Addr} {fs : List (Str × Fn)} (h : RepFD K H a fs) (hr : RightFs fs) : SpV (sp_are_functions K) [.ref a] H (.bl true) := spv fun H1 e => ⟨a, fs, rfl, rfl, h.ex e, hr⟩
theorem sc_are_functions : FnScope N_are_functions P_are_functions (C8.fnScope s_are_functions) := fnScope_by (by decide +kernel)
theorem ok_are_functions (T : Txt w K mg) : Cal P w K mg base 6 "are_functions" (sp_are_functions K) [] := by
  refine mk_cal T.d_are_functions sc_are_functions (fun vs H Q E h => ?_) (fun f cdv A outer s H vs Q E hr h => ?_)
  · obtain ⟨z, ⟨_, _, rfl, _⟩, _⟩ := h
    rfl
  · obtain ⟨z, ⟨a, fs, rfl, rfl, hc, hok⟩, k⟩ := h
    have nd := sc_are_functions.nd
    refine ⟨_, pss_cons (ps_if (PW.pt (pw_or (pt_not (pt_val (pe_callB call_isi (by rfl) T.isi (by decide +kernel) (pa_cons (pv 0) (pa_cons (pe_bltn (v := .ty "dict") (by rfl) T.dictT (u := .type "dict") (by decide +kernel) (by rfl)) pa_nil)))))
        (pw_or1 (pt_not (pt_chain op_le op_le pe_int (pe_callB call_lenD (by rfl) T.len (by decide +kernel) (pa_cons (pv 0) pa_nil)) (pe_gc (by rfl) T.c_MOST_FUNCTIONS)))))) (pss_one (ps_ret pe_bl)) pss_nil)
      (pss_one (ps_ret (pe_and (pe_c (ok_are_names T) hr (by decide) (by rfl) (pa_cons (pv 0) pa_nil))
        (pe_one (pe_callB (cr_all rfl) (by rfl) T.all (by decide +kernel) (pa_cons (pe_lock (pe_lc (own := [("told", 1)]) (g := gName 1) (tt := tYes) rfl nd (pi_values (pv 0)) (blkOk_by (N := N_are_functions) (sc := C8.fnScope s_are_functions) (by decide +kernel))
          (fun _ _ _ _ _ => pg_name (i := 1) nd rfl (Or.inl rfl)) (fun _ _ _ _ _ => pts_nil) (fun _ _ _ _ _ => pe_c (ok_is_function T) hr (by decide) (by rfl) (pa_cons (pv 1) pa_nil)))) pa_nil)))))), ?_⟩
    obtain ⟨kvs, h1, h2⟩ := hc
    have hl : kvs.length = fs.length := (Paired.length h2).symm
    have keys := pairA_keys keyF h2
    obtain ⟨l1, l2⟩ := hok.len
    refine q_no (et_orF (et_notT (et_B (ev_cb (ea_cons (ev_var rfl) (ea_cons ev_c ea_nil)) (rc_isi (.ty "dict") (.base (.dK h1)) (kit_ty (by decide +kernel)))))) (et_notT ?_)) fun H1 e1 => ?_
    · refine et_test (ev_is (ev_chain ev_c (ev_cb (ea_cons (ev_var rfl) ea_nil) (rc_lenD h1)) rv_I0 fun _ => ⟨_, ev_c, rv_I0⟩) ?_)
      show V.bl (decide ((1 : Int) ≤ (kvs.length : Nat)) && decide (((kvs.length : Nat) : Int) ≤ 12)) = .bl true
      rw [decide_eq_true (by omega), decide_eq_true (by omega)]; rfl
    · replace h1 := e1 _ _ h1
      replace h2 := pairA_mono (fun _ _ => RepF.le (Le.of e1)) h2
      refine s_ret (v := .bl true) (ev_andT ?_ ?_) fun H3 e3 => k H3 (e1.trans e3)
      · refine ev_is (ev_call (ea_cons (ev_var rfl) ea_nil) (v_are_names (bs := (fs.map (·.1)).map fun _ => true) ⟨a, rfl, .inr (.inr ⟨kvs, h1, rfl⟩)⟩ ?_ (by rw [List.length_map]; omega))) (by rw [all_true])
        rw [keys]
        exact NmVs.ok fun z hz => by
          obtain ⟨c, hc, rfl⟩ := List.mem_map.mp hz
          exact hok.nm c hc
      · refine ev_is (ev_cbL (evl_lock h1 fun od => el_lcA ((fs.map (·.1)).map fun _ => V.bl true) (by rw [List.length_map, List.length_map, List.length_map]; omega) (ei_vals (ev_var rfl) upd_same) (by rw [List.length_map]; omega) (fun _ => rfl) fun i x y H3 e3 hxi hy => ?_) fun p H3 e3 hp => rc_all (bs := (fs.map (·.1)).map fun _ => true) (sq_of (by rw [hp, consts_bl]))) (by rw [all_true])
        obtain ⟨c, hc, hrep⟩ := pairA_get keyF h2 hxi
        have : y = .bl true := by
          obtain ⟨_, _, rfl⟩ := List.mem_map.mp (List.mem_of_getElem? hy)
          rfl
        subst this
        exact ev_call (ea_cons (ev_var rfl) ea_nil) (v_is_function (hrep.le ((Le.lock h1).trans (Le.of e3))) (hok.fn c (List.mem_of_getElem? hc)))
end
end EE
set_option Elab.async false
set_option linter.all false
set_option maxRecDepth 100000
set_option maxHeartbeats 4000000
namespace EE
open PySem L2 Evl
open C8 (Cal cal0 pe_c pe_gc fnScope_by)
section
variable {K : PySem.W.Frag} {σ : L2.St} {H H' : Hp} {ta tb te : TE} {t u : TT} {x y z v : V}
/-- locked at d -/
def Lk (H : Hp) (d : Addr) (kvs : List (Key × V)) (od : Obj) : Hp := upd H d (.frz od (.dK kvs))
theorem Lk.back {d : Addr} {kvs : List (Key × V)} {od : Obj} {H2 : Hp} (hd : H d = some (.dK kvs)) (e : Ex (Lk H d kvs od) H2) : Ex H (upd H2 d (.dK kvs)) := fun a o ha => by
  by_cases had : a = d
  · subst had; rw [hd] at ha; rw [upd_same]; exact ha
  · rw [upd_ne had]; exact e a o (by unfold Lk; rw [upd_ne had]; exact ha)
theorem Lk.at {d : Addr} {kvs : List (Key × V)} {od : Obj} {H2 : Hp} (e : Ex (Lk H d kvs od) H2) : H2 d = some (.frz od (.dK kvs)) := e _ _ upd_same
/-- for g in (what is walked of d): a body that makes new things alone; S tells the slots -/
theorem s_forLock {d : Addr} {kvs : List (Key × V)} {wi : TI} {xs : List V} {g : TG} {tu : TS} {D : Ends} (hd : H d = some (.dK kvs)) (hi : ∀ od, EvI wi σ (Lk H d kvs od) xs) (S : Nat → L2.St → Prop) (h0 : S 0 σ)
    (hs : ∀ od i x σ' H1, Ex (Lk H d kvs od) H1 → xs[i]? = some x → S i σ' → ∀ E : Ends, (∀ σ2 H2, S (i + 1) σ2 → Ex H1 H2 → E.nx σ2 H2) → g x σ' H1 fun σ2 H2 => tu E σ2 H2)
    (k : ∀ σ' H1, S xs.length σ' → Ex H H1 → D.nx σ' H1) : tLock (tFor wi g tu) D σ H :=
  ⟨d, .dK kvs, hd, trivial, fun od => hi od _ (Ex.refl _) _ fun J H2 e2 ⟨G, w, hG⟩ =>
    for_it w (fun i σ' H' => S i σ' ∧ Ex (Lk H d kvs od) H' ∧ Ex H2 H') ⟨h0, e2, Ex.refl H2⟩ (fun i σ' H' _ p => hG H' p.2.2) (fun i x σ' H' H'' hi' p y => by
      obtain ⟨rfl, hy⟩ := y
      obtain ⟨p1, p2, p3⟩ := p
      exact hs od i x σ' _ p2 hy p1 _ fun σ2 H3 q1 q2 => ⟨q1, p2.trans q2, p3.trans q2⟩) (fun σ' H' p => ⟨Lk.at p.2.1, k σ' _ p.1 (Lk.back hd p.2.1)⟩)⟩
theorem q_forLock {d : Addr} {kvs : List (Key × V)} {wi : TI} {xs : List V} {g : TG} {tu tz : TS} {D : Ends} (hd : H d = some (.dK kvs)) (hi : ∀ od, EvI wi σ (Lk H d kvs od) xs) (S : Nat → L2.St → Prop) (h0 : S 0 σ)
    (hs : ∀ od i x σ' H1, Ex (Lk H d kvs od) H1 → xs[i]? = some x → S i σ' → ∀ E : Ends, (∀ σ2 H2, S (i + 1) σ2 → Ex H1 H2 → E.nx σ2 H2) → g x σ' H1 fun σ2 H2 => tu E σ2 H2)
    (k : ∀ σ' H1, S xs.length σ' → Ex H H1 → tz D σ' H1) : tSeq (tLock (tFor wi g tu)) tz D σ H := s_forLock (D := { D with nx := tz D }) hd hi S h0 hs k
theorem et_truT {p : Addr} {xs : List V} (h : Ev te σ H (.ref p)) (hx : SqT K H p xs) : EvT (fun σ H Q => te σ H fun x H' => ∃ k, TruV K x H' k ∧ Q k H') σ H (!xs.isEmpty) := fun H1 e Q q =>
  h H1 e _ fun H2 e2 => ⟨_, .inr (.inl ⟨xs, ex_t (e.trans e2) hx, rfl⟩), q H2 e2⟩
end
section
variable {P : Program} {w : World} {K : PySem.W.Frag} {mg : Str → Option Value} {base : Heap}
/-- each method is a function that has a parameter -/
def MethOk (cs : List (Str × Cl)) (fs : List (Str × Fn)) : Prop := ∀ c ∈ cs, ∀ p ∈ c.2.ms, ∃ fn, lookA fs p.2 = some fn ∧ fn.ps ≠ []
def sp_are_methods_of (K : PySem.W.Frag) : Sp := PuV fun vs H z => ∃ a b cs fs, vs = [.ref a, .ref b] ∧ z = .bl true ∧ RepD K H a cs ∧ RepFD K H b fs ∧ MethOk cs fs ∧ a ≠ b
theorem v_are_methods_of {H : Hp} {a b : Addr} {cs : List (Str × Cl)} {fs : List (Str × Fn)} (h : RepD K H a cs) (hf : RepFD K H b fs) (hm : MethOk cs fs) (hne : a ≠ b) : SpV (sp_are_methods_of K) [.ref a, .ref b] H (.bl true) :=
  spv fun H1 e => ⟨a, b, cs, fs, rfl, rfl, h.ex e, hf.ex e, hm, hne⟩
theorem sc_are_methods_of : FnScope N_are_methods_of P_are_methods_of (C8.fnScope s_are_methods_of) := fnScope_by (by decide +kernel)
theorem skv_vals (l : List (Str × Str)) : ((skv l).map fun p => p.2) = (l.map (·.2)).map V.str := by unfold skv; rw [List.map_map, List.map_map]; rfl
theorem skv_keys (l : List (Str × Str)) : ((skv l).map fun p => kV p.1) = (l.map (·.1)).map V.str := by unfold skv; rw [List.map_map, List.map_map]; rfl
theorem ok_are_methods_of (T : Txt w K mg) : Cal P w K mg base 1 "are_methods_of" (sp_are_methods_of K) [] := by
  refine mk_cal T.d_are_methods_of sc_are_methods_of (fun vs H Q E h => ?_) (fun f cdv A outer s H vs Q E hr h => ?_)
  · obtain ⟨z, ⟨_, _, _, _, rfl, _⟩, _⟩ := h
    rfl
  · obtain ⟨z, ⟨a, b, cs, fs, rfl, rfl, hc, hf, hm, hne⟩, k⟩ := h
    have nd := sc_are_methods_of.nd
    have hu := hu_of hr
    refine ⟨_, pss_cons (ps_lock (ps_for PassesOwn.never rfl (pi_values (pv 0)) (pg_tup (by rfl) (pgs_cons (pg_name (i := 2) nd rfl (Or.inl rfl)) (pgs_cons (pg_name (i := 2) nd rfl (Or.inl rfl)) (pgs_cons (pg_name (i := 2) nd rfl (Or.inl rfl)) (pgs_cons (pg_name (i := 3) nd rfl (Or.inl rfl)) pgs_nil)))))
        (pss_one (ps_lock (ps_for PassesOwn.never rfl (pi_values (pv 3)) (pg_name (i := 4) nd rfl (Or.inl rfl))
          (pss_one (ps_if (PW.pt (pw_or (pt_cmp (pc_dnotin hu (pv 4) (pv 1))) (pw_or1 (pt_not (pt_truth (pe_ix ix_tup (pe_dget hu (pv 1) (pv 4) (fun _ _ => rfl)) pe_int (fun _ _ => rfl)) (by intro _; rfl)))))) (pss_one (ps_ret pe_bl)) pss_nil)))))))
      (pss_one (ps_ret pe_bl)), ?_⟩
    obtain ⟨kvs, h1, h2⟩ := hc
    obtain ⟨kf, f1, f2⟩ := hf
    refine q_forLock h1 (fun od => ei_vals (ev_var rfl) upd_same) (fun _ σ' => ∃ v1 v2 v3, σ' = [some (.ref a), some (.ref b), v1, v2, v3]) ⟨_, _, _, rfl⟩ ?_ ?_
    · rintro od i x σ' H1 e1 hx ⟨v1, v2, v3, rfl⟩ D hD
      obtain ⟨c, hcm, _, t, fl, m, hxt, g1, g2, g3⟩ := pairC_get (repCs_lock (od := od) h1 h2) hx
      obtain rfl : x = V.ref t := hxt
      replace g1 := ex_t e1 g1
      replace g3 := e1 _ _ g3
      have f1' : H1 b = some (.dK kf) := e1 _ _ (by unfold Lk; rw [upd_ne (Ne.symm hne)]; exact f1)
      have f2' : Paired (RepF K H1) fs kf := pairA_mono (fun _ _ => RepF.le ((Le.lock h1).trans (Le.of e1))) f2
      refine ⟨t, _, rfl, g1, rfl, _, _, rfl, _, _, rfl, _, _, rfl, _, _, rfl, rfl, ?_⟩
      refine s_forLock g3 (fun od2 => ei_vals (ev_var rfl) upd_same) (fun _ σ' => ∃ v1 v3, σ' = [some (.ref a), some (.ref b), v1, some (.ref m), v3]) ⟨_, _, rfl⟩ ?_ ?_
      · rintro od2 j y σ2 H2 e2 hy ⟨w1, w3, rfl⟩ D2 hD2
        rw [skv_vals] at hy
        obtain ⟨z, hz, rfl⟩ := List.mem_map.mp (List.mem_of_getElem? hy)
        obtain ⟨p, hp, rfl⟩ := List.mem_map.mp hz
        obtain ⟨fn, hfn, hps⟩ := hm c (List.mem_of_getElem? hcm) p hp
        have f1'' : Rd H2 b (.dK kf) := ((Le.lock g3).trans (Le.of e2)) _ _ (.inl f1')
        have f2'' : Paired (RepF K H2) fs kf := pairA_mono (fun _ _ => RepF.le ((Le.lock g3).trans (Le.of e2))) f2'
        rcases pairA_look keyF p.2 f2'' with ⟨q, _⟩ | ⟨fn', v', q1, q2, q3⟩
        · rw [hfn] at q; cases q
        · rw [hfn] at q1; cases q1
          obtain ⟨_, t2, pt, bt, rfl, r1, r2, _⟩ := q3
          refine s_when (b := false) (et_orF (et_is (et_B (et_dnotin (k := Sum.inr p.2) (ev_var rfl) (ev_var rfl) f1'')) (by rw [q2]; rfl)) (et_notT (et_is (et_truT (ev_op (ev_dget (k := Sum.inr p.2) (ev_var rfl) (ev_var rfl) f1'' q2) ev_c (rv_ixT r1 (at_of (j := 0) rfl rfl))) r2) ?_))) (fun z => nomatch z) fun _ H3 e3 => hD2 _ _ ⟨_, _, rfl⟩ e3
          have : fn.ps.map V.str ≠ [] := fun z => hps (List.map_eq_nil_iff.mp z)
          show (!(fn.ps.map V.str).isEmpty) = true
          cases hh : fn.ps.map V.str with
          | nil => exact absurd hh this
          | cons _ _ => rfl
      · rintro σ2 H2 ⟨w1, w3, rfl⟩ e2
        exact hD _ _ ⟨_, _, _, rfl⟩ e2
    · rintro σ' H1 ⟨v1, v2, v3, rfl⟩ e1
      exact s_ret (v := .bl true) ev_c fun H2 e2 => k H2 (e1.trans e2)
end
end EE
set_option Elab.async false
set_option linter.all false
set_option maxRecDepth 100000
set_option maxHeartbeats 4000000
namespace EE
open PySem L2 Evl
open C8 (Cal cal0 pe_c pe_gc fnScope_by)
section
variable {K : PySem.W.Frag} {σ : L2.St} {H H' : Hp} {ta tb tc te : TE} {t u : TT} {x y z v : V}
def WalkP (J : It) (H : Hp) (xs ys : List V) : Prop := ∃ G : Hp → Prop, Walk J xs.length G (YPair (fun i => xs[i]?) (fun i => ys[i]?)) ∧ ∀ H1, Ex H H1 → G H1
def EvIP (wi : TI) (σ : L2.St) (H : Hp) (xs ys : List V) : Prop := ∀ H1, Ex H H1 → ∀ R : It → Hp → Prop, (∀ J H2, Ex H1 H2 → WalkP J H2 xs ys → R J H2) → wi σ H1 R
theorem walk_zipT {a b : Addr} {xs ys : List V} (hn : xs.length = ys.length) : Walk (RZ.ItzT K a b) xs.length (fun H => SqT K H a xs ∧ SqT K H b ys) (YPair (fun i => xs[i]?) (fun i => ys[i]?)) := by
  refine ⟨fun i _ hi q => ?_, fun _ q => ⟨xs, ys, q.1, q.2, .inl (Nat.le_refl _)⟩, fun i H v H' _ q y => ?_⟩
  · have h2 : i < ys.length := by omega
    exact ⟨xs, ys, xs[i], ys[i], q.1, q.2, by simp [hi], by simp [h2]⟩
  · obtain ⟨T, x, z, h1, h2, h3, h4, h5⟩ := y
    exact ⟨T, x, z, h1, h2, h3, h4 xs q.1, h5 ys q.2⟩
/-- zip(t, u), u a new tuple -/
theorem eip_zipU {a : Addr} {xs ys : List V} (h : Ev ta σ H (.ref a)) (hx : SqT K H a xs) (hb : EvU tb σ H ys) (hn : xs.length = ys.length) : EvIP (RZ.iZipA K (tCons ta (tCons tb tNil))) σ H xs ys := fun H1 e R q =>
  h H1 e _ fun H2 e2 => hb H2 (e.trans e2) _ fun p H3 _ e3 h3 => ⟨a, p, xs, ys, rfl, .inr ⟨ex_t ((e.trans e2).trans e3) hx, st_of h3, q _ H3 (e2.trans e3) ⟨_, walk_zipT (K := K) hn, fun H4 e4 => ⟨ex_t (((e.trans e2).trans e3).trans e4) hx, ex_t e4 (st_of h3)⟩⟩⟩⟩
/-- a comprehension over pairs, both named -/
theorem el_lcP {wi : TI} {xs ys : List V} {j1 j2 : Nat} {vs : List Nat} (f : Nat → Bool) (v : Nat → V) (h : EvIP wi σ H xs ys) (hz : xs.length ≤ 40000) (hw : ∀ x y, wipe (((wipe σ vs).set j1 (some x)).set j2 (some y)) vs = wipe σ vs)
    (ht : ∀ (i : Nat) (x y : V) H1, Ex H H1 → xs[i]? = some x → ys[i]? = some y → EvT t (((wipe σ vs).set j1 (some x)).set j2 (some y)) H1 (f i)) (he : ∀ (i : Nat) (x y : V) H1, Ex H H1 → xs[i]? = some x → ys[i]? = some y → f i = true → Ev te (((wipe σ vs).set j1 (some x)).set j2 (some y)) H1 (v i)) :
    EvL (tLc wi (gTup K 2 (gCons (gName j1) (gCons (gName j2) gNil))) t te vs) σ H (given xs.length f v) := fun H0 e Q q => h H0 e _ fun J H1 e1 ⟨G, w, hG⟩ Dl hD =>
  lc_it w (Cw H1 f v Dl) ⟨hD, Ex.new hD, upd_same⟩ (fun i H' _ p => hG H' p.2.1) (fun i x H' H'' hi p y => by
    obtain ⟨T, x1, y1, rfl, hT, rfl, h1, h2⟩ := y
    have p' : Cw H1 f v Dl i (upd H' T (.tup [x1, y1])) := ⟨p.1, p.2.1.trans (Ex.new hT), by
      rw [upd_ne (fun z => by rw [← z] at hT; rw [p.2.2] at hT; cases hT)]; exact p.2.2⟩
    exact ⟨T, _, rfl, st_of upd_same, rfl, _, _, rfl, _, _, rfl, rfl, hw _ _, cw_turn p' (by omega) (ht i x1 y1 H1 (e.trans e1) h1 h2) (fun hf => he i x1 y1 H1 (e.trans e1) h1 h2 hf)⟩)
    (fun H' p => q Dl H' (fresh_back e1 p.1) (e1.trans p.2.1) p.2.2)
/-- all of them, each giving what bs says -/
theorem el_lcPA {wi : TI} {xs ys : List V} {j1 j2 : Nat} {vs : List Nat} (bs : List V) (hb : bs.length = xs.length) (h : EvIP wi σ H xs ys) (hz : xs.length ≤ 40000) (hw : ∀ x y, wipe (((wipe σ vs).set j1 (some x)).set j2 (some y)) vs = wipe σ vs)
    (he : ∀ (i : Nat) (x y b : V) H1, Ex H H1 → xs[i]? = some x → ys[i]? = some y → bs[i]? = some b → Ev te (((wipe σ vs).set j1 (some x)).set j2 (some y)) H1 b) :
    EvL (tLc wi (gTup K 2 (gCons (gName j1) (gCons (gName j2) gNil))) tYes te vs) σ H bs := by
  have z := el_lcP (K := K) (te := te) (t := tYes) (fun _ => true) (fun i => bs.getD i .non) h hz hw (fun _ _ _ _ _ _ _ => et_yes) (fun i x y H1 e hx hy _ => he i x y _ H1 e hx hy (by
    have hi : i < bs.length := by rw [hb]; exact (List.getElem?_eq_some_iff.mp hx).1
    rw [List.getElem?_eq_getElem hi, List.getD_eq_getElem?_getD, List.getElem?_eq_getElem hi] <;> rfl))
  rw [given_all hb] at z
  exact z
end
end EE
namespace EE
open PySem L2 Evl
section
variable {K : PySem.W.Frag} {σ : L2.St} {H : Hp} {te : TE}
theorem eu_sl {tl th : TO} {a : Addr} {xs : List V} {lo hi : Option Int} (h : Ev te σ H (.ref a)) (h1 : EvO tl σ H lo) (h2 : EvO th σ H hi) (hs : SqT K H a xs) (hc : ¬ (HT.sIx xs.length 0 lo = 0 ∧ HT.sIx xs.length xs.length hi = xs.length)) : EvU (tSl (rSlT K) te tl th) σ H (cutV xs lo hi) := fun H1 e Q q =>
  h H1 e _ fun H2 e2 => h1 H2 (e.trans e2) _ fun H3 e3 => h2 H3 ((e.trans e2).trans e3) _ fun H4 e4 => ⟨a, xs, rfl, ex_t (((e.trans e2).trans e3).trans e4) hs, hc, fun p hp => q p _ (fresh_back ((e2.trans e3).trans e4) hp) (((e2.trans e3).trans e4).trans (Ex.new hp)) upd_same⟩
end
end EE
set_option Elab.async false
set_option linter.all false
set_option maxRecDepth 100000
set_option maxHeartbeats 1000000
namespace EE
open PySem L2 Evl
open C8 (Cal cal0 pe_c pe_gc fnScope_by)
section
variable {P : Program} {w : World} {K : PySem.W.Frag} {mg : Str → Option Value} {base : Heap}
/-- a test of a tuple's length and its first word -/
theorem et_isNot {σ : L2.St} {H : Hp} {te : TE} {v : V} {d : Dt} (hv : At K H v d) (he : Ev te σ H v) :
    EvT (tAnd (tB (tCB (rIsi K) (tCons te (tCons (tC (.ty "tuple")) tNil)))) (tAnd (tTest (tOp rEq (tCB (fun ys H Q => ∃ p zs, ys = [V.ref p] ∧ (SqL K H p zs ∨ SqT K H p zs) ∧ Q (.int zs.length) H) (tCons te tNil)) (tC (.int 2)))) (tTest (tOp (rEqS K) (tOp (rIxT K) te (tC (.int 0))) (tC (.str "not")))))) σ H (isNot d) := by
  cases hd : d.isTup with
  | false =>
    have e0 : isNot d = false := by cases d <;> first | rfl | cases hd
    rw [e0]
    exact et_is (et_and (a := false) (b := false) (et_is (et_isTup hv he) hd) fun z => nomatch z) rfl
  | true =>
    cases hv with
    | @tup a vs xs h r hz =>
      refine et_is (et_and (a := true) (b := isNot (.tup xs)) (et_isTup (.tup h r hz) he) fun _ => ?_) rfl
      refine et_and (a := decide (xs.length = 2)) (b := isS "not" (xs.headD .non)) (et_test (ev_is (ev_op (ev_lenA he h r) (ev_c (v := .int 2)) (rv_eq rfl)) (congrArg V.bl (dec_intc (m := 2) 2 rfl)))) fun hl => ?_
      have hl1 := of_decide_eq_true hl
      match xs, hl1 with
      | [x, y], _ =>
        obtain ⟨w0, a1, a2, a3⟩ := ev_ixA (σ := σ) (te := te) (i := 0) he h r (d := x) rfl
        exact et_test (ev_op a3 ev_c (rv_eqS a1))
    | _ => cases hd
theorem isNot_snd {d : Dt} (h : isNot d = true) : ∃ a b, d = .tup [a, b] := by
  cases d with
  | tup xs =>
    have h' : (decide (xs.length = 2) && isS "not" (xs.headD .non)) = true := h
    rw [Bool.and_eq_true, decide_eq_true_eq] at h'
    match xs, h'.1 with
    | [a, b], _ => exact ⟨a, b, rfl⟩
  | _ => cases h
theorem sc_is_test : FnScope N_is_test P_is_test (C8.fnScope s_is_test) := fnScope_by (by decide +kernel)
theorem ok_test (T : TxtG w K mg) : Cal P w K mg base 4 "is_test" (sp_leaf K testD) [] := by
  refine mk_cal T.d_is_test sc_is_test (fun vs H Q E h => leaf_len h) (fun f cdv A outer s H vs Q E hr h => ?_)
  obtain ⟨z, ⟨kv, kn, v, d, rfl, hk, hv, rfl⟩, k⟩ := h
  have nd := sc_is_test.nd
  have hu1 : (A.deeper (PyProof.Rows.envOfC "is_test" (C8.fnScope s_is_test) s.heap.objs.size f cdv)).units + 1 < cLine := hu_of hr
  refine ⟨_, Evl.pss_cut (ps_for PassesOwn.never rfl (pi_range1 (by rfl) T.rangeG (pa_cons (pe_gc (by rfl) T.c_MOST_NOTS) pa_nil)) (pg_name (i := 2) nd rfl (Or.inl rfl))
      (pss_one (ps_if (PW.pt (pw_and (pt_val (pe_callB call_isi (by rfl) T.isi (by decide +kernel) (pa_cons (pv 1) (pa_cons (pe_bltn (v := .ty "tuple") (by rfl) T.tupT (u := .type "tuple") (by decide +kernel) (by rfl)) pa_nil))))
        (pw_and (pt_cmpR op_eq (pe_callB call_len_seq (by rfl) T.len (by decide +kernel) (pa_cons (pv 1) pa_nil)) pe_int (nomark _)) (pw_and1 (pt_cmpR (op_eqS hu1) (pe_ix ix_tup (pv 1) pe_int (fun _ _ => rfl)) pe_str (nomark _))))))
        (pss_one (ps_set (i := 1) nd rfl (Or.inl rfl) (pe_ix ix_tup (pv 1) pe_int (fun _ _ => rfl)))) pss_nil)))
    (pss_cons (ps_if (PW.pt (pw_or (pt_not (pt_val (pe_callB call_isi (by rfl) T.isi (by decide +kernel) (pa_cons (pv 1) (pa_cons (pe_bltn (v := .ty "tuple") (by rfl) T.tupT (u := .type "tuple") (by decide +kernel) (by rfl)) pa_nil)))))
      (pw_or1 (pt_cmpR op_ne (pe_callB call_len_seq (by rfl) T.len (by decide +kernel) (pa_cons (pv 1) pa_nil)) pe_int (nomark _))))) (pss_one (ps_ret pe_bl)) pss_nil)
    (pss_cons (ps_if (pt_cmpR (op_eqS hu1) (pe_ix ix_tup (pv 1) pe_int (fun _ _ => rfl)) pe_str (nomark _))
      (pss_one (ps_ret (pe_and (pe_c (ok_expr T) hr (by decide) (by rfl) (pa_cons (pv 0) (pa_cons (pe_ix ix_tup (pv 1) pe_int (fun _ _ => rfl)) pa_nil))) (pe_one (pe_c (ok_expr T) hr (by decide) (by rfl) (pa_cons (pv 0) (pa_cons (pe_ix ix_tup (pv 1) pe_int (fun _ _ => rfl)) pa_nil))))))) pss_nil)
    (pss_one (ps_ret (pe_and (pe_cmpR (op_eqS hu1) (pe_ix ix_tup (pv 1) pe_int (fun _ _ => rfl)) pe_str (nomark _)) (pe_and (pe_c (ok_expr T) hr (by decide) (by rfl) (pa_cons (pv 0) (pa_cons (pe_ix ix_tup (pv 1) pe_int (fun _ _ => rfl)) pa_nil))) (pe_one (pe_c (ok_kind T) hr (by decide) (by rfl) (pa_cons (pv 0) (pa_cons (pe_ix ix_tup (pv 1) pe_int (fun _ _ => rfl)) pa_nil)))))))))), ?_⟩
  refine q_cut (M := fun σ'' H'' => ∃ v' v2, σ'' = [some kv, some v', v2] ∧ At K H'' v' (strips 3 d) ∧ Ex H H'') ?_ ?_
  · refine s_forR1 (n := 3) (ea_cons ev_c ea_nil) ⟨by decide, by decide⟩ (fun j σ'' H'' => ∃ v' v2, σ'' = [some kv, some v', v2] ∧ At K H'' v' (strips j d) ∧ Ex H H'') (fun H1 e1 => ⟨v, _, rfl, hv.ex e1, e1⟩) ?_ (fun _ _ q => q)
    rintro i σ'' H1 hi ⟨v', v2, rfl, hv', e1⟩
    refine s_when (b := isNot (strips i d)) (et_isNot hv' (ev_var rfl)) (fun hb H2 e2 => ?_) (fun hb H2 e2 => ⟨v', _, rfl, ?_, e1.trans e2⟩)
    · obtain ⟨a, b, hab⟩ := isNot_snd hb
      have hs : strips (i + 1) d = b := by
        show (if isNot (strips i d) then sndD (strips i d) else strips i d) = b
        rw [if_pos hb, hab]
        rfl
      rw [hab] at hv'
      cases hv' with
      | tup h r hz =>
        obtain ⟨w0, a1, a2, a3⟩ := ev_ixA (σ := [some kv, some (.ref _), some (.int (i : Nat))]) (te := tVar 1) (i := 1) (ev_var rfl) (ex_t e2 h) (r.ex e2) (d := b) rfl
        exact s_asg (v := w0) a3 fun H3 e3 => ⟨w0, _, rfl, by rw [hs]; exact a1.ex e3, (e1.trans e2).trans e3⟩
    · have hs : strips (i + 1) d = strips i d := by
        show (if isNot (strips i d) then sndD (strips i d) else strips i d) = _
        rw [if_neg (by rw [hb]; decide)]
      rw [hs]
      exact hv'.ex e2
  · rintro σ'' H1 ⟨v', v2, rfl, hv', e1⟩
    replace k : RetV (.bl (coreD kn (strips 3 d))) H Q := k
    generalize strips 3 d = c at hv' k
    cases hd : c.isTup with
    | false =>
      have e0 : coreD kn c = false := by cases c <;> first | rfl | cases hd
      rw [e0] at k
      exact q_when (b := true) (et_is (et_or (a := true) (b := true) (et_is (et_not (et_isTup hv' (ev_var rfl))) (by rw [hd]; rfl)) fun z => nomatch z) rfl) (fun hb H2 e2 => s_ret (v := .bl false) ev_c fun H3 e3 => k H3 ((e1.trans e2).trans e3)) (fun z => nomatch z)
    | true =>
      cases hv' with
      | @tup a vs xs h r hz =>
        refine q_when (b := !decide (xs.length = 3)) (et_is (et_or (a := false) (b := !decide (xs.length = 3)) (et_notT (et_isTup (.tup h r hz) (ev_var rfl))) fun _ => et_test (ev_is (ev_op (ev_lenA (ev_var rfl) h r) (ev_c (v := .int 3)) (rv_ne rfl)) (congrArg (fun b => V.bl (!b)) (dec_intc (m := 3) 3 rfl)))) rfl) (fun hb H2 e2 => ?_) (fun hb H2 e2 => ?_)
        · refine s_ret (v := .bl false) ev_c fun H3 e3 => ?_
          have e0 : coreD kn (.tup xs) = false := by
            show (decide (xs.length = 3) && _) = false
            rw [show decide (xs.length = 3) = false by simpa using hb]
            rfl
          rw [e0] at k
          exact k H3 ((e1.trans e2).trans e3)
        · have hl : xs.length = 3 := by simpa using hb
          match xs, hl with
          | [x0, x1, x2], _ =>
            have ix : ∀ {i : Nat} {x : Dt} {σ' : L2.St} {G : Hp}, σ'[1]? = some (some (.ref a)) → Ex H2 G → [x0, x1, x2][i]? = some x → ∃ w, At K G w x ∧ Ev (tOp (rIxT K) (tVar 1) (tC (.int (i : Nat)))) σ' G w := fun {i x σ' G} h1 eG hx => by
              obtain ⟨w0, a1, a2, a3⟩ := ev_ixA (σ := σ') (te := tVar 1) (i := i) (ev_var h1) (ex_t (e2.trans eG) h) (r.ex (e2.trans eG)) (d := x) hx
              exact ⟨w0, a1, a3⟩
            have ce : ∀ {i : Nat} {x : Dt} {G : Hp} {E' : XK}, Ex H2 G → [x0, x1, x2][i]? = some x → Ev (tCall (sp_leaf K fun _ d => exprD d) [] E' (tCons (tVar 0) (tCons (tOp (rIxT K) (tVar 1) (tC (.int (i : Nat)))) tNil))) [some kv, some (.ref a), v2] G (.bl (exprD x)) := fun {i x G E'} eG hx => by
              obtain ⟨w0, a1, a3⟩ := ix (σ' := [some kv, some (.ref a), v2]) rfl eG hx
              exact ev_call (ea_cons (ev_var rfl) (ea_cons a3 ea_nil)) (v_leaf (f := fun _ d => exprD d) (hk.ex ((e1.trans e2).trans eG)) a1)
            obtain ⟨w0, a1, a3⟩ := ix (σ' := [some kv, some (.ref a), v2]) rfl (Ex.refl H2) (i := 0) (x := x0) rfl
            have kk : coreD kn (.tup [x0, x1, x2]) = if isS "same" x0 then exprD x1 && exprD x2 else isS "kind" x0 && (exprD x1 && kindD kn x2) := rfl
            rw [kk] at k
            refine q_when (b := isS "same" x0) (et_test (ev_op a3 ev_c (rv_eqS a1))) (fun hs H3 e3 => ?_) (fun hs H3 e3 => ?_)
            · rw [if_pos hs] at k
              exact s_ret (v := .bl (exprD x1 && exprD x2)) (ev_andV (ce (i := 1) e3 rfl) fun _ => ce (i := 2) e3 rfl) fun H4 e4 => k H4 (((e1.trans e2).trans e3).trans e4)
            · rw [if_neg (by rw [hs]; decide)] at k
              obtain ⟨w0, a1, a3⟩ := ix (σ' := [some kv, some (.ref a), v2]) rfl e3 (i := 0) (x := x0) rfl
              obtain ⟨w2, b1, b3⟩ := ix (σ' := [some kv, some (.ref a), v2]) rfl e3 (i := 2) (x := x2) rfl
              exact s_ret (v := .bl (isS "kind" x0 && (exprD x1 && kindD kn x2))) (ev_andV (ev_op a3 ev_c (rv_eqS a1)) fun _ => ev_andV (ce (i := 1) e3 rfl) fun _ => ev_call (ea_cons (ev_var rfl) (ea_cons b3 ea_nil)) (v_leaf (f := kindD) (hk.ex ((e1.trans e2).trans e3)) b1)) fun H4 e4 => k H4 (((e1.trans e2).trans e3).trans e4)
      | _ => cases hd
end
end EE
set_option Elab.async false
set_option linter.all false
set_option maxRecDepth 100000
set_option maxHeartbeats 4000000
namespace EE
open PySem L2 Evl
open C8 (Cal cal0 pe_c pe_gc fnScope_by)
section
variable {X : Cx} {o e : Expr} {td ty : TE} {apos cpos : Pos}
/-- d.get(k), d a dict that the top has written -/
def KLook (K : PySem.W.Frag) (d : Addr) (z : Str) (v : V) : Prop := (∃ u, PySem.W.nsIn K d z = some (some u) ∧ RelV v u) ∨ (PySem.W.nsIn K d z = some none ∧ v = .non)
def tKGet (K : PySem.W.Frag) (w : World) (td ty : TE) : TE := fun σ H Q => td σ H fun x H1 => ∃ d, x = .ref d ∧ KD K w d ∧ ty σ H1 fun y H2 => ∃ z v, y = .str z ∧ KLook K d z v ∧ Q v H2
theorem pe_kget (ho : PE X o td) (he : PE X e ty) (m : M1 X o "get" apos e cpos) : PE X (.Call (.Attribute o "get" apos) [e] [] cpos) (tKGet X.K X.w td ty) := by
  refine ⟨fun pins s σ H Q I h => wpAny_Call_method m.base m.few m.line PySem.F.plainAttrs_dict PySem.F.slot_dict_get PySem.F.type_dict_get (thn (ho.run pins s σ H _ I h) fun u s1 ⟨x, H1, I1, rx, d, ex, D, q1⟩ => ?_)⟩
  subst ex
  obtain rfl : u = Value.ref d := rx
  obtain ⟨es, n, hl, hk, low⟩ := D
  have hm := PySem.W.mapOf_K (prog := X.prog) (w := X.w) I1.kIn hl hk
  refine ⟨hm.typeIs, hm.noDict, ?_⟩
  rw [m.trees]
  refine Calls.callWith_builtin rfl (Calls.evalArgs_plain (Calls.spliced_cons (thn (he.run pins s1 σ H1 _ I1 q1) fun iv s2 ⟨y, H2, I2, ry, z, v, ey, hv, q2⟩ => Calls.spliced_nil ?_)))
  subst ey
  obtain ⟨t, rfl⟩ := ry
  have hm2 := PySem.W.mapOf_K (prog := X.prog) (w := X.w) I2.kIn hl hk
  have fin : ∀ u0 : Option Value, PySem.W.nsIn X.K d z = some u0 → RelV v (u0.getD .none) → wpAny (model X.prog X.w) X.A (call (.builtin "dict.get") [.ref d, .str z t]) (EP X pins σ Q) X.xe s2 := fun u0 h0 hr =>
    call_meetsIn PySem.F.slot_dict_get hm2.typeIs PySem.F.entry_dict_get (PySem.F.args_dict_get_2 _ _) (meets_dict_get (PySem.strKind X.prog X.w) d (PySem.strKind_is X.prog X.w z t) low) ⟨_, hm2, v, H2, I2.tok _, by rw [PySem.W.find_K hl h0]; exact hr, q2⟩
  rcases hv with ⟨u0, h0, hr⟩ | ⟨h0, rfl⟩
  · exact fin (some u0) h0 hr
  · exact fin none h0 rfl
end
section
variable {K : PySem.W.Frag} {w : World} {σ : L2.St} {H H' : Hp} {ta tb te td ty : TE} {t u : TT} {x y z v : V}
theorem rv_kix {d : Addr} {s : Str} {u : Value} (D : KD K w d) (h : PySem.W.nsIn K d s = some (some u)) (r : RelV v u) : RV (rIxD K w) (.ref d) (.str s) H v := fun H1 e Q q => by
  obtain ⟨es, n, h1, h2, _⟩ := D
  exact ⟨d, s, v, rfl, rfl, ⟨es, n, u, h1, h2, h, r⟩, q H1 (Ex.refl H1)⟩
theorem ev_callLoc {i : Nat} {f : Addr} {sp : Sp} {vs : List V} {E : XK} {ta : TA} (hi : σ[i]? = some (some (.ref f))) (h : EvA ta σ H vs) (hs : SpV sp (vs ++ []) H z) : Ev (tCallL i f sp [] E ta) σ H z := fun H1 e Q q =>
  ⟨hi, h H1 e _ fun H2 e2 => hs H2 (e.trans e2) Q (fun H3 e3 => q H3 (e2.trans e3)) E⟩
theorem ev_kget {d : Addr} {s : Str} (hd : Ev td σ H (.ref d)) (D : KD K w d) (hy : Ev ty σ H (.str s)) (hv : KLook K d s v) : Ev (tKGet K w td ty) σ H v := fun H1 e Q q =>
  hd H1 e _ fun H2 e2 => ⟨d, rfl, D, hy H2 (e.trans e2) _ fun H3 e3 => ⟨s, v, rfl, hv, q H3 (e2.trans e3)⟩⟩
end
end EE
set_option Elab.async false
set_option linter.all false
set_option maxRecDepth 100000
set_option maxHeartbeats 1000000
namespace EE
open PySem L2 Evl
open C8 (Cal cal0 pe_c pe_gc fnScope_by)
/-! the forms of statements -/
def shapes : List (Str × List Str) := [("set", ["local", "expression"]), ("share", ["shared", "expression"]), ("pay", ["price"]), ("ask", ["local", "words"]), ("if", ["test", "block", "block"]), ("loop", ["test", "block"]), ("return", ["expression"]), ("raise", ["expression"]), ("try", ["block", "local", "block"]), ("last", ["bare", "block"]), ("call", ["local", "function", "expressions"]), ("apply", ["local", "expression", "expressions"]), ("send", ["local", "expression", "name", "expressions"]), ("new", ["local", "class", "expressions"]), ("keep", ["local", "function", "expressions"]), ("get", ["local", "expression", "name"]), ("with", ["local", "expression", "name", "expression"]), ("push", ["local", "expression", "expression"]), ("pop", ["local", "expression"])]
abbrev leafs : List Str := ["name", "local", "shared", "class", "function", "price", "words", "expression", "expressions", "test"]
abbrev blks : List Str := ["block", "bare"]
def shapeOf (z : Str) : Option (List Str) := shapes.lookup z
theorem shape_mem {z : Str} {ks : List Str} (h : shapeOf z = some ks) : (z, ks) ∈ shapes := by
  have gen : ∀ {l : List (Str × List Str)}, l.lookup z = some ks → (z, ks) ∈ l := by
    intro l
    induction l with
    | nil => intro h; cases h
    | cons p l ih =>
      intro h
      rw [List.lookup_cons] at h
      split at h
      · rename_i e
        have e' := eq_of_beq e
        cases h
        subst e'
        exact List.mem_cons_self
      · exact List.mem_cons_of_mem _ (ih h)
  exact gen h
theorem shape_kinds {z : Str} {ks : List Str} (h : shapeOf z = some ks) : ∀ k ∈ ks, k ∈ leafs ∨ k ∈ blks := by
  have q : (shapes.all fun p => p.2.all fun k => decide (k ∈ leafs) || decide (k ∈ blks)) = true := by decide +kernel
  intro k hk
  have := List.all_eq_true.mp (List.all_eq_true.mp q _ (shape_mem h)) k hk
  simpa using this
theorem shape_len {z : Str} {ks : List Str} (h : shapeOf z = some ks) : 1 ≤ ks.length ∧ ks.length ≤ 4 := by
  have q : (shapes.all fun p => decide (1 ≤ p.2.length) && decide (p.2.length ≤ 4)) = true := by decide +kernel
  have := List.all_eq_true.mp q _ (shape_mem h)
  simpa using this
structure Shp (w : World) (K : PySem.W.Frag) (mg : Str → Option Value) (a : Addr) (rs : Str → Addr) : Prop where
  mga : mg "SHAPES" = some (.ref a)
  kd : KD K w a
  yes : ∀ z ks, shapeOf z = some ks → PySem.W.nsIn K a z = some (some (.ref (rs z))) ∧ ∀ H, SqT K H (rs z) (ks.map V.str)
  no : ∀ z, shapeOf z = none → PySem.W.nsIn K a z = some none
def checkOf : List (Str × Str) := [("name", "is_any_name"), ("local", "is_any_name"), ("shared", "is_shared_name"), ("class", "is_class_name"), ("function", "is_function_name"), ("price", "is_price"), ("words", "are_words_to_ask"), ("expression", "is_expression"), ("expressions", "are_expressions"), ("test", "is_test")]
structure TxtS (w : World) (K : PySem.W.Frag) (mg : Str → Option Value) extends TxtG w K mg where
  c_CHK : ∃ a, mg "CHECKS" = some (.ref a) ∧ KD K w a ∧ ∀ k x, checkOf.lookup k = some x → ∃ f, PySem.W.nsIn K a k = some (some (.ref f)) ∧ mg x = some (.ref f)
/-! what the parts of a statement must be -/
def leafD (kn : Kn) (k : Str) (d : Dt) : Bool :=
  if k = "name" then nmD d else if k = "local" then nmD d else if k = "shared" then nmIn kn.sh d else if k = "class" then nmIn kn.cl d else if k = "function" then nmIn kn.fn d else if k = "price" then priceD d else if k = "words" then wordsD d
  else if k = "expression" then exprD d else if k = "expressions" then exprsD d else testD kn d
def partD (B R : Dt → Bool) (kn : Kn) (k : Str) (d : Dt) : Bool := if k = "block" then B d else if k = "bare" then B d && !R d else leafD kn k d
def stmtD (B R : Dt → Bool) (kn : Kn) : Dt → Bool
  | .tup (x :: ps) => nmD x && (match shapeOf (unD x) with
    | none => false
    | some ks => decide (ps.length = ks.length) && (List.zipWith (partD B R kn) ks ps).all id)
  | _ => false
/-- the inner blocks of a right statement -/
def innerOf {α : Type} (ks : List Str) (ps : List α) : List α := ((ks.zip ps).filter fun p => decide (p.1 ∈ blks)).map (·.2)
def innerD : Dt → List Dt
  | .tup (x :: ps) => innerOf ((shapeOf (unD x)).getD []) ps
  | _ => []
def headD : Dt → Dt
  | .tup (x :: _) => x
  | _ => .non
def retD : Nat → Dt → Bool
  | 0, _ => false
  | n + 1, .tup xs => (xs.map fun s => isS "return" (headD s) || ((innerD s).map (retD n)).any id).any id
  | _ + 1, _ => false
def okB (kn : Kn) : Nat → Dt → Bool
  | 0, _ => false
  | n + 1, .tup xs => decide (xs.length ≤ 12) && (xs.map (stmtD (okB kn n) (retD n) kn)).all id
  | _ + 1, _ => false
section
variable {K : PySem.W.Frag} {σ : L2.St} {H H' : Hp} {ta tb tc te td ty : TE} {t u : TT} {x y z v kv : V} {d : Dt} {kn : Kn}
theorem cutV_one {v : V} {vs : List V} : cutV (v :: vs) (some 1) none = vs := by
  unfold cutV
  rw [show HT.sIx (v :: vs).length 0 (some 1) = 1 from (HT.sIx_nat _ _ 1).trans (by simp)]
  rw [HT.sIx_none]
  simp
theorem eu_tl {a : Addr} {v : V} {vs : List V} (h : Ev te σ H (.ref a)) (hs : SqT K H a (v :: vs)) : EvU (tSl (rSlT K) te (tPart (tC (.int 1))) tNoPart) σ H vs := by
  have z := eu_sl (lo := some 1) (hi := none) h (eo_some ev_c) eo_none hs (fun q => by
    have := q.1
    rw [show HT.sIx (v :: vs).length 0 (some 1) = 1 from (HT.sIx_nat _ _ 1).trans (by simp)] at this
    cases this)
  rw [cutV_one] at z
  exact z
end
section
variable {P : Program} {w : World} {K : PySem.W.Frag} {mg : Str → Option Value} {base : Heap} {sa : Addr} {rs : Str → Addr}
/-! shape_of -/
def shpV (rs : Str → Addr) (z : Str) : V := match shapeOf z with
  | some _ => .ref (rs z)
  | none => .non
def sp_shape (rs : Str → Addr) : Sp := PuV fun vs H z => ∃ s, vs = [.str s] ∧ z = shpV rs s
theorem sc_shapeG : FnScope N_shape_of P_shape_of (C8.fnScope s_shape_of) := fnScope_by (by decide +kernel)
theorem ok_shape (T : TxtS w K mg) (S : Shp w K mg sa rs) : Cal P w K mg base 1 "shape_of" (sp_shape rs) [] := by
  refine mk_cal T.d_shape_of sc_shapeG (fun vs H Q E h => ?_) (fun f cdv A outer s H vs Q E hr h => ?_)
  · obtain ⟨z, ⟨_, rfl, _⟩, _⟩ := h
    rfl
  · obtain ⟨z, ⟨s0, rfl, rfl⟩, k⟩ := h
    refine ⟨_, pss_one (ps_ret (pe_kget (pe_gc (v := .ref sa) (by rfl) ⟨_, S.mga, rfl⟩) (pv 0) ⟨rfl, rfl, rfl, rfl⟩)), ?_⟩
    refine s_ret (v := shpV rs s0) (ev_kget ev_c S.kd (ev_var rfl) ?_) fun H1 e => k H1 e
    unfold shpV
    cases hs : shapeOf s0 with
    | none => exact .inr ⟨S.no _ hs, rfl⟩
    | some ks => exact .inl ⟨_, (S.yes _ _ hs).1, rfl⟩
/-! parts_of, blocks_of -/
def sp_parts (K : PySem.W.Frag) : Sp := fun vs H Q _ => ∃ s z ks pvs, vs = [.ref s] ∧ SqT K H s (V.str z :: pvs) ∧ shapeOf z = some ks ∧ pvs.length = ks.length ∧
  ∀ l (ts : List Addr) H2, H l = none → (∀ t ∈ ts, H t = none) → Ex H H2 → H2 l = some (.lst (ts.map V.ref)) → ts.length = ks.length → (∀ (j : Nat) t, ts[j]? = some t → ∃ k p, ks[j]? = some k ∧ pvs[j]? = some p ∧ H2 t = some (.tup [.str k, p])) → Q (.ref l) H2
theorem sc_partsG : FnScope N_parts_of P_parts_of (C8.fnScope s_parts_of) := fnScope_by (by decide +kernel)
theorem ok_parts (T : TxtS w K mg) (S : Shp w K mg sa rs) : Cal P w K mg base 1 "parts_of" (sp_parts K) [] := by
  refine mk_cal T.d_parts_of sc_partsG (fun vs H Q E h => ?_) (fun f cdv A outer s H vs Q E hr h => ?_)
  · obtain ⟨_, _, _, _, rfl, _⟩ := h
    rfl
  · obtain ⟨s0, z, ks, pvs, rfl, hs, hk, hl, k⟩ := h
    obtain ⟨g1, g2⟩ := S.yes _ _ hk
    have hl4 := (shape_len hk).2
    refine ⟨_, pss_one (ps_ret (pe_listZip rfl (by rfl) T.listT (by rfl) T.zipT (pa_cons (pe_ix ix_kdict (pe_gc (v := .ref sa) (by rfl) ⟨_, S.mga, rfl⟩) (pe_ix ix_tup (pv 0) pe_int (fun _ _ => rfl)) (fun _ _ => rfl)) (pa_cons (pe_slice sl_tup (pv 0) (po_some pe_int) po_none) pa_nil)) (by decide +kernel))), ?_⟩
    have e1 : Ev (tOp (rIxD K w) (tC (.ref sa)) (tOp (rIxT K) (tVar 0) (tC (.int 0)))) (start N_parts_of [V.ref s0]) H (.ref (rs z)) := ev_op ev_c (ev_op (ev_var rfl) ev_c (rv_ixT hs (at_of (j := 0) rfl rfl))) (rv_kix S.kd g1 rfl)
    have e2 : EvU (tSl (rSlT K) (tVar 0) (tPart (tC (.int 1))) tNoPart) (start N_parts_of [V.ref s0]) H pvs := eu_tl (ev_var rfl) hs
    refine e1 H (Ex.refl H) _ fun H1 f1 => e2 H1 f1 _ fun p H2 hp f2 hp2 => ⟨rs z, p, ks.map V.str, pvs, rfl, g2 _, st_of hp2, by rw [List.length_map]; exact hl.symm, by rw [List.length_map]; omega, fun l ts H3 old hl' hts hl3 hlen hpr => ?_⟩
    refine k l ts H3 (fresh_back (f1.trans f2) hl') (fun t ht => fresh_back (f1.trans f2) (hts t ht)) ((f1.trans f2).trans old) hl3 (by rw [hlen, List.length_map]) fun j t ht => ?_
    obtain ⟨x1, y1, q1, q2, q3⟩ := hpr j t ht
    rw [List.getElem?_map] at q1
    cases hh : ks[j]? with
    | none => rw [hh] at q1; cases q1
    | some kk => rw [hh] at q1; cases q1; exact ⟨kk, y1, rfl, q2, q3⟩
end
section
variable {K : PySem.W.Frag} {σ : L2.St} {H H' : Hp} {ta tb tc te : TE} {t u : TT} {D : Ends} {tu tz : TS}
theorem map_get {α β : Type} {l : List α} {f : α → β} {i : Nat} {y : β} (h : (l.map f)[i]? = some y) : ∃ x, l[i]? = some x ∧ y = f x := by
  rw [List.getElem?_map] at h
  cases hh : l[i]? with
  | none => rw [hh] at h; cases h
  | some x => rw [hh] at h; cases h; exact ⟨x, rfl, rfl⟩
/-- a comprehension over the parts of a right statement -/
theorem el_partsG {s : Addr} {z : Str} {ks : List Str} {pvs : List V} {E : XK} {j1 j2 : Nat} {vs : List Nat} (f : Nat → Bool) (v : Nat → V) (h : Ev ta σ H (.ref s)) (hs : SqT K H s (V.str z :: pvs)) (hk : shapeOf z = some ks) (hl : pvs.length = ks.length)
    (hw : ∀ x y, wipe (((wipe σ vs).set j1 (some x)).set j2 (some y)) vs = wipe σ vs)
    (ht : ∀ (i : Nat) (k : Str) (p : V) H1, Ex H H1 → ks[i]? = some k → pvs[i]? = some p → EvT t (((wipe σ vs).set j1 (some (.str k))).set j2 (some p)) H1 (f i))
    (he : ∀ (i : Nat) (k : Str) (p : V) H1, Ex H H1 → ks[i]? = some k → pvs[i]? = some p → f i = true → Ev te (((wipe σ vs).set j1 (some (.str k))).set j2 (some p)) H1 (v i)) :
    EvL (tLc (iList K (tCall (sp_parts K) [] E (tCons ta tNil))) (gTup K 2 (gCons (gName j1) (gCons (gName j2) gNil))) t te vs) σ H (given ks.length f v) := fun H0 e Q q =>
  h H0 e _ fun H1 e1 => ⟨s, z, ks, pvs, rfl, ex_t (e.trans e1) hs, hk, hl, fun l ts H2 hln hts e2 h2 hlen h3 => ⟨l, rfl, ⟨_, sq_of h2⟩, fun Dl hD => by
    have w := walk_list (K := K) (a := l) (xs := ts.map V.ref)
    rw [List.length_map, hlen] at w
    have hz := (shape_len hk).2
    exact lc_it w (Cw H2 f v Dl) ⟨hD, Ex.new hD, upd_same⟩ (fun i H' _ p' => sq_of (p'.2.1 _ _ h2)) (fun i y H' H'' hi p' yy => by
      obtain ⟨rfl, hy⟩ := yy
      obtain ⟨tt, hy1, rfl⟩ := map_get hy
      obtain ⟨k, p, q1, q2, q3⟩ := h3 i tt hy1
      exact ⟨tt, _, rfl, st_of (p'.2.1 _ _ q3), rfl, _, _, rfl, _, _, rfl, rfl, hw _ _, cw_turn p' (by omega) (ht i k p H2 ((e.trans e1).trans e2) q1 q2) (fun hf => he i k p H2 ((e.trans e1).trans e2) q1 q2 hf)⟩)
      (fun H' p' => q Dl H' (fresh_back (e1.trans e2) p'.1) ((e1.trans e2).trans p'.2.1) p'.2.2)⟩⟩
theorem given_inner {ks : List Str} : ∀ {pvs : List V}, pvs.length = ks.length → given ks.length (fun i => decide (ks.getD i Str.empty ∈ blks)) (fun i => pvs.getD i .non) = innerOf ks pvs := by
  unfold given innerOf
  intro pvs hl
  have e : ks.zip pvs = (List.range ks.length).map fun i => (ks.getD i Str.empty, pvs.getD i .non) := by
    apply List.ext_getElem?
    intro i
    by_cases hi : i < ks.length
    · have hi2 : i < pvs.length := by omega
      rw [List.zip, List.getElem?_zipWith, List.getElem?_map, List.getElem?_range hi, List.getElem?_eq_getElem hi, List.getElem?_eq_getElem hi2]
      simp [hi, hi2]
    · have hi2 : ¬ i < pvs.length := by omega
      rw [List.getElem?_eq_none (by simp; omega), List.getElem?_eq_none (by simp; omega)]
  rw [e, List.filter_map, List.map_map]
  rfl
end
section
variable {P : Program} {w : World} {K : PySem.W.Frag} {mg : Str → Option Value} {base : Heap} {sa : Addr} {rs : Str → Addr}
/-! blocks_of -/
def sp_blocks (K : PySem.W.Frag) : Sp := PuL fun vs H xs => ∃ s z ks pvs, vs = [.ref s] ∧ SqT K H s (V.str z :: pvs) ∧ shapeOf z = some ks ∧ pvs.length = ks.length ∧ xs = innerOf ks pvs
theorem sc_blocksG : FnScope N_blocks_of P_blocks_of (C8.fnScope s_blocks_of) := fnScope_by (by decide +kernel)
theorem ok_blocks (T : TxtS w K mg) (S : Shp w K mg sa rs) : Cal P w K mg base 2 "blocks_of" (sp_blocks K) [] := by
  obtain ⟨b, hb1, hb2⟩ := T.c_BLOCKS
  refine mk_cal T.d_blocks_of sc_blocksG (fun vs H Q E h => ?_) (fun f cdv A outer s H vs Q E hr h => ?_)
  · obtain ⟨z, ⟨_, _, _, _, rfl, _⟩, _⟩ := h
    rfl
  · obtain ⟨xs, ⟨s0, z, ks, pvs, rfl, hs, hk, hl, rfl⟩, k⟩ := h
    have nd := sc_blocksG.nd
    refine ⟨_, pss_one (ps_ret (pe_lc (own := [("kind", 1), ("part", 2)]) (g := gTup K 2 (gCons (gName 1) (gCons (gName 2) gNil))) rfl nd
        (pi_list (pe_c (ok_parts T S) hr (by decide) (by rfl) (pa_cons (pv 0) pa_nil))) (blkOk_by (N := N_blocks_of) (sc := C8.fnScope s_blocks_of) (by decide +kernel))
        (fun _ _ _ _ _ => pg_tup (by rfl) (pgs_cons (pg_name (i := 1) nd rfl (Or.inl rfl)) (pgs_cons (pg_name (i := 2) nd rfl (Or.inl rfl)) pgs_nil)))
        (fun _ _ _ _ _ => pts_one (pt_cmpR (show OpR _ (compareOp .In) (rIn K false) from op_in_seq) (pv 1) (pe_gc (v := .ref b) (by rfl) ⟨_, hb1, rfl⟩) (by rfl))) (fun _ _ _ _ _ => pv 2))), ?_⟩
    refine s_retL (xs := innerOf ks pvs) ?_ fun p H1 hp e1 h1 => k p H1 hp e1 h1
    rw [← given_inner hl]
    refine el_partsG _ _ (ev_var rfl) hs hk hl (fun _ _ => rfl) (fun i kk p H1 e1 h1 h2 => ?_) (fun i kk p H1 e1 h1 h2 _ => ?_)
    · rw [List.getD_eq_getElem?_getD, h1]
      exact et_test (ev_is (ev_op (ev_var (v := .str kk) rfl) ev_c (rv_isT (hb2 _) rfl rfl)) (congrArg V.bl (inV_strs kk blks)))
    · rw [List.getD_eq_getElem?_getD, h2]
      exact ev_var rfl
theorem l_blocksG {H : Hp} {s : Addr} {z : Str} {ks : List Str} {pvs : List V} (hs : SqT K H s (V.str z :: pvs)) (hk : shapeOf z = some ks) (hl : pvs.length = ks.length) : SpL (sp_blocks K) [.ref s] H (innerOf ks pvs) := spl fun H1 e => ⟨s, z, ks, pvs, rfl, ex_t e hs, hk, hl, rfl⟩
end
end EE
set_option Elab.async false
set_option linter.all false
set_option maxRecDepth 100000
set_option maxHeartbeats 1000000
namespace EE
open PySem L2 Evl
open C8 (Cal cal0 pe_c pe_gc fnScope_by)
/-! right forms -/
def wfC : Dt → Bool
  | .tup [x0, _, _] => isS "same" x0 || isS "kind" x0
  | _ => false
def wfT (d : Dt) : Bool := wfC (strips 3 d)
def wfP (W : Dt → Bool) (k : Str) (d : Dt) : Bool := if k ∈ blks then W d else if k = "expressions" then d.isTup else if k = "test" then wfT d else true
def wfS (W : Dt → Bool) : Dt → Bool
  | .tup (x :: ps) => x.isStr && (match shapeOf (unD x) with
    | none => false
    | some ks => decide (ps.length = ks.length) && (List.zipWith (wfP W) ks ps).all id)
  | _ => false
def wfB : Nat → Dt → Bool
  | 0, _ => false
  | n + 1, .tup xs => (xs.map (wfS (wfB n))).all id
  | _ + 1, _ => false
theorem all_map {α : Type} {l : List α} {f : α → Bool} : (l.map f).all id = true ↔ ∀ x ∈ l, f x = true := by
  rw [List.all_eq_true]
  constructor
  · intro h x hx
    exact h _ (List.mem_map.mpr ⟨x, hx, rfl⟩)
  · rintro h y hy
    obtain ⟨x, hx, rfl⟩ := List.mem_map.mp hy
    exact h x hx
theorem any_map {α : Type} {l : List α} {f : α → Bool} : (l.map f).any id = true ↔ ∃ x ∈ l, f x = true := by
  rw [List.any_eq_true]
  constructor
  · rintro ⟨y, hy, h⟩
    obtain ⟨x, hx, rfl⟩ := List.mem_map.mp hy
    exact ⟨x, hx, h⟩
  · rintro ⟨x, hx, h⟩
    exact ⟨_, List.mem_map.mpr ⟨x, hx, rfl⟩, h⟩
theorem zip_all {α β : Type} {f g : α → β → Bool} (h : ∀ a b, f a b = true → g a b = true) : ∀ {l : List α} {m : List β}, (List.zipWith f l m).all id = true → (List.zipWith g l m).all id = true
  | [], _, _ => rfl
  | _ :: _, [], _ => rfl
  | a :: l, b :: m, e => by
    rw [List.zipWith_cons_cons, List.all_cons, Bool.and_eq_true] at e ⊢
    exact ⟨h _ _ e.1, zip_all h e.2⟩
theorem core_wf {kn : Kn} {d : Dt} (h : coreD kn d = true) : wfC d = true := by
  cases d with
  | tup xs =>
    have h' : (decide (xs.length = 3) && _) = true := h
    rw [Bool.and_eq_true, decide_eq_true_eq] at h'
    match xs, h' with
    | [x0, x1, x2], h' =>
      have h2 : (if isS "same" x0 then exprD x1 && exprD x2 else isS "kind" x0 && (exprD x1 && kindD kn x2)) = true := h'.2
      show (isS "same" x0 || isS "kind" x0) = true
      by_cases e : isS "same" x0 = true
      · rw [e]; rfl
      · rw [if_neg e, Bool.and_eq_true] at h2
        rw [h2.1, Bool.or_true]
  | _ => cases h
theorem test_wf {kn : Kn} {d : Dt} (h : testD kn d = true) : wfT d = true := core_wf h
theorem part_wf {B R W : Dt → Bool} {kn : Kn} (hB : ∀ d, B d = true → W d = true) (k : Str) (d : Dt) (h : partD B R kn k d = true) : wfP W k d = true := by
  unfold partD at h
  unfold wfP
  by_cases e1 : k = "block"
  · rw [if_pos e1] at h
    rw [if_pos (by rw [e1]; decide)]
    exact hB _ h
  · rw [if_neg e1] at h
    by_cases e2 : k = "bare"
    · rw [if_pos e2, Bool.and_eq_true] at h
      rw [if_pos (by rw [e2]; decide)]
      exact hB _ h.1
    · rw [if_neg e2] at h
      rw [if_neg (by simp [e1, e2])]
      by_cases e3 : k = "expressions"
      · rw [if_pos e3]
        subst e3
        have h' : exprsD d = true := h
        cases d <;> first | rfl | cases h'
      · rw [if_neg e3]
        by_cases e4 : k = "test"
        · rw [if_pos e4]
          subst e4
          exact test_wf (kn := kn) h
        · rw [if_neg e4]
theorem nm_str {d : Dt} (h : nmD d = true) : d.isStr = true := by cases d <;> first | rfl | cases h
theorem stmt_wf {B R W : Dt → Bool} {kn : Kn} (hB : ∀ d, B d = true → W d = true) (d : Dt) (h : stmtD B R kn d = true) : wfS W d = true := by
  cases d with
  | tup xs =>
    cases xs with
    | nil => cases h
    | cons x ps =>
      have h' : (nmD x && (match shapeOf (unD x) with | none => false | some ks => decide (ps.length = ks.length) && (List.zipWith (partD B R kn) ks ps).all id)) = true := h
      rw [Bool.and_eq_true] at h'
      show (x.isStr && (match shapeOf (unD x) with | none => false | some ks => decide (ps.length = ks.length) && (List.zipWith (wfP W) ks ps).all id)) = true
      rw [nm_str h'.1, Bool.true_and]
      have h2 := h'.2
      cases hs : shapeOf (unD x) with
      | none => rw [hs] at h2; cases h2
      | some ks =>
        rw [hs] at h2
        simp only [Bool.and_eq_true] at h2 ⊢
        exact ⟨h2.1, zip_all (part_wf hB) h2.2⟩
  | _ => cases h
theorem ok_wf {kn : Kn} : ∀ {n : Nat} {d : Dt}, okB kn n d = true → wfB n d = true
  | 0, _, h => by cases h
  | n + 1, .tup xs, h => by
    have h' : (decide (xs.length ≤ 12) && (xs.map (stmtD (okB kn n) (retD n) kn)).all id) = true := h
    rw [Bool.and_eq_true, all_map] at h'
    show (xs.map (wfS (wfB n))).all id = true
    rw [all_map]
    exact fun x hx => stmt_wf (fun _ => ok_wf) x (h'.2 x hx)
  | _ + 1, .non, h => by cases h
  | _ + 1, .bl _, h => by cases h
  | _ + 1, .int _, h => by cases h
  | _ + 1, .str _, h => by cases h
  | _ + 1, .oth, h => by cases h
/-- a right statement, taken apart -/
theorem wfS_inv {W : Dt → Bool} {d : Dt} (h : wfS W d = true) : ∃ z ks ps, d = .tup (.str z :: ps) ∧ shapeOf z = some ks ∧ ps.length = ks.length ∧ (∀ (i : Nat) k p, ks[i]? = some k → ps[i]? = some p → wfP W k p = true) := by
  cases d with
  | tup xs =>
    cases xs with
    | nil => cases h
    | cons x ps =>
      have h' : (x.isStr && (match shapeOf (unD x) with | none => false | some ks => decide (ps.length = ks.length) && (List.zipWith (wfP W) ks ps).all id)) = true := h
      rw [Bool.and_eq_true] at h'
      cases x with
      | str z =>
        have h2 := h'.2
        cases hs : shapeOf z with
        | none => rw [show shapeOf (unD (.str z)) = none from hs] at h2; cases h2
        | some ks =>
          rw [show shapeOf (unD (.str z)) = some ks from hs] at h2
          simp only [Bool.and_eq_true, decide_eq_true_eq] at h2
          refine ⟨z, ks, ps, rfl, hs, h2.1, fun i k p hk hp => ?_⟩
          have := List.all_eq_true.mp h2.2 (wfP W k p) (List.mem_of_getElem? (i := i) (by rw [List.getElem?_zipWith, hk, hp]))
          exact this
      | _ => cases h'.1
  | _ => cases h
theorem inner_mem {ks : List Str} {ps : List Dt} {d : Dt} (hl : ps.length = ks.length) (h : d ∈ innerOf ks ps) : ∃ (i : Nat) (k : Str), ks[i]? = some k ∧ ps[i]? = some d ∧ k ∈ blks := by
  unfold innerOf at h
  obtain ⟨⟨k, p⟩, hm, rfl⟩ := List.mem_map.mp h
  obtain ⟨h1, h2⟩ := List.mem_filter.mp hm
  obtain ⟨i, hi⟩ := List.mem_iff_getElem?.mp h1
  rw [List.zip, List.getElem?_zipWith] at hi
  cases e1 : ks[i]? with
  | none => rw [e1] at hi; cases hi
  | some k' =>
    cases e2 : ps[i]? with
    | none => rw [e1, e2] at hi; cases hi
    | some p' =>
      rw [e1, e2] at hi
      cases hi
      exact ⟨i, _, e1, e2, by simpa using h2⟩
theorem inner_wf {W : Dt → Bool} {d : Dt} (h : wfS W d = true) : ∀ b ∈ innerD d, W b = true := by
  obtain ⟨z, ks, ps, rfl, hs, hl, hp⟩ := wfS_inv h
  intro b hb
  have hb' : b ∈ innerOf ks ps := by
    have e : innerD (.tup (.str z :: ps)) = innerOf ks ps := by show innerOf ((shapeOf z).getD []) ps = _; rw [hs]; rfl
    rw [← e]; exact hb
  obtain ⟨i, k, h1, h2, h3⟩ := inner_mem hl hb'
  have := hp i k b h1 h2
  unfold wfP at this
  rw [if_pos h3] at this
  exact this
section
variable {K : PySem.W.Frag} {H : Hp}
theorem inner_at : ∀ {ks : List Str} {pvs : List V} {ps : List Dt}, AtL K H pvs ps → AtL K H (innerOf ks pvs) (innerOf ks ps)
  | [], _, _, _ => .nil
  | k :: ks, _, _, .nil => .nil
  | k :: ks, _, _, .cons (v := v) (d := d) h t => by
    have ih := inner_at (ks := ks) t
    unfold innerOf at ih ⊢
    rw [List.zip_cons_cons, List.zip_cons_cons, List.filter_cons, List.filter_cons]
    by_cases e : k ∈ blks
    · rw [if_pos (by simpa using e), if_pos (by simpa using e), List.map_cons, List.map_cons]
      exact .cons h ih
    · rw [if_neg (by simpa using e), if_neg (by simpa using e)]
      exact ih
end
end EE
set_option Elab.async false
set_option linter.all false
set_option maxRecDepth 100000
set_option maxHeartbeats 1000000
namespace EE
open PySem L2 Evl
open C8 (Cal cal0 pe_c pe_gc fnScope_by)
/-! how much there is of data -/
mutual
def Dt.nodes : Dt → Nat
  | .tup xs => 1 + Dt.nodesL xs
  | .non => 1
  | .bl _ => 1
  | .int _ => 1
  | .str _ => 1
  | .oth => 1
def Dt.nodesL : List Dt → Nat
  | [] => 0
  | d :: ds => d.nodes + Dt.nodesL ds
end
theorem nodes_tup {xs : List Dt} : (Dt.tup xs).nodes = 1 + Dt.nodesL xs := by rw [Dt.nodes]
theorem nodesL_sum : ∀ {xs : List Dt}, Dt.nodesL xs = (xs.map Dt.nodes).sum
  | [] => by rw [Dt.nodesL]; rfl
  | d :: ds => by rw [Dt.nodesL, nodesL_sum (xs := ds)]; rfl
theorem nodesL_mem {x : Dt} : ∀ {xs : List Dt}, x ∈ xs → x.nodes ≤ Dt.nodesL xs
  | [], h => by cases h
  | d :: ds, h => by
    rw [Dt.nodesL]
    rcases List.mem_cons.mp h with rfl | h
    · omega
    · have := nodesL_mem h
      omega
theorem nodes_part {x : Dt} {xs : List Dt} (h : x ∈ xs) : x.nodes < (Dt.tup xs).nodes := by
  have := nodesL_mem h
  rw [nodes_tup]
  omega
theorem nodes_cons (x : Dt) (ps : List Dt) : (Dt.tup ps).nodes ≤ (Dt.tup (x :: ps)).nodes := by
  rw [nodes_tup, nodes_tup, Dt.nodesL]
  omega
theorem nodes_pos (d : Dt) : 1 ≤ d.nodes := by
  cases d <;> rw [Dt.nodes] <;> omega
theorem nodesL_inner : ∀ {ks : List Str} {ps : List Dt}, Dt.nodesL (innerOf ks ps) ≤ Dt.nodesL ps
  | [], ps => by unfold innerOf; rw [List.zip_nil_left]; show Dt.nodesL [] ≤ _; rw [Dt.nodesL]; omega
  | k :: ks, [] => by unfold innerOf; rw [List.zip_nil_right]; exact Nat.le_refl _
  | k :: ks, p :: ps => by
    have ih := nodesL_inner (ks := ks) (ps := ps)
    unfold innerOf at ih ⊢
    rw [List.zip_cons_cons, List.filter_cons]
    rw [show Dt.nodesL (p :: ps) = p.nodes + Dt.nodesL ps by rw [Dt.nodesL]]
    split
    · rw [List.map_cons, Dt.nodesL]
      show p.nodes + _ ≤ _
      omega
    · omega
/-! the statements of a block -/
def stmtsD : Nat → Dt → List Dt
  | n + 1, .tup xs => (xs.map fun s => s :: ((innerD s).map (stmtsD n)).flatten).flatten
  | _, _ => []
theorem stmtsD_succ {n : Nat} {xs : List Dt} : stmtsD (n + 1) (.tup xs) = (xs.map fun s => s :: ((innerD s).map (stmtsD n)).flatten).flatten := rfl
theorem flatten_le {α : Type} {f : α → List Dt} {g : α → Nat} : ∀ {l : List α}, (∀ x ∈ l, (f x).length ≤ g x) → (l.map f).flatten.length ≤ (l.map g).sum
  | [], _ => Nat.le_refl _
  | x :: l, h => by
    have h1 := h x List.mem_cons_self
    have h2 := flatten_le (l := l) fun y hy => h y (List.mem_cons_of_mem _ hy)
    rw [List.map_cons, List.flatten_cons, List.length_append, List.map_cons, List.sum_cons]
    omega
theorem stmts_nodes : ∀ (n : Nat) (d : Dt), (stmtsD n d).length + 1 ≤ d.nodes
  | 0, d => by have := nodes_pos d; cases d <;> exact this
  | n + 1, .tup xs => by
    rw [stmtsD_succ, nodes_tup, nodesL_sum]
    have : ((xs.map fun s => s :: ((innerD s).map (stmtsD n)).flatten).flatten).length ≤ (xs.map Dt.nodes).sum := flatten_le fun s _ => by
      rw [List.length_cons]
      have h1 : ((innerD s).map (stmtsD n)).flatten.length ≤ ((innerD s).map Dt.nodes).sum := flatten_le fun b _ => by have := stmts_nodes n b; omega
      rw [← nodesL_sum] at h1
      cases s with
      | tup ys =>
        cases ys with
        | nil => 
          have h2 : Dt.nodesL (innerD (.tup [])) = 0 := by show Dt.nodesL [] = 0; rw [Dt.nodesL]
          rw [nodes_tup]
          omega
        | cons y ps =>
          have h2 : Dt.nodesL (innerD (.tup (y :: ps))) ≤ Dt.nodesL ps := nodesL_inner
          rw [nodes_tup, Dt.nodesL]
          omega
      | _ => 
        have h2 : Dt.nodesL [] = 0 := by rw [Dt.nodesL]
        have h3 : ((innerD _).map (stmtsD n)).flatten.length ≤ Dt.nodesL [] := h1
        have := nodes_pos
        simp only [innerD, List.map_nil, List.flatten_nil, List.length_nil]
        rw [Dt.nodes]
        omega
    omega
  | n + 1, .non => nodes_pos _
  | n + 1, .bl _ => nodes_pos _
  | n + 1, .int _ => nodes_pos _
  | n + 1, .str _ => nodes_pos _
  | n + 1, .oth => nodes_pos _
theorem wfB_inv {n : Nat} {d : Dt} (h : wfB (n + 1) d = true) : ∃ xs, d = .tup xs ∧ ∀ x ∈ xs, wfS (wfB n) x = true := by
  cases d with
  | tup xs => exact ⟨xs, rfl, all_map.mp h⟩
  | _ => cases h
theorem wfB_up : ∀ {n : Nat} {d : Dt}, wfB n d = true → wfB (n + 1) d = true
  | 0, _, h => by cases h
  | n + 1, d, h => by
    obtain ⟨xs, rfl, hx⟩ := wfB_inv h
    refine all_map.mpr fun x hxm => ?_
    have := hx x hxm
    cases x with
    | tup ys =>
      cases ys with
      | nil => cases this
      | cons y ps =>
        replace this : (y.isStr && (match shapeOf (unD y) with | none => false | some ks => decide (ps.length = ks.length) && (List.zipWith (wfP (wfB n)) ks ps).all id)) = true := this
        show (y.isStr && (match shapeOf (unD y) with | none => false | some ks => decide (ps.length = ks.length) && (List.zipWith (wfP (wfB (n + 1))) ks ps).all id)) = true
        rw [Bool.and_eq_true] at this ⊢
        refine ⟨this.1, ?_⟩
        have h2 := this.2
        cases hs : shapeOf (unD y) with
        | none => rw [hs] at h2; cases h2
        | some ks =>
          rw [hs] at h2
          simp only [Bool.and_eq_true] at h2 ⊢
          refine ⟨h2.1, zip_all (fun a b hab => ?_) h2.2⟩
          unfold wfP at hab ⊢
          split
          · rename_i e; rw [if_pos e] at hab; exact wfB_up hab
          · rename_i e; rw [if_neg e] at hab; exact hab
    | _ => cases this
theorem wfS_up {n : Nat} {d : Dt} (h : wfS (wfB n) d = true) : wfS (wfB (n + 1)) d = true := by
  have h1 : wfB (n + 1) (.tup [d]) = true := all_map.mpr fun x hx => by rw [List.mem_singleton.mp hx]; exact h
  exact all_map.mp (wfB_up h1) d (List.mem_singleton.mpr rfl)
/-- each statement of a right block is right -/
theorem stmts_wf : ∀ {n : Nat} {d : Dt}, wfB n d = true → ∀ s ∈ stmtsD n d, wfS (wfB n) s = true
  | 0, _, h, _, _ => by cases h
  | n + 1, d, h, s, hs => by
    obtain ⟨xs, rfl, hx⟩ := wfB_inv h
    rw [stmtsD_succ] at hs
    obtain ⟨l, hl, hsl⟩ := List.mem_flatten.mp hs
    obtain ⟨x, hxm, rfl⟩ := List.mem_map.mp hl
    have hxw := hx x hxm
    rcases List.mem_cons.mp hsl with rfl | hsl
    · exact wfS_up hxw
    · obtain ⟨l2, hl2, hs2⟩ := List.mem_flatten.mp hsl
      obtain ⟨b, hb, rfl⟩ := List.mem_map.mp hl2
      exact wfS_up (stmts_wf (inner_wf hxw b hb) s hs2)
theorem retD_eq : ∀ {n : Nat} {d : Dt}, wfB n d = true → retD n d = ((stmtsD n d).map fun s => isS "return" (headD s)).any id
  | 0, _, h => by cases h
  | n + 1, d, h => by
    obtain ⟨xs, rfl, hx⟩ := wfB_inv h
    show (xs.map fun s => isS "return" (headD s) || ((innerD s).map (retD n)).any id).any id = _
    rw [stmtsD_succ]
    clear h
    induction xs with
    | nil => rfl
    | cons s l ih =>
      rw [List.map_cons, List.any_cons, List.map_cons, List.flatten_cons, List.map_append, List.any_append, ← ih fun x hxm => hx x (List.mem_cons_of_mem _ hxm)]
      congr 1
      rw [List.map_cons, List.any_cons]
      show (isS "return" (headD s) || _) = (isS "return" (headD s) || _)
      congr 1
      have hiw := inner_wf (hx s List.mem_cons_self)
      revert hiw
      induction innerD s with
      | nil => intro _; rfl
      | cons b r ih2 =>
        intro hiw
        rw [List.map_cons, List.any_cons, List.map_cons, List.flatten_cons, List.map_append, List.any_append, ← ih2 fun x hxm => hiw x (List.mem_cons_of_mem _ hxm)]
        congr 1
        exact retD_eq (hiw b List.mem_cons_self)
/-- all but two objects -/
def hid (p g : Addr) (H : Hp) : Hp := fun a => if a = p ∨ a = g then none else H a
theorem hid_ne {p g a : Addr} {H : Hp} (h1 : a ≠ p) (h2 : a ≠ g) : hid p g H a = H a := if_neg (fun z => z.elim h1 h2)
theorem hid_ex {p g : Addr} {H : Hp} : Ex (hid p g H) H := fun a o h => by
  unfold hid at h
  split at h
  · cases h
  · exact h
/-- what stood before p and g did -/
theorem ex_hid {p g : Addr} {H0 H : Hp} (e : Ex H0 H) (hp : H0 p = none) (hg : H0 g = none) : Ex H0 (hid p g H) := fun a o h => by
  rw [hid_ne (fun z => by subst z; rw [hp] at h; cases h) (fun z => by subst z; rw [hg] at h; cases h)]
  exact e _ _ h
section
variable {K : PySem.W.Frag} {σ : L2.St} {H H' : Hp} {ta tb tc te : TE} {t u : TT} {x y z v : V} {D : Ends} {tu tz : TS}
theorem AtL.app : ∀ {vs ws : List V} {ds es : List Dt}, AtL K H vs ds → AtL K H ws es → AtL K H (vs ++ ws) (ds ++ es)
  | _, _, _, _, .nil, h => h
  | _, _, _, _, .cons h t, g => .cons h (AtL.app t g)
theorem s_extN {l : Addr} {xs zs : List V} (hl : H l = some (.lst xs)) (ha : Ev ta σ H (.ref l)) (h : EvL te σ H zs) (hn : xs.length + zs.length ≤ 100000)
    (k : ∀ H1, Ex H H1 → D.nx σ (upd H1 l (.lst (xs ++ zs)))) : tDrop (tBM K "list" rExtend ta (tCons te tNil)) D σ H := ha H (Ex.refl H) _ fun H1 e1 =>
  ⟨Or.inl ⟨rfl, xs, sq_of (e1 l _ hl)⟩, h H1 e1 _ fun p H2 _ e2 h2 => ⟨l, p, xs, zs, rfl, rfl, e2 l _ (e1 l _ hl), h2, sz_of hn, k H2 (e1.trans e2)⟩⟩
theorem q_app {l : Addr} {xs : List V} {v : V} (hl : H l = some (.lst xs)) (ha : Ev ta σ H (.ref l)) (h : Ev te σ H v) (hz : xs.length < 100000) (k : ∀ H1, Ex H H1 → tz D σ (upd H1 l (.lst (xs ++ [v])))) :
    tSeq (tDrop (tBM K "list" rAppend ta (tCons te tNil))) tz D σ H := ha H (Ex.refl H) _ fun H1 e1 =>
  ⟨Or.inl ⟨rfl, xs, sq_of (e1 l _ hl)⟩, h H1 e1 _ fun H2 e2 => ⟨l, xs, v, rfl, rfl, e2 l _ (e1 l _ hl), sz_of hz, k H2 (e1.trans e2)⟩⟩
/-- for x in a new list: a body that changes l -/
theorem s_forLN {l : Addr} {xs : List V} {j : Nat} (h : EvL te σ H xs) (hl : H l ≠ none) (W : Hp → Nat → L2.St → Hp → Prop) (hB : ∀ G i σ' H', W G i σ' H' → Ex G H') (h0 : ∀ H2, Ex H H2 → W (hid l l H2) 0 σ H2)
    (hs : ∀ H2, Ex H H2 → ∀ (i : Nat) (x : V) σ' H', xs[i]? = some x → W (hid l l H2) i σ' H' → tu { D with nx := W (hid l l H2) (i + 1), ct := W (hid l l H2) (i + 1), bk := D.nx } (σ'.set j (some x)) H')
    (hd : ∀ H2, Ex H H2 → ∀ σ' H', W (hid l l H2) xs.length σ' H' → D.nx σ' H') : tFor (iList K te) (gName j) tu D σ H :=
  h H (Ex.refl H) _ fun p H2 hp e2 h2 => ⟨p, rfl, ⟨_, sq_of h2⟩, by
    have ne : p ≠ l := fun z => hl (by subst z; exact hp)
    have hlG : hid l l H2 p = some (.lst xs) := by rw [hid_ne ne ne]; exact h2
    exact for_list (D := D) (xs := xs) (W (hid l l H2)) (h0 H2 e2) (fun i σ' H' _ w => sq_of (hB _ _ _ _ w _ _ hlG)) (fun i y σ' H' hy w => hs H2 e2 i y σ' H' hy w) (fun σ' H' w => hd H2 e2 σ' H' w)⟩
end
/-! what a block's statements are, as they stand -/
def Flat (K : PySem.W.Frag) (H : Hp) : Nat → V → List V → Prop
  | 0, _, _ => False
  | n + 1, v, xs => ∃ (a : Addr) (vs : List V) (fs : List (List V)), v = .ref a ∧ SqT K H a vs ∧ fs.length = vs.length ∧ xs = fs.flatten ∧ ∀ (i : Nat) s f, vs[i]? = some s → fs[i]? = some f →
      ∃ (sA : Addr) (z : Str) (ks : List Str) (pvs : List V) (gs : List (List V)), s = .ref sA ∧ SqT K H sA (.str z :: pvs) ∧ shapeOf z = some ks ∧ pvs.length = ks.length ∧ gs.length = (innerOf ks pvs).length ∧ f = s :: gs.flatten ∧
        ∀ (j : Nat) b g, (innerOf ks pvs)[j]? = some b → gs[j]? = some g → Flat K H n b g
theorem pick {K : PySem.W.Frag} {H : Hp} {R : V → List V → Prop} {F : Dt → List Dt} : ∀ {vs : List V} {ds : List Dt}, AtL K H vs ds → (∀ v d, d ∈ ds → At K H v d → ∃ f, R v f ∧ AtL K H f (F d)) →
    ∃ fs : List (List V), fs.length = vs.length ∧ (∀ (i : Nat) v f, vs[i]? = some v → fs[i]? = some f → R v f) ∧ AtL K H fs.flatten (ds.map F).flatten
  | _, _, .nil, _ => ⟨[], rfl, fun i v f h => by simp at h, .nil⟩
  | _, _, .cons (v := v) (d := d) h t, q => by
    obtain ⟨f, q1, q2⟩ := q v d List.mem_cons_self h
    obtain ⟨fs, p1, p2, p3⟩ := pick t fun v d hd => q v d (List.mem_cons_of_mem _ hd)
    refine ⟨f :: fs, by rw [List.length_cons, List.length_cons, p1], fun i v' f' h1 h2 => ?_, ?_⟩
    · cases i with
      | zero => cases h1; cases h2; exact q1
      | succ i => exact p2 i v' f' h1 h2
    · rw [List.flatten_cons, List.map_cons, List.flatten_cons]
      exact q2.app p3
theorem at_flat {K : PySem.W.Frag} {H : Hp} : ∀ {n : Nat} {v : V} {d : Dt}, At K H v d → wfB n d = true → ∃ xs, Flat K H n v xs ∧ AtL K H xs (stmtsD n d)
  | 0, _, _, _, h => by cases h
  | n + 1, v, d, hv, hw => by
    obtain ⟨xs, rfl, hx⟩ := wfB_inv hw
    cases hv with
    | @tup a vs _ h r hz =>
      let R : V → List V → Prop := fun s f => ∃ (sA : Addr) (z : Str) (ks : List Str) (pvs : List V) (gs : List (List V)), s = .ref sA ∧ SqT K H sA (.str z :: pvs) ∧ shapeOf z = some ks ∧ pvs.length = ks.length ∧ gs.length = (innerOf ks pvs).length ∧ f = s :: gs.flatten ∧
        ∀ (j : Nat) b g, (innerOf ks pvs)[j]? = some b → gs[j]? = some g → Flat K H n b g
      obtain ⟨fs, p1, p2, p3⟩ := pick (R := R) (F := fun s => s :: ((innerD s).map (stmtsD n)).flatten) r fun s d hd hs => by
        have hsw := hx d hd
        have hiw := inner_wf hsw
        obtain ⟨z, ks, ps, rfl, hsh, hl, hp⟩ := wfS_inv hsw
        have ein : innerD (.tup (.str z :: ps)) = innerOf ks ps := by show innerOf ((shapeOf z).getD []) ps = _; rw [hsh]; rfl
        have hs0 := hs
        cases hs with
        | @tup sA vs2 _ h2 r2 hz2 =>
          cases r2 with
          | @cons v0 pvs _ _ hv0 rp =>
            cases hv0
            rw [ein] at hiw
            obtain ⟨gs, g1, g2, g3⟩ := pick (R := fun b g => Flat K H n b g) (F := stmtsD n) (inner_at (ks := ks) rp) fun b d hd hb => at_flat hb (hiw d hd)
            refine ⟨.ref sA :: gs.flatten, ⟨sA, z, ks, pvs, gs, rfl, h2, hsh, by rw [rp.len]; exact hl, g1, rfl, g2⟩, ?_⟩
            rw [ein]
            exact .cons hs0 g3
      exact ⟨fs.flatten, ⟨a, vs, fs, rfl, h, p1, rfl, p2⟩, p3⟩
theorem Flat.ex {K : PySem.W.Frag} {H H' : Hp} (e : Ex H H') : ∀ {n : Nat} {v : V} {xs : List V}, Flat K H n v xs → Flat K H' n v xs
  | 0, _, _, h => h.elim
  | n + 1, _, _, ⟨a, vs, fs, h1, h2, h3, h4, h5⟩ => ⟨a, vs, fs, h1, ex_t e h2, h3, h4, fun i s f hs hf => by
      obtain ⟨sA, z, ks, pvs, gs, g1, g2, g3, g4, g5, g6, g7⟩ := h5 i s f hs hf
      exact ⟨sA, z, ks, pvs, gs, g1, ex_t e g2, g3, g4, g5, g6, fun j b g hb hg => (g7 j b g hb hg).ex e⟩⟩
theorem flat_take_s {α : Type} {l : List (List α)} {i : Nat} {x : List α} (h : l[i]? = some x) : (l.take (i + 1)).flatten = (l.take i).flatten ++ x := by
  rw [List.take_add_one, h, Option.toList_some, List.flatten_append, List.flatten_singleton]
theorem flat_len_t {α : Type} (zss : List (List α)) (i : Nat) : ((zss.take i).flatten).length ≤ zss.flatten.length := by
  have h : zss.flatten = (zss.take i).flatten ++ (zss.drop i).flatten := by rw [← List.flatten_append, List.take_append_drop]
  rw [h, List.length_append]
  omega
section
variable {P : Program} {w : World} {K : PySem.W.Frag} {mg : Str → Option Value} {base : Heap} {sa : Addr} {rs : Str → Addr}
def sp_stmts (K : PySem.W.Frag) (n : Nat) : Sp := PuL fun vs H xs => ∃ v, vs = [v] ∧ Flat K H n v xs ∧ xs.length ≤ 90000
theorem l_stmts {H : Hp} {v : V} {n : Nat} {xs : List V} (h : Flat K H n v xs) (hz : xs.length ≤ 90000) : SpL (sp_stmts K n) [v] H xs := spl fun H1 e => ⟨v, rfl, h.ex e, hz⟩
theorem sc_stmts : FnScope N_statements_of P_statements_of (C8.fnScope s_statements_of) := fnScope_by (by decide +kernel)
theorem ok_stmts (T : TxtS w K mg) (S : Shp w K mg sa rs) : ∀ n, Cal P w K mg base (n + 3) "statements_of" (sp_stmts K n) []
  | 0 => mk_cal T.d_statements_of sc_stmts (fun vs H Q E h => by obtain ⟨z, ⟨_, rfl, _⟩, _⟩ := h; rfl) (fun f cdv A outer s H vs Q E hr h => by
      obtain ⟨z, ⟨_, _, hw, _⟩, _⟩ := h
      exact hw.elim)
  | n + 1 => by
    refine mk_cal T.d_statements_of sc_stmts (fun vs H Q E h => ?_) (fun f cdv A outer s H vs Q E hr h => ?_)
    · obtain ⟨z, ⟨_, rfl, _⟩, _⟩ := h
      rfl
    · obtain ⟨xs, ⟨v, rfl, ⟨a, vs, fs, rfl, ha, hl0, rfl, hfs⟩, hz⟩, k⟩ := h
      have nd := sc_stmts.nd
      refine ⟨_, pss_cons (ps_set (i := 1) nd rfl (Or.inl rfl) (pe_lst pa_nil))
        (pss_cons (ps_for PassesOwn.never rfl (pi_tup (pv 0)) (pg_name (i := 2) nd rfl (Or.inl rfl))
          (pss_cons (ps_expr (pe_bm PySem.F.plainAttrs_list PySem.F.slot_list_append PySem.F.type_list_append mt_append (pv 1) (pa_cons (pv 2) pa_nil)))
          (pss_one (ps_for PassesOwn.never rfl (pi_list (pe_c (ok_blocks T S) hr (by omega) (by rfl) (pa_cons (pv 2) pa_nil))) (pg_name (i := 3) nd rfl (Or.inl rfl))
            (pss_one (ps_expr (pe_bm PySem.F.plainAttrs_list PySem.F.slot_list_extend PySem.F.type_list_extend mt_extend (pv 1) (pa_cons (pe_c (ok_stmts T S n) hr (Nat.le_refl _) (by rfl) (pa_cons (pv 3) pa_nil)) pa_nil))))))))
        (pss_one (ps_ret (pv 1)))), ?_⟩
      refine q_asgL (el_lst ea_nil (show 0 ≤ 100000 by decide)) fun l H1 hl e1 h1 => ?_
      refine q_forT (ev_var (v := .ref a) rfl) (ex_t e1 ha) (fun i σ' H' => (∃ w2 w3, σ' = [some (.ref a), some (.ref l), w2, w3]) ∧ Ex H H' ∧ H' l = some (.lst ((fs.take i).flatten))) (fun H2 e2 => ⟨⟨_, _, rfl⟩, e1.trans e2, e2 _ _ h1⟩) (fun i σ' H' _ q => ex_t q.2.1 ha) ?_ ?_
      · rintro i y σ' H' hy ⟨⟨w2, w3, rfl⟩, p1, p2⟩
        have hi : i < fs.length := by rw [hl0]; exact (List.getElem?_eq_some_iff.mp hy).1
        obtain ⟨sA, z, ks, pvs, gs, rfl, g2, g3, g4, g5, g6, g7⟩ := hfs i y fs[i] hy (List.getElem?_eq_getElem hi)
        have hfi := List.getElem?_eq_getElem hi
        rw [g6] at hfi
        have hlen := flat_len_t fs (i + 1)
        rw [flat_take_s hfi, List.length_append, List.length_cons] at hlen
        refine q_app p2 (ev_var rfl) (ev_var (v := .ref sA) rfl) (by omega) fun H2 e2 => ?_
        have eH : Ex H (upd H2 l (.lst ((fs.take i).flatten ++ [.ref sA]))) := Ex.mut (p1.trans e2) hl
        refine s_forLN (l := l) (xs := innerOf ks pvs) (el_call (ea_cons (ev_var (v := .ref sA) rfl) ea_nil) (l_blocksG (ex_t eH g2) g3 g4)) (by rw [upd_same]; simp)
          (fun G j σ' H' => (∃ w3, σ' = [some (.ref a), some (.ref l), some (.ref sA), w3]) ∧ Ex G H' ∧ H' l = some (.lst (((fs.take i).flatten ++ [.ref sA]) ++ (gs.take j).flatten))) (fun G j σ' H' q => q.2.1) (fun H3 e3 => ⟨⟨_, rfl⟩, hid_ex, by rw [List.take_zero, List.flatten_nil, List.append_nil]; exact e3 _ _ upd_same⟩) ?_ ?_
        · rintro H3 e3 j b σ' H' hb ⟨⟨w3, rfl⟩, c1, c2⟩
          have hj : j < gs.length := by rw [g5]; exact (List.getElem?_eq_some_iff.mp hb).1
          have hgj := List.getElem?_eq_getElem hj
          have eG : Ex H (hid l l H3) := ex_hid (eH.trans e3) hl hl
          have hlen2 := flat_len_t gs (j + 1)
          rw [flat_take_s hgj, List.length_append] at hlen2
          refine s_extN c2 (ev_var rfl) (el_call (ea_cons (ev_var rfl) ea_nil) (l_stmts ((g7 j b gs[j] hb hgj).ex (eG.trans c1)) (by omega))) (by rw [List.length_append, List.length_append, List.length_singleton]; omega) fun H4 e4 => ⟨⟨_, rfl⟩, ?_, ?_⟩
          · exact Ex.mut (c1.trans e4) (if_pos (.inl rfl))
          · rw [upd_same, flat_take_s hgj, List.append_assoc]
        · rintro H3 e3 σ' H' ⟨⟨w3, rfl⟩, c1, c2⟩
          have eG : Ex H (hid l l H3) := ex_hid (eH.trans e3) hl hl
          refine ⟨⟨_, _, rfl⟩, eG.trans c1, ?_⟩
          rw [flat_take_s hfi, c2, ← g5, List.take_length, List.append_assoc, List.singleton_append]
      · rintro σ' H' ⟨⟨w2, w3, rfl⟩, p1, p2⟩
        refine s_ret (v := .ref l) (ev_var rfl) fun H2 e2 => k l H2 hl (p1.trans e2) (e2 _ _ ?_)
        rw [p2, ← hl0, List.take_length]
end
end EE
set_option Elab.async false
set_option linter.all false
set_option maxRecDepth 100000
set_option maxHeartbeats 1000000
namespace EE
open PySem L2 Evl
open C8 (Cal cal0 pe_c pe_gc fnScope_by)
section
variable {P : Program} {w : World} {K : PySem.W.Frag} {mg : Str → Option Value} {base : Heap} {sa : Addr} {rs : Str → Addr}
/-! has_return -/
def sp_hasret (K : PySem.W.Frag) (n : Nat) : Sp := PuV fun vs H z => ∃ v d, vs = [v] ∧ At K H v d ∧ wfB n d = true ∧ d.nodes ≤ 39000 ∧ z = .bl (retD n d)
theorem v_hasret {H : Hp} {v : V} {d : Dt} {n : Nat} (h : At K H v d) (hw : wfB n d = true) (hz : d.nodes ≤ 39000) : SpV (sp_hasret K n) [v] H (.bl (retD n d)) := spv fun H1 e => ⟨v, d, rfl, h.ex e, hw, hz, rfl⟩
theorem sc_hasret : FnScope N_has_return P_has_return (C8.fnScope s_has_return) := fnScope_by (by decide +kernel)
theorem ok_hasret (T : TxtS w K mg) (S : Shp w K mg sa rs) (n : Nat) : Cal P w K mg base (n + 4) "has_return" (sp_hasret K n) [] := by
  refine mk_cal T.d_has_return sc_hasret (fun vs H Q E h => ?_) (fun f cdv A outer s H vs Q E hr h => ?_)
  · obtain ⟨z, ⟨_, _, rfl, _⟩, _⟩ := h
    rfl
  · obtain ⟨z, ⟨v, d, rfl, hv, hw, hz, rfl⟩, k⟩ := h
    have nd := sc_hasret.nd
    refine ⟨_, pss_one (ps_ret (pe_callB (cr_any rfl) (by rfl) T.any (by decide +kernel) (pa_cons (pe_lc (own := [("statement", 1)]) (g := gName 1) (tt := tYes) rfl nd (pi_list (pe_c (ok_stmts T S n) hr (by omega) (by rfl) (pa_cons (pv 0) pa_nil))) (blkOk_by (N := N_has_return) (sc := C8.fnScope s_has_return) (by decide +kernel))
      (fun _ _ _ _ _ => pg_name (i := 1) nd rfl (Or.inl rfl)) (fun _ _ _ _ _ => pts_nil) (fun _ _ _ _ _ => pe_cmpR op_eq (pe_ix (show IxR _ (rIxT K) from ix_tup) (pv 1) pe_int (fun _ _ => rfl)) pe_str (nomark _))) pa_nil))), ?_⟩
    obtain ⟨xs, hf, hx⟩ := at_flat hv hw
    have hlen := stmts_nodes n d
    rw [retD_eq hw] at k
    refine s_ret (v := .bl (((stmtsD n d).map fun s => isS "return" (headD s)).any id)) (ev_cbL (el_lcA (((stmtsD n d).map fun s => isS "return" (headD s)).map V.bl) (by rw [List.length_map, List.length_map, hx.len]) (ei_listN (el_call (ea_cons (ev_var rfl) ea_nil) (l_stmts hf (by rw [hx.len]; omega)))) (by rw [hx.len]; omega) (fun _ => rfl) fun i x y H2 e2 hi hy => ?_) fun p H2 _ hp => rc_any (sq_of hp)) fun H1 e1 => k H1 e1
    obtain ⟨ds, q1, q2⟩ := hx.get hi
    obtain ⟨bb, q3, rfl⟩ := map_get hy
    obtain ⟨d2, q4, rfl⟩ := map_get q3
    rw [q1] at q4
    cases q4
    obtain ⟨z, ks, ps, rfl, hsh, _, _⟩ := wfS_inv (stmts_wf hw _ (List.mem_of_getElem? q1))
    cases q2 with
    | @tup sA vs2 _ h2 r2 hz2 =>
      cases r2 with
      | @cons v0 pvs _ _ hv0 rp =>
        cases hv0
        refine ev_is (ev_op (ev_op (ev_var (v := .ref sA) rfl) ev_c (rv_ixT (ex_t e2 h2) (at_of (j := 0) rfl rfl))) (ev_c (v := .str "return")) (rv_eq rfl)) ?_
        show V.bl (decide (V.str z = V.str "return")) = V.bl (decide (z = "return"))
        simp
theorem block_kn {k : Str} : k = "block" ∨ k = "bare" ↔ k ∈ blks := by simp
/-- what the checks of the leaves say -/
theorem leaf_cal (T : TxtS w K mg) {k : Str} (hk : k ∈ leafs) : ∃ x j f, checkOf.lookup k = some x ∧ j ≤ 5 ∧ Cal P w K mg base j x (sp_leaf K f) [] ∧ ∀ kn d, f kn d = leafD kn k d := by
  have G := T.toTxtG
  rcases (by simpa using hk : k = "name" ∨ k = "local" ∨ k = "shared" ∨ k = "class" ∨ k = "function" ∨ k = "price" ∨ k = "words" ∨ k = "expression" ∨ k = "expressions" ∨ k = "test") with e | e | e | e | e | e | e | e | e | e <;> subst e
  · exact ⟨_, 2, _, by decide +kernel, by decide, ok_any G, fun _ _ => rfl⟩
  · exact ⟨_, 2, _, by decide +kernel, by decide, ok_any G, fun _ _ => rfl⟩
  · exact ⟨_, 2, _, by decide +kernel, by decide, ok_shared_name G, fun _ _ => rfl⟩
  · exact ⟨_, 2, _, by decide +kernel, by decide, ok_class_name G, fun _ _ => rfl⟩
  · exact ⟨_, 2, _, by decide +kernel, by decide, ok_function_name G, fun _ _ => rfl⟩
  · exact ⟨_, 2, _, by decide +kernel, by decide, ok_price G, fun _ _ => rfl⟩
  · exact ⟨_, 5, _, by decide +kernel, by decide, ok_words G, fun _ _ => rfl⟩
  · exact ⟨_, 2, _, by decide +kernel, by decide, ok_expr G, fun _ _ => rfl⟩
  · exact ⟨_, 3, _, by decide +kernel, by decide, ok_exprs G, fun _ _ => rfl⟩
  · exact ⟨_, 4, _, by decide +kernel, by decide, ok_test G, fun _ _ => rfl⟩
def sp_blk (K : PySem.W.Frag) (n : Nat) : Sp := PuV fun vs H z => ∃ kv kn v d, vs = [kv, .int (7 - (n : Int)), v] ∧ KnAt K H kv kn ∧ At K H v d ∧ d.nodes ≤ 39000 ∧ z = .bl (okB kn n d)
theorem v_blk {H : Hp} {v kv : V} {d : Dt} {kn : Kn} {n : Nat} (hk : KnAt K H kv kn) (h : At K H v d) (hz : d.nodes ≤ 39000) : SpV (sp_blk K n) [kv, .int (7 - (n : Int)), v] H (.bl (okB kn n d)) := spv fun H1 e => ⟨kv, kn, v, d, rfl, hk.ex e, h.ex e, hz, rfl⟩
def sp_part (K : PySem.W.Frag) (n : Nat) : Sp := PuV fun vs H z => ∃ kv kn k v d, vs = [kv, .int (6 - (n : Int)), .str k, v] ∧ KnAt K H kv kn ∧ (k ∈ leafs ∨ k ∈ blks) ∧ At K H v d ∧ d.nodes ≤ 39000 ∧ z = .bl (partD (okB kn n) (retD n) kn k d)
theorem v_part {H : Hp} {v kv : V} {d : Dt} {kn : Kn} {n : Nat} {k : Str} (hk : KnAt K H kv kn) (hkk : k ∈ leafs ∨ k ∈ blks) (h : At K H v d) (hz : d.nodes ≤ 39000) : SpV (sp_part K n) [kv, .int (6 - (n : Int)), .str k, v] H (.bl (partD (okB kn n) (retD n) kn k d)) := spv fun H1 e => ⟨kv, kn, k, v, d, rfl, hk.ex e, hkk, h.ex e, hz, rfl⟩
def sp_stmt (K : PySem.W.Frag) (n : Nat) : Sp := PuV fun vs H z => ∃ kv kn v d, vs = [kv, .int (6 - (n : Int)), v] ∧ KnAt K H kv kn ∧ At K H v d ∧ d.nodes ≤ 39000 ∧ z = .bl (stmtD (okB kn n) (retD n) kn d)
theorem v_stmt {H : Hp} {v kv : V} {d : Dt} {kn : Kn} {n : Nat} (hk : KnAt K H kv kn) (h : At K H v d) (hz : d.nodes ≤ 39000) : SpV (sp_stmt K n) [kv, .int (6 - (n : Int)), v] H (.bl (stmtD (okB kn n) (retD n) kn d)) := spv fun H1 e => ⟨kv, kn, v, d, rfl, hk.ex e, h.ex e, hz, rfl⟩
theorem sc_partG : FnScope N_is_part P_is_part (C8.fnScope s_is_part) := fnScope_by (by decide +kernel)
theorem ok_partG (T : TxtS w K mg) (S : Shp w K mg sa rs) {n : Nat} (B : Cal P w K mg base (3 * n + 6) "is_block" (sp_blk K n) []) : Cal P w K mg base (3 * n + 7) "is_part" (sp_part K n) [] := by
  obtain ⟨b, hb1, hb2⟩ := T.c_BLOCKS
  obtain ⟨ck, hc1, hc2, hc3⟩ := T.c_CHK
  refine mk_cal T.d_is_part sc_partG (fun vs H Q E h => ?_) (fun f cdv A outer s H vs Q E hr h => ?_)
  · obtain ⟨z, ⟨_, _, _, _, _, rfl, _⟩, _⟩ := h
    rfl
  · obtain ⟨z, ⟨kv, kn, kd, v, d, rfl, hk, hkk, hv, hz0, rfl⟩, k⟩ := h
    have nd := sc_partG.nd
    rcases hkk with hkl | hkb
    · obtain ⟨x, j, ff, hx, hj, C, hf⟩ := leaf_cal (P := P) (base := base) T hkl
      obtain ⟨f0, hc4, hc5⟩ := hc3 kd x hx
      obtain ⟨fe, fd, ps, ds, Fe, me, kpe, be, dve⟩ := C.ex
      rw [hc5] at me
      cases me
      refine ⟨_, pss_cons (ps_if (pt_cmpR op_in_seq (pv 2) (pe_gc (v := .ref b) (by rfl) ⟨_, hb1, rfl⟩) (by rfl)) (pss_one ps_never) pss_nil)
        (pss_cons (ps_set (i := 4) nd rfl (Or.inl rfl) (pe_ix ix_kdict (pe_gc (v := .ref ck) (by rfl) ⟨_, hc1, rfl⟩) (pv 2) (fun _ _ => rfl)))
        (pss_one (ps_ret (pe_callL (i := 4) (E := L2.E0) Fe (hr.mono (by omega)) rfl (Or.inl rfl) kpe be dve pass0 (pa_cons (pv 0) (pa_cons (pv 3) pa_nil)))))), ?_⟩
      have hnb : kd ∉ blks := by
        rcases (by simpa using hkl : kd = "name" ∨ kd = "local" ∨ kd = "shared" ∨ kd = "class" ∨ kd = "function" ∨ kd = "price" ∨ kd = "words" ∨ kd = "expression" ∨ kd = "expressions" ∨ kd = "test") with e | e | e | e | e | e | e | e | e | e <;> subst e <;> decide
      have hp : partD (okB kn n) (retD n) kn kd d = ff kn d := by
        rw [hf]
        unfold partD
        rw [if_neg (fun e => hnb (block_kn.mp (.inl e))), if_neg (fun e => hnb (block_kn.mp (.inr e)))]
      rw [hp] at k
      refine q_no (et_test (ev_is (ev_op (ev_var (v := .str kd) rfl) ev_c (rv_isT (hb2 _) rfl rfl)) (congrArg V.bl ((inV_strs kd blks).trans (decide_eq_false hnb))))) fun H1 e1 => ?_
      refine q_asg (v := .ref f0) (ev_op ev_c (ev_var (v := .str kd) rfl) (rv_kix hc2 hc4 rfl)) fun H2 e2 => ?_
      exact s_ret (v := .bl (ff kn d)) (ev_callLoc rfl (ea_cons (ev_var rfl) (ea_cons (ev_var rfl) ea_nil)) (v_leaf (hk.ex (e1.trans e2)) (hv.ex (e1.trans e2)))) fun H3 e3 => k H3 ((e1.trans e2).trans e3)
    · refine ⟨_, pss_cons (ps_if (pt_cmpR op_in_seq (pv 2) (pe_gc (v := .ref b) (by rfl) ⟨_, hb1, rfl⟩) (by rfl))
          (pss_one (ps_ret (pe_and (pe_c B hr (by omega) (by rfl) (pa_cons (pv 0) (pa_cons (pe_op op_add (pv 1) pe_int) (pa_cons (pv 3) pa_nil)))) (pe_one (pe_or (pe_cmpR op_eq (pv 2) pe_str (nomark _)) (pe_one (pe_not (pe_c (ok_hasret T S n) hr (by omega) (by rfl) (pa_cons (pv 3) pa_nil))))))))) pss_nil)
        (pss_cons ps_never (pss_one ps_never)), ?_⟩
      refine q_when (b := true) (et_test (ev_is (ev_op (ev_var (v := .str kd) rfl) ev_c (rv_isT (hb2 _) rfl rfl)) (congrArg V.bl ((inV_strs kd blks).trans (decide_eq_true hkb))))) (fun _ H1 e1 => ?_) (fun z => nomatch z)
      refine s_ret (v := .bl (partD (okB kn n) (retD n) kn kd d)) ?_ fun H2 e2 => k H2 (e1.trans e2)
      have hp : partD (okB kn n) (retD n) kn kd d = (okB kn n d && (decide (kd = "block") || !retD n d)) := by
        unfold partD
        rcases block_kn.mpr hkb with e | e
        · rw [if_pos e, decide_eq_true e]; simp
        · rw [if_neg (by rw [e]; decide), if_pos e, decide_eq_false (by rw [e]; decide)]; rfl
      rw [hp]
      refine ev_andV (ev_call (ea_cons (ev_var rfl) (ea_cons (ev_is (ev_op (ev_var rfl) ev_c rv_I0) (show V.int (6 - (n : Int) + 1) = V.int (7 - (n : Int)) by congr 1; omega)) (ea_cons (ev_var rfl) ea_nil))) (v_blk (hk.ex e1) (hv.ex e1) hz0)) fun hB => ?_
      refine ev_orV (ev_is (ev_op (ev_var (v := .str kd) rfl) (ev_c (v := .str "block")) (rv_eq rfl)) (by simp)) fun _ => ?_
      exact ev_notV (ev_call (ea_cons (ev_var rfl) ea_nil) (v_hasret (hv.ex e1) (ok_wf hB) hz0))
end
end EE
set_option Elab.async false
set_option linter.all false
set_option maxRecDepth 100000
set_option maxHeartbeats 1000000
namespace EE
open PySem L2 Evl
open C8 (Cal cal0 pe_c pe_gc fnScope_by)
section
variable {K : PySem.W.Frag} {σ : L2.St} {H H' : Hp} {te : TE} {v : V} {d : Dt}
theorem et_notTup {d : Dt} (hd : d.isTup = false) (hv : At K H v d) (he : Ev te σ H v) : EvT (tNot (tB (tCB (rIsi K) (tCons te (tCons (tC (.ty "tuple")) tNil))))) σ H true := et_is (et_not (et_isTup hv he)) (by rw [hd]; rfl)
theorem et_orT {t u : TT} (h : EvT t σ H true) : EvT (tOr t u) σ H true := et_is (et_or (b := true) h fun z => nomatch z) rfl
theorem nm_strD {d : Dt} (h : nmD d = true) : ∃ z, d = .str z := by cases d <;> first | exact ⟨_, rfl⟩ | cases h
end
section
variable {P : Program} {w : World} {K : PySem.W.Frag} {mg : Str → Option Value} {base : Heap} {sa : Addr} {rs : Str → Addr}
theorem sc_stmtG : FnScope N_is_statement P_is_statement (C8.fnScope s_is_statement) := fnScope_by (by decide +kernel)
theorem ok_stmtG (T : TxtS w K mg) (S : Shp w K mg sa rs) {n : Nat} (B : Cal P w K mg base (3 * n + 6) "is_block" (sp_blk K n) []) : Cal P w K mg base (3 * n + 8) "is_statement" (sp_stmt K n) [] := by
  refine mk_cal T.d_is_statement sc_stmtG (fun vs H Q E h => ?_) (fun f cdv A outer s H vs Q E hr h => ?_)
  · obtain ⟨z, ⟨_, _, _, _, rfl, _⟩, _⟩ := h
    rfl
  · obtain ⟨z, ⟨kv, kn, v, d, rfl, hk, hv, hz0, rfl⟩, k⟩ := h
    have nd := sc_stmtG.nd
    refine ⟨_, pss_cons (ps_if (PW.pt (pw_or (pt_not (pt_val (pe_callB call_isi (by rfl) T.isi (by decide +kernel) (pa_cons (pv 2) (pa_cons (pe_bltn (v := .ty "tuple") (by rfl) T.tupT (u := .type "tuple") (by decide +kernel) (by rfl)) pa_nil)))))
        (pw_or (pt_not (pt_truth (pv 2) (by intro _; rfl))) (pw_or1 (pt_not (pt_val (pe_c (ok_is_name T.toTxt) hr (by omega) (by rfl) (pa_cons (pe_ix ix_tup (pv 2) pe_int (fun _ _ => rfl)) pa_nil)))))))) (pss_one (ps_ret pe_bl)) pss_nil)
      (pss_cons (ps_set (i := 3) nd rfl (Or.inl rfl) (pe_c (ok_shape T S) hr (by omega) (by rfl) (pa_cons (pe_ix ix_tup (pv 2) pe_int (fun _ _ => rfl)) pa_nil)))
      (pss_cons (ps_if (PW.pt (pw_or (pt_cmpR op_isN (pv 3) pe_non (nomark _)) (pw_or1 (pt_cmpR op_ne (pe_callB call_len_seq (by rfl) T.len (by decide +kernel) (pa_cons (pv 2) pa_nil)) (pe_op op_add (pe_callB call_len_seq (by rfl) T.len (by decide +kernel) (pa_cons (pv 3) pa_nil)) pe_int) (nomark _))))) (pss_one (ps_ret pe_bl)) pss_nil)
      (pss_one (ps_ret (pe_callB (cr_all rfl) (by rfl) T.all (by decide +kernel) (pa_cons (pe_lc (own := [("kind", 4), ("part", 5)]) (g := gTup K 2 (gCons (gName 4) (gCons (gName 5) gNil))) (tt := tYes) rfl nd
        (RZ.pi_zipA (by rfl) T.zipT (pa_cons (pv 3) (pa_cons (pe_slice sl_tup (pv 2) (po_some pe_int) po_none) pa_nil))) (blkOk_by (N := N_is_statement) (sc := C8.fnScope s_is_statement) (by decide +kernel))
        (fun _ _ _ _ _ => pg_tup (by rfl) (pgs_cons (pg_name (i := 4) nd rfl (Or.inl rfl)) (pgs_cons (pg_name (i := 5) nd rfl (Or.inl rfl)) pgs_nil))) (fun _ _ _ _ _ => pts_nil) (fun _ _ _ _ _ => pe_c (ok_partG T S B) hr (by omega) (by rfl) (pa_cons (pv 0) (pa_cons (pv 1) (pa_cons (pv 4) (pa_cons (pv 5) pa_nil)))))) pa_nil)))))), ?_⟩
    replace k : RetV (.bl (stmtD (okB kn n) (retD n) kn d)) H Q := k
    cases hd : d.isTup with
    | false =>
      have e0 : stmtD (okB kn n) (retD n) kn d = false := by cases d <;> first | rfl | cases hd
      rw [e0] at k
      exact q_when (b := true) (et_orT (et_notTup hd hv (ev_var rfl))) (fun _ H1 e1 => s_ret (v := .bl false) ev_c fun H2 e2 => k H2 (e1.trans e2)) (fun z => nomatch z)
    | true =>
      cases hv with
      | @tup a vs xs h r hz =>
        cases r with
        | nil =>
          exact q_when (b := true) (et_is (et_or (a := false) (b := true) (et_notT (et_isTup (.tup h .nil hz) (ev_var rfl))) fun _ => et_orT (et_is (et_not (et_truT (ev_var rfl) h)) rfl)) rfl) (fun _ H1 e1 => s_ret (v := .bl false) ev_c fun H2 e2 => k H2 (e1.trans e2)) (fun z => nomatch z)
        | @cons v0 pvs x ps h0 rp =>
          have kk : stmtD (okB kn n) (retD n) kn (.tup (x :: ps)) = (nmD x && (match shapeOf (unD x) with | none => false | some ks => decide (ps.length = ks.length) && (List.zipWith (partD (okB kn n) (retD n) kn) ks ps).all id)) := rfl
          rw [kk] at k
          refine q_when (b := !nmD x) (et_is (et_or (a := false) (b := !nmD x) (et_notT (et_isTup (.tup h (.cons h0 rp) hz) (ev_var rfl))) fun _ => et_is (et_or (a := false) (b := !nmD x) (et_notT (et_truT (ev_var rfl) h)) fun _ => et_not (et_B (ev_call (ea_cons (ev_op (ev_var (v := .ref a) rfl) ev_c (rv_ixT h (at_of (j := 0) rfl rfl))) ea_nil) (v_nmD h0)))) rfl) rfl) (fun hb H1 e1 => ?_) (fun hb H1 e1 => ?_)
          · rw [show nmD x = false by simpa using hb] at k
            exact s_ret (v := .bl false) ev_c fun H2 e2 => k H2 (e1.trans e2)
          · have hx : nmD x = true := by simpa using hb
            rw [hx, Bool.true_and] at k
            obtain ⟨z, rfl⟩ := nm_strD hx
            cases h0
            replace k : RetV (.bl (match shapeOf z with | none => false | some ks => decide (ps.length = ks.length) && (List.zipWith (partD (okB kn n) (retD n) kn) ks ps).all id)) H Q := k
            refine q_asg (v := shpV rs z) (ev_call (ea_cons (ev_op (ev_var (v := .ref a) rfl) ev_c (rv_ixT (ex_t e1 h) (at_of (j := 0) rfl rfl))) ea_nil) (spv fun _ _ => ⟨z, rfl, rfl⟩)) fun H2 e2 => ?_
            cases hs : shapeOf z with
            | none =>
              rw [hs] at k
              have e0 : shpV rs z = .non := by unfold shpV; rw [hs]
              rw [e0]
              exact q_when (b := true) (et_orT (et_test (ev_is (ev_op (ev_var (v := .non) rfl) ev_c rv_isN) rfl))) (fun _ H3 e3 => s_ret (v := .bl false) ev_c fun H4 e4 => k H4 (((e1.trans e2).trans e3).trans e4)) (fun z => nomatch z)
            | some ks =>
              rw [hs] at k
              replace k : RetV (.bl (decide (ps.length = ks.length) && (List.zipWith (partD (okB kn n) (retD n) kn) ks ps).all id)) H Q := k
              have e0 : shpV rs z = .ref (rs z) := by unfold shpV; rw [hs]
              rw [e0]
              have hr1 := (S.yes z ks hs).2
              have hlk := shape_len hs
              have h2 := ex_t (e1.trans e2) h
              refine q_when (b := !decide (ps.length = ks.length)) (et_is (et_or (a := false) (b := !decide (ps.length = ks.length)) (et_test (ev_is (ev_op (ev_var (v := .ref (rs z)) rfl) ev_c rv_isN) rfl)) fun _ => et_test (ev_is (ev_op (ev_cb (ea_cons (ev_var rfl) ea_nil) (rc_lenS (.inr h2))) (ev_op (ev_cb (ea_cons (ev_var (v := .ref (rs z)) rfl) ea_nil) (rc_lenS (.inr (hr1 _)))) ev_c rv_I0) (rv_ne rfl)) ?_)) rfl) (fun hb H3 e3 => ?_) (fun hb H3 e3 => ?_)
              · congr 2
                rw [List.length_cons, List.length_map, rp.len]
                exact decide_eq_decide.mpr ⟨fun q => by injection q with q; omega, fun q => by congr 1; omega⟩
              · rw [show decide (ps.length = ks.length) = false by simpa using hb] at k
                exact s_ret (v := .bl false) ev_c fun H4 e4 => k H4 (((e1.trans e2).trans e3).trans e4)
              · have hl : ps.length = ks.length := by simpa using hb
                rw [decide_eq_true hl] at k
                replace k : RetV (.bl ((List.zipWith (partD (okB kn n) (retD n) kn) ks ps).all id)) H Q := k
                refine s_ret (v := .bl ((List.zipWith (partD (okB kn n) (retD n) kn) ks ps).all id)) ?_ fun H4 e4 => k H4 (((e1.trans e2).trans e3).trans e4)
                have h3 := ex_t e3 h2
                refine ev_cbL (el_lcPA (xs := ks.map V.str) (ys := pvs) ((List.zipWith (partD (okB kn n) (retD n) kn) ks ps).map V.bl) (by rw [List.length_map, List.length_zipWith, List.length_map]; omega) (eip_zipU (a := rs z) (ev_var rfl) (hr1 _) (eu_tl (ev_var rfl) h3) (by rw [List.length_map, rp.len]; omega)) (by rw [List.length_map]; omega) (fun _ _ => rfl) fun i x1 y1 b1 H5 e5 g1 g2 g3 => ?_) fun p H5 _ hp => rc_all (sq_of hp)
                obtain ⟨kd, q1, rfl⟩ := map_get g1
                obtain ⟨d1, q2, q3⟩ := rp.get g2
                obtain ⟨bb, q4, rfl⟩ := map_get g3
                rw [List.getElem?_zipWith, q1, q2] at q4
                cases q4
                have e35 := ((e1.trans e2).trans e3).trans e5
                exact ev_call (ea_cons (ev_var rfl) (ea_cons (ev_var rfl) (ea_cons (ev_var rfl) (ea_cons (ev_var rfl) ea_nil)))) (v_part (hk.ex e35) (shape_kinds hs kd (List.mem_of_getElem? q1)) (q3.ex e35) (by have := nodes_part (List.mem_of_getElem? q2); have := nodes_cons (.str z) ps; omega))
      | _ => cases hd
theorem sc_blkG : FnScope N_is_block P_is_block (C8.fnScope s_is_block) := fnScope_by (by decide +kernel)
theorem ok_blkG (T : TxtS w K mg) (S : Shp w K mg sa rs) : ∀ n, Cal P w K mg base (3 * n + 6) "is_block" (sp_blk K n) []
  | 0 => by
    refine mk_cal T.d_is_block sc_blkG (fun vs H Q E h => ?_) (fun f cdv A outer s H vs Q E hr h => ?_)
    · obtain ⟨z, ⟨_, _, _, _, rfl, _⟩, _⟩ := h
      rfl
    · obtain ⟨z, ⟨kv, kn, v, d, rfl, hk, hv, hz0, rfl⟩, k⟩ := h
      refine ⟨_, pss_cons (ps_if (PW.pt (pw_or (pt_cmpR op_gt (pv 1) (pe_gc (by rfl) T.c_MOST_DEEP) (nomark _)) (pw_or (pt_not (pt_val (pe_callB call_isi (by rfl) T.isi (by decide +kernel) (pa_cons (pv 2) (pa_cons (pe_bltn (v := .ty "tuple") (by rfl) T.tupT (u := .type "tuple") (by decide +kernel) (by rfl)) pa_nil)))))
        (pw_or1 (pt_cmpR op_gt (pe_callB call_len_seq (by rfl) T.len (by decide +kernel) (pa_cons (pv 2) pa_nil)) (pe_gc (by rfl) T.c_MOST_STATEMENTS) (nomark _)))))) (pss_one (ps_ret pe_bl)) pss_nil)
        (pss_one ps_never), ?_⟩
      exact q_when (b := true) (et_orT (et_test (ev_is (ev_op (ev_var (v := .int (7 - ((0 : Nat) : Int))) rfl) (ev_c (v := .int 6)) rv_I0) (by decide)))) (fun _ H1 e1 => s_ret (v := .bl false) ev_c fun H2 e2 => k H2 (e1.trans e2)) (fun z => nomatch z)
  | n + 1 => by
    have IH := ok_blkG T S n
    refine mk_cal T.d_is_block sc_blkG (fun vs H Q E h => ?_) (fun f cdv A outer s H vs Q E hr h => ?_)
    · obtain ⟨z, ⟨_, _, _, _, rfl, _⟩, _⟩ := h
      rfl
    · obtain ⟨z, ⟨kv, kn, v, d, rfl, hk, hv, hz0, rfl⟩, k⟩ := h
      have nd := sc_blkG.nd
      refine ⟨_, pss_cons (ps_if (PW.pt (pw_or (pt_cmpR op_gt (pv 1) (pe_gc (by rfl) T.c_MOST_DEEP) (nomark _)) (pw_or (pt_not (pt_val (pe_callB call_isi (by rfl) T.isi (by decide +kernel) (pa_cons (pv 2) (pa_cons (pe_bltn (v := .ty "tuple") (by rfl) T.tupT (u := .type "tuple") (by decide +kernel) (by rfl)) pa_nil)))))
          (pw_or1 (pt_cmpR op_gt (pe_callB call_len_seq (by rfl) T.len (by decide +kernel) (pa_cons (pv 2) pa_nil)) (pe_gc (by rfl) T.c_MOST_STATEMENTS) (nomark _)))))) (pss_one (ps_ret pe_bl)) pss_nil)
        (pss_one (ps_ret (pe_callB (cr_all rfl) (by rfl) T.all (by decide +kernel) (pa_cons (pe_lc (own := [("statement", 3)]) (g := gName 3) (tt := tYes) rfl nd (pi_tup (pv 2)) (blkOk_by (N := N_is_block) (sc := C8.fnScope s_is_block) (by decide +kernel))
          (fun _ _ _ _ _ => pg_name (i := 3) nd rfl (Or.inl rfl)) (fun _ _ _ _ _ => pts_nil) (fun _ _ _ _ _ => pe_c (ok_stmtG T S IH) hr (by omega) (by rfl) (pa_cons (pv 0) (pa_cons (pv 1) (pa_cons (pv 3) pa_nil))))) pa_nil)))), ?_⟩
      have hdp : (7 : Int) - ((n + 1 : Nat) : Int) = 6 - (n : Int) := by omega
      rw [hdp]
      have t1 : EvT (tTest (tOp (rI0 fun i j => V.bl (decide (j < i))) (tVar 1) (tC (.int 6)))) (start N_is_block [kv, V.int (6 - (n : Int)), v]) H false := et_test (ev_is (ev_op (ev_var (v := .int (6 - (n : Int))) rfl) (ev_c (v := .int 6)) rv_I0) (by congr 1; exact decide_eq_false (by omega)))
      replace k : RetV (.bl (okB kn (n + 1) d)) H Q := k
      cases hd : d.isTup with
      | false =>
        have e0 : okB kn (n + 1) d = false := by cases d <;> first | rfl | cases hd
        rw [e0] at k
        exact q_when (b := true) (et_is (et_or (a := false) (b := true) t1 fun _ => et_orT (et_notTup hd hv (ev_var rfl))) rfl) (fun _ H1 e1 => s_ret (v := .bl false) ev_c fun H2 e2 => k H2 (e1.trans e2)) (fun z => nomatch z)
      | true =>
        cases hv with
        | @tup a vs xs h r hz =>
          have kk : okB kn (n + 1) (.tup xs) = (decide (xs.length ≤ 12) && (xs.map (stmtD (okB kn n) (retD n) kn)).all id) := rfl
          rw [kk] at k
          refine q_when (b := decide ((xs.length : Int) > 12)) (et_is (et_or (a := false) (b := decide ((xs.length : Int) > 12)) t1 fun _ => et_is (et_or (a := false) (b := decide ((xs.length : Int) > 12)) (et_notT (et_isTup (.tup h r hz) (ev_var rfl))) fun _ => et_test (ev_op (ev_lenA (ev_var rfl) h r) ev_c rv_I0)) rfl) rfl) (fun hb H1 e1 => ?_) (fun hb H1 e1 => ?_)
          · have := of_decide_eq_true hb
            rw [decide_eq_false (show ¬ xs.length ≤ 12 by omega)] at k
            exact s_ret (v := .bl false) ev_c fun H2 e2 => k H2 (e1.trans e2)
          · have := of_decide_eq_false hb
            rw [decide_eq_true (show xs.length ≤ 12 by omega), Bool.true_and] at k
            refine s_ret (v := .bl ((xs.map (stmtD (okB kn n) (retD n) kn)).all id)) ?_ fun H2 e2 => k H2 (e1.trans e2)
            refine ev_cbL (el_lcA ((xs.map (stmtD (okB kn n) (retD n) kn)).map V.bl) (by rw [List.length_map, List.length_map, r.len]) (ei_tup (ev_var rfl) (ex_t e1 h)) hz (fun _ => rfl) fun i x y H2 e2 hx hy => ?_) fun p H2 _ hp => rc_all (sq_of hp)
            obtain ⟨d1, q1, q2⟩ := r.get hx
            obtain ⟨bb, q3, rfl⟩ := map_get hy
            obtain ⟨d2, q4, rfl⟩ := map_get q3
            rw [q1] at q4
            cases q4
            exact ev_call (ea_cons (ev_var rfl) (ea_cons (ev_var rfl) (ea_cons (ev_var rfl) ea_nil))) (v_stmt (hk.ex (e1.trans e2)) (q2.ex (e1.trans e2)) (by have := nodes_part (List.mem_of_getElem? q1); omega))
        | _ => cases hd
end
end EE
set_option Elab.async false
set_option linter.all false
set_option maxRecDepth 100000
set_option maxHeartbeats 1000000
namespace EE
open PySem L2 Evl
open C8 (Cal cal0 pe_c pe_gc fnScope_by)
def tNo : TE := fun _ _ _ => False
theorem pe_no {X : Cx} {e : Expr} : PE X e tNo := ⟨fun _ _ _ _ _ _ h => h.elim⟩
section
variable {K : PySem.W.Frag} {σ : L2.St} {H H' : Hp} {ta tb tc te : TE} {t u : TT} {x y z v : V}
theorem rc_sum {a : Addr} {ns : List Int} (h : SqL K H a (ns.map V.int)) : RC (rSum K) [.ref a] H (.int ns.sum) := fun H1 e Q q => ⟨a, ns, rfl, ex_l e h, q H1 (Ex.refl H1)⟩
/-- a right statement at v: its first word, its parts -/
theorem stmt_at {W : Dt → Bool} {v : V} {d : Dt} (h : At K H v d) (hs : wfS W d = true) : ∃ a z ks pvs ps, v = .ref a ∧ d = .tup (.str z :: ps) ∧ SqT K H a (.str z :: pvs) ∧ shapeOf z = some ks ∧ pvs.length = ks.length ∧ ps.length = ks.length ∧ AtL K H pvs ps ∧
    (∀ (i : Nat) k p, ks[i]? = some k → ps[i]? = some p → wfP W k p = true) ∧ innerD d = innerOf ks ps := by
  obtain ⟨z, ks, ps, rfl, hsh, hl, hp⟩ := wfS_inv hs
  cases h with
  | @tup a vs _ h2 r2 hz2 =>
    cases r2 with
    | @cons v0 pvs _ _ hv0 rp =>
      cases hv0
      exact ⟨a, z, ks, pvs, ps, rfl, rfl, h2, hsh, by rw [rp.len]; exact hl, hl, rp, hp, by show innerOf ((shapeOf z).getD []) ps = _; rw [hsh]; rfl⟩
theorem innerOf_len {α : Type} {ks : List Str} {ps : List α} : (innerOf ks ps).length ≤ ks.length := by
  unfold innerOf
  have := List.length_filter_le (fun p : Str × α => decide (p.1 ∈ blks)) (ks.zip ps)
  rw [List.length_map]
  rw [List.length_zip] at this
  omega
/-- [F(inner) for inner in blocks_of(statement)] -/
theorem el_inner {W : Dt → Bool} {spF : Sp} {g : Dt → V} {i j : Nat} {vs : List Nat} {E E' : XK} {v : V} {d : Dt} (hi : σ[i]? = some (some v)) (h : At K H v d) (hs : wfS W d = true) (hj : j < σ.length) (hw : ∀ x, wipe ((wipe σ vs).set j (some x)) vs = wipe σ vs)
    (hF : ∀ (w : V) (b : Dt) H1, Ex H H1 → At K H1 w b → W b = true → SpV spF [w] H1 (g b)) :
    EvL (tLc (iList K (tCall (sp_blocks K) [] E (tCons (tVar i) tNil))) (gName j) tYes (tCall spF [] E' (tCons (tVar j) tNil)) vs) σ H ((innerD d).map g) := by
  obtain ⟨a, z, ks, pvs, ps, rfl, rfl, h2, hsh, hl1, hl2, rp, hp, ein⟩ := stmt_at h hs
  have hiw := inner_wf hs
  rw [ein]
  have hlw : ∀ x, ((wipe σ vs).set j (some x))[j]? = some (some x) := fun x => by
    rw [List.getElem?_set_self]
    rw [wipe_length]
    exact hj
  refine el_lcA ((innerOf ks ps).map g) (by rw [List.length_map, (inner_at (ks := ks) rp).len]) (ei_listN (el_call (ea_cons (ev_var hi) ea_nil) (l_blocksG h2 hsh hl1))) (by have := (shape_len hsh).2; have := innerOf_len (ks := ks) (ps := pvs); omega) hw fun ii x y H2 e2 hx hy => ?_
  obtain ⟨di, q1, q2⟩ := (inner_at (ks := ks) rp).get hx
  obtain ⟨d2, hd2, rfl⟩ := map_get hy
  rw [q1] at hd2
  cases hd2
  exact ev_call (ea_cons (ev_var (hlw x)) ea_nil) (hF x di H2 e2 (q2.ex e2) (hiw _ (by rw [ein]; exact List.mem_of_getElem? q1)))
theorem ev_innerSum {W : Dt → Bool} {spF : Sp} {g : Dt → Nat} {i j : Nat} {vs : List Nat} {E E' : XK} {v : V} {d : Dt} (hi : σ[i]? = some (some v)) (h : At K H v d) (hs : wfS W d = true) (hj : j < σ.length) (hw : ∀ x, wipe ((wipe σ vs).set j (some x)) vs = wipe σ vs)
    (hF : ∀ (w : V) (b : Dt) H1, Ex H H1 → At K H1 w b → W b = true → SpV spF [w] H1 (.int (g b : Nat))) :
    Ev (tCB (rSum K) (tCons (tLc (iList K (tCall (sp_blocks K) [] E (tCons (tVar i) tNil))) (gName j) tYes (tCall spF [] E' (tCons (tVar j) tNil)) vs) tNil)) σ H (.int (((innerD d).map g).sum : Nat)) := by
  refine ev_is (ev_cbL (el_inner (g := fun b => .int (g b : Nat)) hi h hs hj hw hF) fun p H1 _ hp => rc_sum (ns := (innerD d).map fun b => (g b : Int)) (sq_of (by rw [hp, List.map_map]; rfl))) ?_
  congr 1
  induction innerD d with
  | nil => rfl
  | cons b l ih => simp only [List.map_cons, List.sum_cons, Int.natCast_add]; rw [ih]
end
/-! how many statements stand in a block; how many of them are lasts -/
def sizeD : Nat → Dt → Nat
  | n + 1, .tup xs => xs.length + (xs.map fun s => ((innerD s).map (sizeD n)).sum).sum
  | _, _ => 0
def lastsD : Nat → Dt → Nat
  | n + 1, .tup xs => (xs.map fun s => (if isS "last" (headD s) then 1 else 0) + ((innerD s).map (lastsD n)).sum).sum
  | _, _ => 0
theorem sizeD_eq : ∀ {n : Nat} {d : Dt}, wfB n d = true → sizeD n d = (stmtsD n d).length
  | 0, _, h => by cases h
  | n + 1, d, h => by
    obtain ⟨xs, rfl, hx⟩ := wfB_inv h
    show xs.length + (xs.map fun s => ((innerD s).map (sizeD n)).sum).sum = _
    rw [stmtsD_succ]
    clear h
    induction xs with
    | nil => rfl
    | cons s l ih =>
      have ih := ih fun x hxm => hx x (List.mem_cons_of_mem _ hxm)
      have hiw := inner_wf (hx s List.mem_cons_self)
      have h1 : ((innerD s).map (sizeD n)).sum = (((innerD s).map (stmtsD n)).flatten).length := by
        revert hiw
        induction innerD s with
        | nil => intro _; rfl
        | cons b r ih2 =>
          intro hiw
          rw [List.map_cons, List.sum_cons, List.map_cons, List.flatten_cons, List.length_append, ih2 fun x hxm => hiw x (List.mem_cons_of_mem _ hxm), sizeD_eq (hiw b List.mem_cons_self)]
      rw [List.map_cons, List.sum_cons, List.map_cons, List.flatten_cons, List.length_append, List.length_cons, List.length_cons, ← ih, h1]
      omega
theorem lastsD_eq : ∀ {n : Nat} {d : Dt}, wfB n d = true → lastsD n d = ((stmtsD n d).filter fun s => isS "last" (headD s)).length
  | 0, _, h => by cases h
  | n + 1, d, h => by
    obtain ⟨xs, rfl, hx⟩ := wfB_inv h
    show (xs.map fun s => (if isS "last" (headD s) then 1 else 0) + ((innerD s).map (lastsD n)).sum).sum = _
    rw [stmtsD_succ]
    clear h
    induction xs with
    | nil => rfl
    | cons s l ih =>
      have ih := ih fun x hxm => hx x (List.mem_cons_of_mem _ hxm)
      have hiw := inner_wf (hx s List.mem_cons_self)
      have h1 : ((innerD s).map (lastsD n)).sum = ((((innerD s).map (stmtsD n)).flatten).filter fun s => isS "last" (headD s)).length := by
        revert hiw
        induction innerD s with
        | nil => intro _; rfl
        | cons b r ih2 =>
          intro hiw
          rw [List.map_cons, List.sum_cons, List.map_cons, List.flatten_cons, List.filter_append, List.length_append, ih2 fun x hxm => hiw x (List.mem_cons_of_mem _ hxm), lastsD_eq (hiw b List.mem_cons_self)]
      rw [List.map_cons, List.sum_cons, List.map_cons, List.flatten_cons, List.filter_append, List.length_append, ← ih, h1, List.filter_cons]
      split <;> simp <;> omega
theorem filter_len (f : Dt → Bool) : ∀ l : List Dt, (l.filter f).length = ((List.range l.length).filter fun i => f (l.getD i .non)).length
  | [] => rfl
  | x :: l => by
    rw [List.length_cons, List.range_succ_eq_map, List.filter_cons, List.filter_cons, List.filter_map]
    have ih := filter_len f l
    have : ((fun i => f ((x :: l).getD i .non)) ∘ Nat.succ) = fun i => f (l.getD i .non) := by funext i; rfl
    rw [this]
    show (if f x = true then x :: l.filter f else l.filter f).length = (if f x = true then _ else _ : List Nat).length
    split
    · rw [List.length_cons, List.length_cons, List.length_map, ih]
    · rw [List.length_map, ih]
section
variable {P : Program} {w : World} {K : PySem.W.Frag} {mg : Str → Option Value} {base : Heap} {sa : Addr} {rs : Str → Addr}
theorem sum_take {α : Type} {l : List α} {f : α → Nat} {i : Nat} {x : α} (h : l[i]? = some x) : ((l.take (i + 1)).map f).sum = ((l.take i).map f).sum + f x := by
  rw [List.take_add_one, h, Option.toList_some, List.map_append, List.sum_append]
  simp
def sp_size (K : PySem.W.Frag) (n : Nat) : Sp := PuV fun vs H z => ∃ v d, vs = [v] ∧ At K H v d ∧ wfB n d = true ∧ sizeD n d ≤ 90000 ∧ z = .int (sizeD n d : Nat)
theorem v_size {H : Hp} {v : V} {d : Dt} {n : Nat} (h : At K H v d) (hw : wfB n d = true) (hz : sizeD n d ≤ 90000) : SpV (sp_size K n) [v] H (.int (sizeD n d : Nat)) := spv fun H1 e => ⟨v, d, rfl, h.ex e, hw, hz, rfl⟩
theorem wfB_succ {n : Nat} {d : Dt} (h : wfB (n + 1) d = true) : ∃ xs, d = .tup xs ∧ ∀ x ∈ xs, wfS (wfB n) x = true := wfB_inv h
theorem sc_sizeG : FnScope N_size_of P_size_of (C8.fnScope s_size_of) := fnScope_by (by decide +kernel)
theorem ok_sizeG (T : TxtS w K mg) (S : Shp w K mg sa rs) (n : Nat) : Cal P w K mg base (n + 4) "size_of" (sp_size K n) [] := by
  refine mk_cal T.d_size_of sc_sizeG (fun vs H Q E h => ?_) (fun f cdv A outer s H vs Q E hr h => ?_)
  · obtain ⟨z, ⟨_, _, rfl, _⟩, _⟩ := h
    rfl
  · obtain ⟨z, ⟨v, d, rfl, hv, hw, hz, rfl⟩, k⟩ := h
    refine ⟨_, pss_one (ps_ret (pe_callB call_len_seq (by rfl) T.len (by decide +kernel) (pa_cons (pe_c (ok_stmts T S n) hr (by omega) (by rfl) (pa_cons (pv 0) pa_nil)) pa_nil))), ?_⟩
    obtain ⟨xs, hf, hx⟩ := at_flat hv hw
    rw [sizeD_eq hw] at hz k
    refine s_ret (v := .int ((stmtsD n d).length : Nat)) (ev_cbL (el_call (ea_cons (ev_var rfl) ea_nil) (l_stmts hf (by rw [hx.len]; exact hz))) fun p H2 _ hp => ?_) fun H1 e1 => k H1 e1
    rw [← hx.len]
    exact rc_lenS (.inl (sq_of hp))
def sp_lasts (K : PySem.W.Frag) (n : Nat) : Sp := PuV fun vs H z => ∃ v d, vs = [v] ∧ At K H v d ∧ wfB n d = true ∧ sizeD n d ≤ 40000 ∧ z = .int (lastsD n d : Nat)
theorem v_lasts {H : Hp} {v : V} {d : Dt} {n : Nat} (h : At K H v d) (hw : wfB n d = true) (hz : sizeD n d ≤ 40000) : SpV (sp_lasts K n) [v] H (.int (lastsD n d : Nat)) := spv fun H1 e => ⟨v, d, rfl, h.ex e, hw, hz, rfl⟩
theorem sc_lastsG : FnScope N_count_lasts P_count_lasts (C8.fnScope s_count_lasts) := fnScope_by (by decide +kernel)
theorem ok_lastsG (T : TxtS w K mg) (S : Shp w K mg sa rs) (n : Nat) : Cal P w K mg base (n + 4) "count_lasts" (sp_lasts K n) [] := by
  refine mk_cal T.d_count_lasts sc_lastsG (fun vs H Q E h => ?_) (fun f cdv A outer s H vs Q E hr h => ?_)
  · obtain ⟨z, ⟨_, _, rfl, _⟩, _⟩ := h
    rfl
  · obtain ⟨z, ⟨v, d, rfl, hv, hw, hz, rfl⟩, k⟩ := h
    have nd := sc_lastsG.nd
    refine ⟨_, pss_one (ps_ret (pe_callB call_len_seq (by rfl) T.len (by decide +kernel) (pa_cons (pe_lc (own := [("statement", 1)]) (g := gName 1) rfl nd (pi_list (pe_c (ok_stmts T S n) hr (by omega) (by rfl) (pa_cons (pv 0) pa_nil))) (blkOk_by (N := N_count_lasts) (sc := C8.fnScope s_count_lasts) (by decide +kernel))
      (fun _ _ _ _ _ => pg_name (i := 1) nd rfl (Or.inl rfl)) (fun _ _ _ _ _ => pts_one (pt_cmpR op_eq (pe_ix (show IxR _ (rIxT K) from ix_tup) (pv 1) pe_int (fun _ _ => rfl)) pe_str (nomark _))) (fun _ _ _ _ _ => pv 1)) pa_nil))), ?_⟩
    obtain ⟨xs, hf, hx⟩ := at_flat hv hw
    rw [sizeD_eq hw] at hz
    rw [lastsD_eq hw] at k
    let g : Nat → Bool := fun i => isS "last" (headD ((stmtsD n d).getD i .non))
    have hcount : (given xs.length g (fun i => xs.getD i .non)).length = ((stmtsD n d).filter fun s => isS "last" (headD s)).length := by
      unfold given
      rw [List.length_map, hx.len]
      exact (filter_len (fun s => isS "last" (headD s)) (stmtsD n d)).symm
    refine s_ret (v := .int (((stmtsD n d).filter fun s => isS "last" (headD s)).length : Nat)) (ev_cbL (xs := given xs.length g (fun i => xs.getD i .non)) (el_lcW (xs := xs) g (fun i => xs.getD i .non) (ei_listN (el_call (ea_cons (ev_var rfl) ea_nil) (l_stmts hf (by rw [hx.len]; omega)))) (by rw [hx.len]; omega) (fun _ => rfl) (fun i x H1 e1 hi => ?_) (fun i x H1 e1 hi _ => ?_)) fun p H2 _ hp => ?_) fun H1 e1 => k H1 e1
    · obtain ⟨ds, q1, q2⟩ := hx.get hi
      obtain ⟨z, ks, ps, rfl, hsh, _, _⟩ := wfS_inv (stmts_wf hw _ (List.mem_of_getElem? q1))
      cases q2 with
      | @tup sA vs2 _ h2 r2 hz2 =>
        cases r2 with
        | @cons v0 pvs _ _ hv0 rp =>
          cases hv0
          refine et_test (ev_is (ev_op (ev_op (ev_var (v := .ref sA) rfl) ev_c (rv_ixT (ex_t e1 h2) (at_of (j := 0) rfl rfl))) (ev_c (v := .str "last")) (rv_eq rfl)) ?_)
          show V.bl (decide (V.str z = V.str "last")) = V.bl (isS "last" (headD ((stmtsD n d).getD i .non)))
          rw [List.getD_eq_getElem?_getD, q1]
          show V.bl (decide (V.str z = V.str "last")) = V.bl (decide (z = "last"))
          simp
    · exact ev_is (ev_var rfl) (by rw [List.getD_eq_getElem?_getD, hi]; rfl)
    · rw [← hcount]
      exact rc_lenS (.inl (sq_of hp))
end
end EE
set_option Elab.async false
set_option linter.all false
set_option maxRecDepth 100000
set_option maxHeartbeats 1000000
namespace EE
open PySem L2 Evl
open C8 (Cal cal0 pe_c pe_gc fnScope_by)
section
variable {K : PySem.W.Frag} {σ : L2.St} {H H' : Hp} {ta tb tc te : TE} {t u : TT} {x y z v : V} {D : Ends} {tu tz : TS}
theorem sqT_updL {l a : Addr} {xs ys vs : List V} (hl : H l = some (.lst xs)) (h : SqT K H a vs) : SqT K (upd H l (.lst ys)) a vs := by
  rcases h with (h | ⟨o, h⟩) | h
  · exact .inl (.inl (by rw [upd_ne (fun z => by subst z; rw [hl] at h; cases h)]; exact h))
  · exact .inl (.inr ⟨o, by rw [upd_ne (fun z => by subst z; rw [hl] at h; cases h)]; exact h⟩)
  · exact .inr h
mutual
theorem At.updL {l : Addr} {xs ys : List V} (hl : H l = some (.lst xs)) : ∀ {v : V} {d : Dt}, At K H v d → At K (upd H l (.lst ys)) v d
  | _, _, .non => .non
  | _, _, .bl b => .bl b
  | _, _, .int i => .int i
  | _, _, .str z h => .str z h
  | _, _, .tup h r hz => .tup (sqT_updL hl h) (AtL.updL hl r) hz
  | _, _, .lst (a := a) h => by
    by_cases e : a = l
    · subst e; exact .lst (sq_of upd_same)
    · rcases h with (h | ⟨o, h⟩) | h
      · exact .lst (.inl (.inl (by rw [upd_ne e]; exact h)))
      · exact .lst (.inl (.inr ⟨o, by rw [upd_ne e]; exact h⟩))
      · exact .lst (.inr h)
  | _, _, .dic (a := a) h => by
    have e : a ≠ l := fun z => by subst z; rcases h with h | ⟨o, h⟩ <;> (rw [hl] at h; cases h)
    rcases h with h | ⟨o, h⟩
    · exact .dic (.inl (by rw [upd_ne e]; exact h))
    · exact .dic (.inr ⟨o, by rw [upd_ne e]; exact h⟩)
  | _, _, .odd (a := a) h => by
    have e : a ≠ l := fun z => by subst z; rcases h with h | ⟨o, h⟩ <;> (rw [hl] at h; cases h)
    rcases h with h | ⟨o, h⟩
    · exact .odd (.inl (by rw [upd_ne e]; exact h))
    · exact .odd (.inr ⟨o, by rw [upd_ne e]; exact h⟩)
theorem AtL.updL {l : Addr} {xs ys : List V} (hl : H l = some (.lst xs)) : ∀ {vs : List V} {ds : List Dt}, AtL K H vs ds → AtL K (upd H l (.lst ys)) vs ds
  | _, _, .nil => .nil
  | _, _, .cons h t => .cons (At.updL hl h) (AtL.updL hl t)
end
/-- for kind, part in parts_of(statement): .. -/
theorem q_forPartsG {p g : Addr} {s : Addr} {z : Str} {ks : List Str} {pvs : List V} {E : XK} {j1 j2 : Nat} (h : Ev ta σ H (.ref s)) (hs : SqT K H s (V.str z :: pvs)) (hk : shapeOf z = some ks) (hl : pvs.length = ks.length) (hp : H p ≠ none) (hg : H g ≠ none)
    (W : Hp → Nat → L2.St → Hp → Prop) (hB : ∀ G i σ' H', W G i σ' H' → Ex G H') (h0 : ∀ H2, Ex H H2 → W (hid p g H2) 0 σ H2)
    (hs2 : ∀ H2, Ex H H2 → ∀ (i : Nat) (k : Str) (q : V) σ' H', ks[i]? = some k → pvs[i]? = some q → W (hid p g H2) i σ' H' →
      tu { D with nx := W (hid p g H2) (i + 1), ct := W (hid p g H2) (i + 1), bk := tz D } ((σ'.set j1 (some (.str k))).set j2 (some q)) H')
    (hd : ∀ H2, Ex H H2 → ∀ σ' H', W (hid p g H2) ks.length σ' H' → tz D σ' H') :
    tSeq (tFor (iList K (tCall (sp_parts K) [] E (tCons ta tNil))) (gTup K 2 (gCons (gName j1) (gCons (gName j2) gNil))) tu) tz D σ H :=
  h H (Ex.refl H) _ fun H1 e1 => ⟨s, z, ks, pvs, rfl, ex_t e1 hs, hk, hl, fun l ts H2 hln hts e2 h2 hlen h3 => ⟨l, rfl, ⟨_, sq_of h2⟩, by
    have ne : ∀ {a : Addr}, H1 a = none → a ≠ p ∧ a ≠ g := fun {a} ha => ⟨fun z => hp (by subst z; exact fresh_back e1 ha), fun z => hg (by subst z; exact fresh_back e1 ha)⟩
    have hlG : hid p g H2 l = some (.lst (ts.map V.ref)) := by rw [hid_ne (ne hln).1 (ne hln).2]; exact h2
    refine for_list (D := { D with nx := tz D }) (xs := ts.map V.ref) (W (hid p g H2)) (h0 H2 (e1.trans e2)) (fun i σ' H' _ w => sq_of (hB _ _ _ _ w _ _ hlG)) (fun i y σ' H' hy w => ?_) (fun σ' H' w => ?_)
    · obtain ⟨tt, hy1, rfl⟩ := map_get hy
      obtain ⟨k, q, q1, q2, q3⟩ := h3 i tt hy1
      have htt := hts tt (List.mem_of_getElem? hy1)
      have htG : hid p g H2 tt = some (.tup [.str k, q]) := by rw [hid_ne (ne htt).1 (ne htt).2]; exact q3
      exact ⟨tt, _, rfl, st_of (hB _ _ _ _ w _ _ htG), rfl, _, _, rfl, _, _, rfl, rfl, hs2 H2 (e1.trans e2) i k q σ' H' q1 q2 w⟩
    · rw [List.length_map, hlen] at w
      exact hd H2 (e1.trans e2) σ' H' w⟩⟩
theorem s_extA {l a : Addr} {xs zs : List V} (hl : H l = some (.lst xs)) (ha : Ev ta σ H (.ref l)) (h : Ev te σ H (.ref a)) (hz : SqT K H a zs) (hn : xs.length + zs.length ≤ sizeLine)
    (k : ∀ H1, Ex H H1 → D.nx σ (upd H1 l (.lst (xs ++ zs)))) : tDrop (tBM K "list" (rExtT K) ta (tCons te tNil)) D σ H := ha H (Ex.refl H) _ fun H1 e1 =>
  ⟨Or.inl ⟨rfl, xs, sq_of (e1 l _ hl)⟩, h H1 e1 _ fun H2 e2 => ⟨l, a, xs, zs, rfl, rfl, e2 l _ (e1 l _ hl), ex_t (e1.trans e2) hz, hn, k H2 (e1.trans e2)⟩⟩
end
/-! tests: their nots, their cores -/
theorem strips_one {d : Dt} : ∀ n, strips (n + 1) d = strips n (strip1 d)
  | 0 => rfl
  | n + 1 => by
    show strip1 (strips (n + 1) d) = strip1 (strips n (strip1 d))
    rw [strips_one n]
theorem strips_id {d : Dt} (h : isNot d = false) : ∀ n, strips n d = d
  | 0 => rfl
  | n + 1 => by
    show strip1 (strips n d) = d
    rw [strips_id h n]
    unfold strip1
    rw [if_neg (by rw [h]; decide)]
theorem wfC_inv {d : Dt} (h : wfC d = true) : ∃ z x1 x2, d = .tup [.str z, x1, x2] ∧ (z = "same" ∨ z = "kind") := by
  unfold wfC at h
  split at h
  · rename_i x0 x1 x2
    cases x0 with
    | str z => exact ⟨z, x1, x2, rfl, by simpa [isS] using h⟩
    | _ => simp [isS] at h
  · cases h
theorem wfC_not {d : Dt} (h : wfC d = true) : isNot d = false := by
  obtain ⟨z, x1, x2, rfl, _⟩ := wfC_inv h
  rfl
section
variable {P : Program} {w : World} {K : PySem.W.Frag} {mg : Str → Option Value} {base : Heap} {sa : Addr} {rs : Str → Addr}
structure TxtE (w : World) (K : PySem.W.Frag) (mg : Str → Option Value) extends TxtS w K mg where
  d_nots_and_core : DefX K mg "nots_and_core" s_nots_and_core P_nots_and_core
  d_expressions_of_test : DefX K mg "expressions_of_test" s_expressions_of_test P_expressions_of_test
def sp_nots (K : PySem.W.Frag) : Sp := fun vs H Q _ => ∃ v d, vs = [v] ∧ At K H v d ∧ wfT d = true ∧ ∀ p (m : Int) w H2, H p = none → Ex H H2 → At K H2 w (strips 3 d) → H2 p = some (.tup [.int m, w]) → Q (.ref p) H2
theorem sc_nots : FnScope N_nots_and_core P_nots_and_core (C8.fnScope s_nots_and_core) := fnScope_by (by decide +kernel)
theorem ok_nots (T : TxtE w K mg) : Cal P w K mg base 1 "nots_and_core" (sp_nots K) [] := by
  refine mk_cal T.d_nots_and_core sc_nots (fun vs H Q E h => ?_) (fun f cdv A outer s H vs Q E hr h => ?_)
  · obtain ⟨_, _, rfl, _⟩ := h
    rfl
  · obtain ⟨v, d, rfl, hv, hw, k⟩ := h
    have nd := sc_nots.nd
    refine ⟨_, pss_cons (ps_set (i := 1) nd rfl (Or.inl rfl) pe_int)
      (pss_cons (ps_while PassesOwn.never (pt_cmpR op_eq (pe_ix ix_tup (pv 0) pe_int (fun _ _ => rfl)) pe_str (nomark _))
        (pss_cons (ps_aug (i := 1) nd rfl (Or.inl rfl) pe_int ip_add) (pss_one (ps_set (i := 0) nd rfl (Or.inl rfl) (pe_ix ix_tup (pv 0) pe_int (fun _ _ => rfl))))))
      (pss_one (ps_ret (pe_tup (pa_cons (pv 1) (pa_cons (pv 0) pa_nil)))))), ?_⟩
    refine q_asg (v := .int 0) ev_c fun H1 e1 => ?_
    refine q_while (fun m σ' H' => ∃ v' d' c, σ' = [some v', some (.int c)] ∧ Ex H H' ∧ At K H' v' d' ∧ m ≤ 3 ∧ wfC (strips m d') = true ∧ strips m d' = strips 3 d) 3 ⟨v, d, 0, rfl, e1, hv.ex e1, by decide, hw, rfl⟩ ?_
    rintro m σ' H' ⟨v', d', c, rfl, e2, hv', hm, hw', hs⟩
    cases hn : isNot d' with
    | true =>
      obtain ⟨a0, b0, rfl⟩ := isNot_snd hn
      cases hv' with
      | @tup a vs _ h r hz =>
        obtain ⟨w0, a1, _, a3⟩ := ev_ixA (σ := [some (.ref a), some (.int c)]) (te := tVar 0) (i := 0) (ev_var rfl) h r (d := a0) rfl
        have hx0 : ∃ z, a0 = .str z ∧ z = "not" := by
          have : isS "not" a0 = true := hn
          cases a0 with
          | str z => exact ⟨z, rfl, by simpa [isS] using this⟩
          | _ => cases this
        obtain ⟨z, rfl, rfl⟩ := hx0
        cases a1
        have hm0 : ∃ m', m = m' + 1 := by
          cases m with
          | zero => rw [show strips 0 (.tup [.str "not", b0]) = .tup [.str "not", b0] from rfl] at hw'; cases hw'
          | succ m' => exact ⟨m', rfl⟩
        obtain ⟨m', rfl⟩ := hm0
        have hb : strips (m' + 1) (.tup [.str "not", b0]) = strips m' b0 := by rw [strips_one]; rfl
        rw [hb] at hw' hs
        refine ⟨true, et_test (ev_is (ev_op a3 (ev_c (v := .str "not")) (rv_eq rfl)) (by simp)), fun _ H2 e3 => ⟨fun σ2 H3 => ∃ v' c, σ2 = [some v', some (.int c)] ∧ Ex H H3 ∧ At K H3 v' b0, fun σ2 H3 ⟨v', c, q1, q2, q3⟩ => ⟨m', Nat.lt_succ_self _, v', b0, c, q1, q2, q3, by omega, hw', hs⟩, ?_⟩, fun z => nomatch z⟩
        refine q_aug (f := fun i j => i + j) (a := c) (b := 1) rfl ev_c fun H4 e4 => ?_
        obtain ⟨w1, b1, _, b3⟩ := ev_ixA (σ := [some (.ref a), some (.int (c + 1))]) (te := tVar 0) (i := 1) (ev_var rfl) (ex_t (e3.trans e4) h) (r.ex (e3.trans e4)) (d := b0) rfl
        exact s_asg (v := w1) b3 fun H5 e5 => ⟨w1, c + 1, rfl, ((e2.trans e3).trans e4).trans e5, b1.ex e5⟩
    | false =>
      rw [strips_id hn] at hw' hs
      obtain ⟨z, x1, x2, rfl, hz⟩ := wfC_inv hw'
      cases hv' with
      | @tup a vs _ h r hz2 =>
        obtain ⟨w0, a1, _, a3⟩ := ev_ixA (σ := [some (.ref a), some (.int c)]) (te := tVar 0) (i := 0) (ev_var rfl) h r (d := .str z) rfl
        cases a1
        refine ⟨false, et_test (ev_is (ev_op a3 (ev_c (v := .str "not")) (rv_eq rfl)) (by rcases hz with rfl | rfl <;> rfl)), fun z => (nomatch z), fun _ H2 e3 => ?_⟩
        refine s_retU (eu_tup (ea_cons (ev_var rfl) (ea_cons (ev_var rfl) ea_nil)) (show 2 ≤ 100000 by decide)) fun p H3 hp e4 h4 => k p c (.ref a) H3 (fresh_back (e2.trans e3) hp) ((e2.trans e3).trans e4) ?_ h4
        rw [← hs]
        exact (At.tup h r hz2).ex (e3.trans e4)
/-! the expressions of a test -/
def texprD (d : Dt) : List Dt := match strips 3 d with
  | .tup [x0, x1, x2] => if isS "same" x0 then [x1, x2] else [x1]
  | _ => []
def sp_texpr (K : PySem.W.Frag) : Sp := fun vs H Q _ => ∃ v d, vs = [v] ∧ At K H v d ∧ wfT d = true ∧ ∀ p ws H2, H p = none → Ex H H2 → H2 p = some (.tup ws) → AtL K H2 ws (texprD d) → Q (.ref p) H2
theorem sc_texpr : FnScope N_expressions_of_test P_expressions_of_test (C8.fnScope s_expressions_of_test) := fnScope_by (by decide +kernel)
theorem ok_texpr (T : TxtE w K mg) : Cal P w K mg base 2 "expressions_of_test" (sp_texpr K) [] := by
  refine mk_cal T.d_expressions_of_test sc_texpr (fun vs H Q E h => ?_) (fun f cdv A outer s H vs Q E hr h => ?_)
  · obtain ⟨_, _, rfl, _⟩ := h
    rfl
  · obtain ⟨v, d, rfl, hv, hw, k⟩ := h
    have nd := sc_texpr.nd
    refine ⟨_, pss_cons (ps_asg (pe_c (ok_nots T) hr (by decide) (by rfl) (pa_cons (pv 0) pa_nil)) (pg_tup (by rfl) (pgs_cons (pg_name (i := 1) nd rfl (Or.inl rfl)) (pgs_cons (pg_name (i := 2) nd rfl (Or.inl rfl)) pgs_nil))))
      (pss_one (ps_ret (pe_ifExp (pt_cmpR op_eq (pe_ix ix_tup (pv 2) pe_int (fun _ _ => rfl)) pe_str (nomark _)) (pe_slice sl_tup (pv 2) (po_some pe_int) po_none) (pe_slice sl_tup (pv 2) (po_some pe_int) (po_some pe_int))))), ?_⟩
    refine ⟨_, rfl, v, d, rfl, hv, hw, fun p m w0 H1 hp e1 hat h1 => ⟨p, _, rfl, st_of h1, rfl, _, _, rfl, _, _, rfl, rfl, ?_⟩⟩
    obtain ⟨z, x1, x2, hc, hz⟩ := wfC_inv hw
    have ht : texprD d = if z = "same" then [x1, x2] else [x1] := by
      unfold texprD
      rw [hc]
      show (if isS "same" (.str z) then _ else _) = _
      simp [isS]
    rw [hc] at hat
    cases hat with
    | @tup a vs _ h r hz2 =>
      cases r with
      | @cons v0 r1 _ _ hv0 r2 =>
        cases hv0
        cases r2 with
        | @cons v1 r3 _ _ hv1 r4 =>
          cases r4 with
          | @cons v2 r5 _ _ hv2 r6 =>
            cases r6
            have c1 : EvU (tSl (rSlT K) (tVar 2) (tPart (tC (.int 1))) tNoPart) [some v, some (.int m), some (.ref a)] H1 [v1, v2] := eu_tl (ev_var rfl) h
            have c2 : EvU (tSl (rSlT K) (tVar 2) (tPart (tC (.int 1))) (tPart (tC (.int 2)))) [some v, some (.int m), some (.ref a)] H1 [v1] := eu_sl (xs := [.str z, v1, v2]) (lo := some 1) (hi := some 2) (ev_var rfl) (eo_some ev_c) (eo_some ev_c) h (fun q => by revert q; exact of_decide_eq_false rfl)
            by_cases e : z = "same"
            · rw [if_pos e] at ht
              have tt : EvU (tIf (tTest (tOp rEq (tOp (rIxT K) (tVar 2) (tC (.int 0))) (tC (.str "same")))) (tSl (rSlT K) (tVar 2) (tPart (tC (.int 1))) tNoPart) (tSl (rSlT K) (tVar 2) (tPart (tC (.int 1))) (tPart (tC (.int 2))))) [some v, some (.int m), some (.ref a)] H1 [v1, v2] := fun H2 e2 Q2 q2 =>
                (et_test (ev_is (ev_op (ev_op (ev_var (v := .ref a) rfl) ev_c (rv_ixT h (at_of (j := 0) rfl rfl))) (ev_c (v := .str "same")) (rv_eq rfl)) (show V.bl (decide (V.str z = V.str "same")) = V.bl true by simp [e]))) H2 e2 _ fun H3 e3 => c1 H3 (e2.trans e3) Q2 fun p H4 hp e4 h4 => q2 p H4 (fresh_back e3 hp) (e3.trans e4) h4
              exact s_retU tt fun p H2 hp e2 h2 => k p _ H2 (fresh_back e1 hp) (e1.trans e2) h2 (by rw [ht]; exact .cons (hv1.ex e2) (.cons (hv2.ex e2) .nil))
            · rw [if_neg e] at ht
              have tt : EvU (tIf (tTest (tOp rEq (tOp (rIxT K) (tVar 2) (tC (.int 0))) (tC (.str "same")))) (tSl (rSlT K) (tVar 2) (tPart (tC (.int 1))) tNoPart) (tSl (rSlT K) (tVar 2) (tPart (tC (.int 1))) (tPart (tC (.int 2))))) [some v, some (.int m), some (.ref a)] H1 [v1] := fun H2 e2 Q2 q2 =>
                (et_test (ev_is (ev_op (ev_op (ev_var (v := .ref a) rfl) ev_c (rv_ixT h (at_of (j := 0) rfl rfl))) (ev_c (v := .str "same")) (rv_eq rfl)) (show V.bl (decide (V.str z = V.str "same")) = V.bl false by simp [e]))) H2 e2 _ fun H3 e3 => c2 H3 (e2.trans e3) Q2 fun p H4 hp e4 h4 => q2 p H4 (fresh_back e3 hp) (e3.trans e4) h4
              exact s_retU tt fun p H2 hp e2 h2 => k p _ H2 (fresh_back e1 hp) (e1.trans e2) h2 (by rw [ht]; exact .cons (hv1.ex e2) .nil)
end
end EE
set_option Elab.async false
set_option linter.all false
set_option maxRecDepth 100000
set_option maxHeartbeats 1000000
namespace EE
open PySem L2 Evl
open C8 (Cal cal0 pe_c pe_gc fnScope_by)
def tupD : Dt → List Dt
  | .tup xs => xs
  | _ => []
def exprsP (k : Str) (p : Dt) : List Dt := if k = "expression" then [p] else if k = "expressions" then tupD p else if k = "test" then texprD p else []
def exprsS : Dt → List Dt
  | .tup (x :: ps) => (List.zipWith exprsP ((shapeOf (unD x)).getD []) ps).flatten
  | _ => []
theorem flat_take_succ {α : Type} {l : List (List α)} {i : Nat} {x : List α} (h : l[i]? = some x) : (l.take (i + 1)).flatten = (l.take i).flatten ++ x := by
  rw [List.take_add_one, h, Option.toList_some, List.flatten_append, List.flatten_singleton]
section
variable {K : PySem.W.Frag} {σ : L2.St} {H H' : Hp} {ta tb tc te : TE}
theorem s_appZ {D : Ends} {l : Addr} {xs : List V} {v : V} (hl : H l = some (.lst xs)) (ha : Ev ta σ H (.ref l)) (h : Ev te σ H v) (hz : xs.length < sizeLine) (k : ∀ H1, Ex H H1 → D.nx σ (upd H1 l (.lst (xs ++ [v])))) :
    tDrop (tBM K "list" rAppend ta (tCons te tNil)) D σ H := ha H (Ex.refl H) _ fun H1 e1 =>
  ⟨Or.inl ⟨rfl, xs, sq_of (e1 l _ hl)⟩, h H1 e1 _ fun H2 e2 => ⟨l, xs, v, rfl, rfl, e2 l _ (e1 l _ hl), hz, k H2 (e1.trans e2)⟩⟩
theorem big_line : 1000000 ≤ sizeLine := by decide
theorem sp_texpr_call {σ : L2.St} {H : Hp} {te : TE} {v : V} {d : Dt} {E : XK} {Q : VK} (he : Ev te σ H v) (h : At K H v d) (hw : wfT d = true) (k : ∀ p ws H2, Ex H H2 → H p = none → H2 p = some (.tup ws) → AtL K H2 ws (texprD d) → Q (.ref p) H2) : tCall (sp_texpr K) [] E (tCons te tNil) σ H Q :=
  he H (Ex.refl H) _ fun H1 e1 => ⟨v, d, rfl, h.ex e1, hw, fun p ws H2 hp e2 h2 h3 => k p ws H2 (e1.trans e2) (fresh_back e1 hp) h2 h3⟩
theorem wfP_expr {W : Dt → Bool} {p : Dt} (h : wfP W "expressions" p = true) : p.isTup = true := h
theorem wfP_test {W : Dt → Bool} {p : Dt} (h : wfP W "test" p = true) : wfT p = true := h
theorem texpr_len {d : Dt} : (texprD d).length ≤ 2 := by
  unfold texprD
  split
  · split <;> simp
  · simp
end
section
variable {P : Program} {w : World} {K : PySem.W.Frag} {mg : Str → Option Value} {base : Heap} {sa : Addr} {rs : Str → Addr}
def sp_exprsG (K : PySem.W.Frag) (W : Dt → Bool) : Sp := fun vs H Q _ => ∃ v d, vs = [v] ∧ At K H v d ∧ wfS W d = true ∧ ∀ p ws H2, H p = none → Ex H H2 → H2 p = some (.tup ws) → AtL K H2 ws (exprsS d) → Q (.ref p) H2
theorem sc_exprsG : FnScope N_expressions_of P_expressions_of (C8.fnScope s_expressions_of) := fnScope_by (by decide +kernel)
theorem ok_exprsG (T : TxtE w K mg) (S : Shp w K mg sa rs) {W : Dt → Bool} : Cal P w K mg base 3 "expressions_of" (sp_exprsG K W) [] := by
  refine mk_cal T.d_expressions_of sc_exprsG (fun vs H Q E h => ?_) (fun f cdv A outer s H vs Q E hr h => ?_)
  · obtain ⟨_, _, rfl, _⟩ := h
    rfl
  · obtain ⟨v, d, rfl, hv, hw, k⟩ := h
    have nd := sc_exprsG.nd
    obtain ⟨a, z, ks, pvs, ps, rfl, rfl, h2, hsh, hl1, hl2, rp, hp, ein⟩ := stmt_at hv hw
    refine ⟨_, pss_cons (ps_set (i := 1) nd rfl (Or.inl rfl) (pe_lst pa_nil))
      (pss_cons (ps_for PassesOwn.never rfl (pi_list (pe_c (ok_parts T.toTxtS S) hr (by decide) (by rfl) (pa_cons (pv 0) pa_nil))) (pg_tup (by rfl) (pgs_cons (pg_name (i := 2) nd rfl (Or.inl rfl)) (pgs_cons (pg_name (i := 3) nd rfl (Or.inl rfl)) pgs_nil)))
        (pss_one (ps_if (pt_cmpR op_eq (pv 2) pe_str (nomark _)) (pss_one (ps_expr (pe_bm PySem.F.plainAttrs_list PySem.F.slot_list_append PySem.F.type_list_append mt_append (pv 1) (pa_cons (pv 3) pa_nil))))
          (pss_one (ps_if (pt_cmpR op_eq (pv 2) pe_str (nomark _)) (pss_one (ps_expr (pe_bm PySem.F.plainAttrs_list PySem.F.slot_list_extend PySem.F.type_list_extend mt_extT (pv 1) (pa_cons (pv 3) pa_nil))))
            (pss_one (ps_if (pt_cmpR op_eq (pv 2) pe_str (nomark _)) (pss_one (ps_expr (pe_bm PySem.F.plainAttrs_list PySem.F.slot_list_extend PySem.F.type_list_extend mt_extT (pv 1) (pa_cons (pe_c (ok_texpr T) hr (by decide) (by rfl) (pa_cons (pv 3) pa_nil)) pa_nil)))) pss_nil)))))))
      (pss_one (ps_ret (pe_callTy call_tuple_of (by rfl) T.tupT (by decide +kernel) (pa_cons (pv 1) pa_nil))))), ?_⟩
    refine q_asgL (el_lst ea_nil (show 0 ≤ 100000 by decide)) fun l H1 hl e1 h1 => ?_
    have hl4 := (shape_len hsh).2
    refine q_forPartsG (p := l) (g := l) (ev_var (v := .ref a) rfl) (ex_t e1 h2) hsh hl1 (by rw [h1]; simp) (by rw [h1]; simp)
      (fun G i σ' H' => (∃ v2 v3, σ' = [some (.ref a), some (.ref l), v2, v3]) ∧ Ex G H' ∧ ∃ ws, H' l = some (.lst ws) ∧ AtL K H' ws (((List.zipWith exprsP ks ps).take i).flatten) ∧ ws.length ≤ 40000 * i) (fun G i σ' H' q => q.2.1)
      (fun H2 e2 => ⟨⟨_, _, rfl⟩, hid_ex, [], e2 _ _ h1, .nil, by simp⟩) ?_ ?_
    · rintro H2 e2 i kd q σ' H' hk hq ⟨⟨v2, v3, rfl⟩, eG, ws, g1, g2, g3⟩
      obtain ⟨d, hd, hat0⟩ := rp.get hq
      have eH : Ex H H' := (ex_hid (e1.trans e2) hl hl).trans eG
      have hat := hat0.ex eH
      have hi : i < ks.length := (List.getElem?_eq_some_iff.mp hk).1
      have hz : (List.zipWith exprsP ks ps)[i]? = some (exprsP kd d) := by rw [List.getElem?_zipWith, hk, hd]
      have hwp := hp i kd d hk hd
      have step : ∀ (H3 : Hp) (ws2 : List V), Ex H' H3 → AtL K H3 ws2 (exprsP kd d) → ws2.length ≤ 40000 → (∃ v2 v3, [some (V.ref a), some (.ref l), some (V.str kd), some q] = [some (.ref a), some (.ref l), v2, v3]) ∧ Ex (hid l l H2) (upd H3 l (.lst (ws ++ ws2))) ∧ ∃ ws', upd H3 l (.lst (ws ++ ws2)) l = some (.lst ws') ∧ AtL K (upd H3 l (.lst (ws ++ ws2))) ws' (((List.zipWith exprsP ks ps).take (i + 1)).flatten) ∧ ws'.length ≤ 40000 * (i + 1) := fun H3 ws2 e3 q1 q2 => by
        refine ⟨⟨_, _, rfl⟩, (eG.trans e3).mut (if_pos (.inl rfl)), _, upd_same, ?_, by rw [List.length_append]; omega⟩
        rw [flat_take_succ hz]
        exact AtL.updL (e3 _ _ g1) ((g2.ex e3).app q1)
      by_cases k1 : kd = "expression"
      · refine s_if (b := true) (et_test (ev_is (ev_op (ev_var (v := .str kd) rfl) (ev_c (v := .str "expression")) (rv_eq rfl)) (by simp [k1]))) (fun _ H3 e3 => ?_) (fun z => nomatch z)
        refine s_appZ (e3 _ _ g1) (ev_var rfl) (ev_var (v := q) rfl) (by have := big_line; omega) fun H4 e4 => step H4 [q] (e3.trans e4) ?_ (by simp)
        unfold exprsP
        rw [if_pos k1]
        exact .cons (hat.ex (e3.trans e4)) .nil
      · refine s_if (b := false) (et_test (ev_is (ev_op (ev_var (v := .str kd) rfl) (ev_c (v := .str "expression")) (rv_eq rfl)) (by simp [k1]))) (fun z => nomatch z) fun _ H3 e3 => ?_
        by_cases k2 : kd = "expressions"
        · refine s_if (b := true) (et_test (ev_is (ev_op (ev_var (v := .str kd) rfl) (ev_c (v := .str "expressions")) (rv_eq rfl)) (by simp [k2]))) (fun _ H4 e4 => ?_) (fun z => nomatch z)
          have ht : d.isTup = true := by rw [k2] at hwp; exact hwp
          have e34 := e3.trans e4
          cases hat with
          | @tup b vs2 xs2 hb rb hzb =>
            refine s_extA (e34 _ _ g1) (ev_var rfl) (ev_var (v := .ref b) rfl) (ex_t e34 hb) (by have := big_line; omega) fun H5 e5 => step H5 vs2 (e34.trans e5) ?_ hzb
            unfold exprsP
            rw [if_neg k1, if_pos k2]
            exact rb.ex (e34.trans e5)
          | _ => cases ht
        · refine s_if (b := false) (et_test (ev_is (ev_op (ev_var (v := .str kd) rfl) (ev_c (v := .str "expressions")) (rv_eq rfl)) (by simp [k2]))) (fun z => nomatch z) fun _ H4 e4 => ?_
          have e34 := e3.trans e4
          by_cases k3 : kd = "test"
          · refine s_if (b := true) (et_test (ev_is (ev_op (ev_var (v := .str kd) rfl) (ev_c (v := .str "test")) (rv_eq rfl)) (by simp [k3]))) (fun _ H5 e5 => ?_) (fun z => nomatch z)
            have e35 := e34.trans e5
            refine ⟨_, rfl, Or.inl ⟨rfl, ws, sq_of (e35 _ _ g1)⟩, ?_⟩
            refine sp_texpr_call (ev_var (v := q) rfl) (hat.ex e35) (by rw [k3] at hwp; exact hwp) fun p ws2 H6 e6 hp6 h6 q6 => ?_
            have hl2' : ws2.length ≤ 2 := by rw [q6.len]; exact texpr_len
            refine ⟨l, p, ws, ws2, rfl, rfl, e6 _ _ (e35 _ _ g1), st_of h6, (by have := big_line; omega), step H6 ws2 (e35.trans e6) ?_ (by omega)⟩
            unfold exprsP
            rw [if_neg k1, if_neg k2, if_pos k3]
            exact q6
          · refine s_when (b := false) (et_test (ev_is (ev_op (ev_var (v := .str kd) rfl) (ev_c (v := .str "test")) (rv_eq rfl)) (by simp [k3]))) (fun z => nomatch z) fun _ H5 e5 => ?_
            have e35 := e34.trans e5
            refine ⟨⟨_, _, rfl⟩, eG.trans e35, ws, e35 _ _ g1, ?_, by omega⟩
            rw [flat_take_succ hz]
            have : exprsP kd d = [] := by unfold exprsP; rw [if_neg k1, if_neg k2, if_neg k3]
            rw [this, List.append_nil]
            exact g2.ex e35
    · rintro H2 e2 σ' H' ⟨⟨v2, v3, rfl⟩, eG, ws, g1, g2, g3⟩
      have eH : Ex H H' := (ex_hid (e1.trans e2) hl hl).trans eG
      refine s_retU (rcu_tupleOf (ev_var rfl) (sq_of g1)) fun p H3 hp3 e3 h3 => k p ws H3 (fresh_back eH hp3) (eH.trans e3) h3 ?_
      have : exprsS (.tup (.str z :: ps)) = ((List.zipWith exprsP ks ps).take ks.length).flatten := by
        show (List.zipWith exprsP ((shapeOf z).getD []) ps).flatten = _
        rw [hsh, List.take_of_length_le (by rw [List.length_zipWith]; omega)]
        rfl
      rw [this]
      exact g2.ex e3
/-! strings_in -/
def strsD : Nat → Dt → List Str
  | _, .str z => [z]
  | n + 1, .tup xs => (xs.map (strsD n)).flatten
  | _, _ => []
def dpD : Nat → Dt → Bool
  | 0, .tup _ => false
  | n + 1, .tup xs => (xs.map (dpD n)).all id
  | _, _ => true
def sp_strs (K : PySem.W.Frag) (n : Nat) : Sp := PuL fun vs H xs => ∃ v d, vs = [v] ∧ At K H v d ∧ dpD n d = true ∧ (strsD n d).length ≤ 40000 ∧ xs = (strsD n d).map V.str
theorem l_strs {H : Hp} {n : Nat} {v : V} {d : Dt} (h : At K H v d) (hd : dpD n d = true) (hz : (strsD n d).length ≤ 40000) : SpL (sp_strs K n) [v] H ((strsD n d).map V.str) := spl fun H1 e => ⟨v, d, rfl, h.ex e, hd, hz, rfl⟩
theorem flat_len_take {α : Type} (zss : List (List α)) (i : Nat) : ((zss.take i).flatten).length ≤ zss.flatten.length := by
  have h : zss.flatten = (zss.take i).flatten ++ (zss.drop i).flatten := by rw [← List.flatten_append, List.take_append_drop]
  rw [h, List.length_append]
  omega
theorem et_isStr {σ : L2.St} {H : Hp} {te : TE} {v : V} {d : Dt} (h : At K H v d) (he : Ev te σ H v) : EvT (tB (tCB (rIsi K) (tCons te (tCons (tC (.ty "str")) tNil)))) σ H d.isStr := by
  obtain ⟨t, h1, h2⟩ := at_isStr h
  exact et_B (ev_cb (ea_cons he (ea_cons ev_c ea_nil)) (rc_isi (.ty "str") h1 h2))
theorem sc_strsG : FnScope N_strings_in P_strings_in (C8.fnScope s_strings_in) := fnScope_by (by decide +kernel)
theorem ok_strs (T : Txt w K mg) : ∀ n : Nat, Cal P w K mg base (n + 1) "strings_in" (sp_strs K n) []
  | 0 => by
    refine mk_cal T.d_strings_in sc_strsG (fun vs H Q E h => ?_) (fun f cdv A outer s H vs Q E hr h => ?_)
    · obtain ⟨z, ⟨_, _, rfl, _⟩, _⟩ := h
      rfl
    · obtain ⟨zs, ⟨v, d, rfl, hv, hd, hz, rfl⟩, k⟩ := h
      have nd := sc_strsG.nd
      refine ⟨_, pss_cons (ps_if (pt_val (pe_callB call_isi (by rfl) T.isi (by decide +kernel) (pa_cons (pv 0) (pa_cons (pe_bltn (v := .ty "str") (by rfl) T.strT (u := .type "str") (by decide +kernel) (by rfl)) pa_nil)))) (pss_one (ps_ret (pe_lst (pa_cons (pv 0) pa_nil)))) pss_nil)
        (pss_cons (ps_set (i := 1) nd rfl (Or.inl rfl) (pe_lst pa_nil))
        (pss_cons (ps_if (pt_val (pe_callB call_isi (by rfl) T.isi (by decide +kernel) (pa_cons (pv 0) (pa_cons (pe_bltn (v := .ty "tuple") (by rfl) T.tupT (u := .type "tuple") (by decide +kernel) (by rfl)) pa_nil)))) (pss_one ps_never) pss_nil)
        (pss_one (ps_ret (pv 1))))), ?_⟩
      refine q_when (b := d.isStr) (et_isStr hv (ev_var rfl)) (fun hb H1 e1 => ?_) (fun hb H1 e1 => ?_)
      · cases hv with
        | str z hz2 => exact s_retL (el_lst (ea_cons (ev_var rfl) ea_nil) (show 1 ≤ 100000 by decide)) fun p H2 hp e2 h2 => k p H2 (fresh_back e1 hp) (e1.trans e2) h2
        | _ => cases hb
      · refine q_asgL (el_lst ea_nil (show 0 ≤ 100000 by decide)) fun l H2 hl e2 h2 => ?_
        have ht : d.isTup = false := by cases d <;> first | rfl | cases hd
        have hs0 : strsD 0 d = [] := by cases d <;> first | rfl | cases hb
        refine q_no (et_is (et_isTup (hv.ex (e1.trans e2)) (ev_var rfl)) ht) fun H3 e3 => ?_
        exact s_ret (v := .ref l) (ev_var rfl) fun H4 e4 => k l H4 (fresh_back e1 hl) (((e1.trans e2).trans e3).trans e4) (by rw [hs0]; exact e4 _ _ (e3 _ _ h2))
  | n + 1 => by
    refine mk_cal T.d_strings_in sc_strsG (fun vs H Q E h => ?_) (fun f cdv A outer s H vs Q E hr h => ?_)
    · obtain ⟨z, ⟨_, _, rfl, _⟩, _⟩ := h
      rfl
    · obtain ⟨zs, ⟨v, d, rfl, hv, hd, hz, rfl⟩, k⟩ := h
      have nd := sc_strsG.nd
      refine ⟨_, pss_cons (ps_if (pt_val (pe_callB call_isi (by rfl) T.isi (by decide +kernel) (pa_cons (pv 0) (pa_cons (pe_bltn (v := .ty "str") (by rfl) T.strT (u := .type "str") (by decide +kernel) (by rfl)) pa_nil)))) (pss_one (ps_ret (pe_lst (pa_cons (pv 0) pa_nil)))) pss_nil)
        (pss_cons (ps_set (i := 1) nd rfl (Or.inl rfl) (pe_lst pa_nil))
        (Evl.pss_cut (ps_if (pt_val (pe_callB call_isi (by rfl) T.isi (by decide +kernel) (pa_cons (pv 0) (pa_cons (pe_bltn (v := .ty "tuple") (by rfl) T.tupT (u := .type "tuple") (by decide +kernel) (by rfl)) pa_nil))))
          (pss_one (ps_for PassesOwn.never rfl (pi_tup (pv 0)) (pg_name (i := 2) nd rfl (Or.inl rfl))
            (pss_one (ps_expr (pe_bm PySem.F.plainAttrs_list PySem.F.slot_list_extend PySem.F.type_list_extend mt_extend (pv 1) (pa_cons (pe_c (ok_strs T n) hr (Nat.le_refl _) (by rfl) (pa_cons (pv 2) pa_nil)) pa_nil)))))) pss_nil)
        (pss_one (ps_ret (pv 1))))), ?_⟩
      refine q_when (b := d.isStr) (et_isStr hv (ev_var rfl)) (fun hb H1 e1 => ?_) (fun hb H1 e1 => ?_)
      · cases hv with
        | str z hz2 => exact s_retL (el_lst (ea_cons (ev_var rfl) ea_nil) (show 1 ≤ 100000 by decide)) fun p H2 hp e2 h2 => k p H2 (fresh_back e1 hp) (e1.trans e2) h2
        | _ => cases hb
      · refine q_asgL (el_lst ea_nil (show 0 ≤ 100000 by decide)) fun l H2 hl e2 h2 => ?_
        have hl0 : H l = none := fresh_back e1 hl
        refine q_cut (M := fun σ' H' => ∃ w2, σ' = [some v, some (.ref l), w2] ∧ Ex H H' ∧ H' l = some (.lst ((strsD (n + 1) d).map V.str))) ?_ ?_
        · refine s_when (b := d.isTup) (et_isTup (hv.ex (e1.trans e2)) (ev_var rfl)) (fun ht H3 e3 => ?_) (fun ht H3 e3 => ⟨_, rfl, (e1.trans e2).trans e3, ?_⟩)
          · cases hv with
            | @tup a vs xs h r hz2 =>
              have hdx := all_map.mp (show (xs.map (dpD n)).all id = true from hd)
              refine s_forT (ev_var (v := .ref a) rfl) (ex_t ((e1.trans e2).trans e3) h) (fun i σ' H' => ∃ w2, σ' = [some (.ref a), some (.ref l), w2] ∧ Ex H H' ∧ H' l = some (.lst ((((xs.map (strsD n)).take i).flatten).map V.str))) (fun H4 e4 => ⟨_, rfl, ((e1.trans e2).trans e3).trans e4, e4 _ _ (e3 _ _ h2)⟩) (fun i σ' H' _ ⟨_, _, q, _⟩ => ex_t q h) ?_ ?_
              · rintro i y σ' H' hy ⟨w2, rfl, p1, p2⟩
                obtain ⟨d', hd', hat⟩ := r.get hy
                have hx : (xs.map (strsD n))[i]? = some (strsD n d') := by rw [List.getElem?_map, hd']; rfl
                have hlen := flat_len_take (xs.map (strsD n)) (i + 1)
                rw [flat_take_succ hx, List.length_append] at hlen
                have hz' : ((xs.map (strsD n)).flatten).length ≤ 40000 := hz
                refine s_extN p2 (ev_var rfl) (el_call (ea_cons (ev_var rfl) ea_nil) (l_strs (hat.ex p1) (hdx d' (List.mem_of_getElem? hd')) (by omega))) (by rw [List.length_map, List.length_map]; omega) fun H5 e5 => ⟨_, rfl, Ex.mut (p1.trans e5) hl0, ?_⟩
                rw [upd_same, flat_take_succ hx, List.map_append]
              · rintro σ' H' ⟨w2, rfl, p1, p2⟩
                refine ⟨w2, rfl, p1, ?_⟩
                rw [r.len, ← List.length_map (f := strsD n), List.take_length] at p2
                exact p2
            | _ => cases ht
          · have hs0 : strsD (n + 1) d = [] := by cases d <;> first | rfl | (cases hb; done) | (cases ht; done)
            rw [hs0]
            exact e3 _ _ h2
        · rintro σ' H' ⟨w2, rfl, p1, p2⟩
          exact s_ret (v := .ref l) (ev_var rfl) fun H5 e5 => k l H5 hl0 (p1.trans e5) (e5 _ _ p2)
end
end EE
set_option Elab.async false
set_option linter.all false
set_option maxRecDepth 100000
set_option maxHeartbeats 1000000
namespace EE
open PySem L2 Evl
open C8 (Cal cal0 pe_c pe_gc fnScope_by)
/-! ### the mirror: blocks without lasts -/
def stepP (PB : Dt → List Str → List Dt × List Str) (s : List Dt × List Str) (kp : Str × Dt) : List Dt × List Str :=
  if kp.1 ∈ blks then (s.1 ++ [.tup (PB kp.2 s.2).1], (PB kp.2 s.2).2) else (s.1 ++ [kp.2], s.2)
def plP (PB : Dt → List Str → List Dt × List Str) (kps : List (Str × Dt)) (s : List Dt × List Str) : List Dt × List Str := kps.foldl (stepP PB) s
def raiseD (name : Str) : Dt := .tup [.str "raise", .str name]
def plS (PB : Dt → List Str → List Dt × List Str) (d : Dt) (fr : List Str) : List Dt × List Str :=
  if isS "last" (headD d) then
    let name := fr.headD Str.empty
    let a := PB ((tupD d).getD 1 .non) fr.tail
    let b := PB ((tupD d).getD 2 .non) a.2
    (.tup [.str "try", .tup a.1, .str name, .tup (b.1 ++ [raiseD name])] :: b.1, b.2)
  else
    let r := plP PB (((shapeOf (unD (headD d))).getD []).zip (tupD d).tail) ([headD d], fr)
    ([.tup r.1], r.2)
def stepB (PB : Dt → List Str → List Dt × List Str) (s : List Dt × List Str) (d : Dt) : List Dt × List Str := (s.1 ++ (plS PB d s.2).1, (plS PB d s.2).2)
def plB : Nat → Dt → List Str → List Dt × List Str
  | n + 1, .tup xs, fr => xs.foldl (stepB (plB n)) ([], fr)
  | _, _, fr => ([], fr)
/-- lasts of a statement -/
def lastS (n : Nat) (s : Dt) : Nat := (if isS "last" (headD s) then 1 else 0) + ((innerD s).map (lastsD n)).sum
theorem lastsD_succ {n : Nat} {xs : List Dt} : lastsD (n + 1) (.tup xs) = (xs.map (lastS n)).sum := rfl
theorem foldl_take {α β : Type} {f : β → α → β} {l : List α} {s : β} {i : Nat} {x : α} (h : l[i]? = some x) : (l.take (i + 1)).foldl f s = f ((l.take i).foldl f s) x := by
  rw [List.take_add_one, h, Option.toList_some, List.foldl_append]
  rfl
/-- the names that are left -/
theorem plP_fr {PB : Dt → List Str → List Dt × List Str} {L : Dt → Nat} : ∀ {kps : List (Str × Dt)} {s : List Dt × List Str}, (∀ kp ∈ kps, kp.1 ∈ blks → ∀ fr, (PB kp.2 fr).2 = fr.drop (L kp.2)) →
    (plP PB kps s).2 = s.2.drop (((kps.filter fun p => decide (p.1 ∈ blks)).map fun p => L p.2).sum)
  | [], s, _ => by simp [plP]
  | kp :: kps, s, h => by
    have ih := plP_fr (kps := kps) (s := stepP PB s kp) (fun q hq => h q (List.mem_cons_of_mem _ hq))
    show (plP PB kps (stepP PB s kp)).2 = _
    rw [ih]
    unfold stepP
    by_cases e : kp.1 ∈ blks
    · rw [if_pos e, h kp List.mem_cons_self e, List.drop_drop, List.filter_cons, if_pos (by simpa using e), List.map_cons, List.sum_cons]
    · rw [if_neg e, List.filter_cons, if_neg (by simpa using e)]
theorem innerOf_sum {ks : List Str} {ps : List Dt} {L : Dt → Nat} : (((ks.zip ps).filter fun p => decide (p.1 ∈ blks)).map fun p => L p.2).sum = ((innerOf ks ps).map L).sum := by
  unfold innerOf
  rw [List.map_map]
  rfl
theorem last_shape {ks : List Str} (h : shapeOf "last" = some ks) : ks = ([Str.ofString "bare", Str.ofString "block"] : List Str) := by
  have e : shapeOf "last" = some ([Str.ofString "bare", Str.ofString "block"] : List Str) := by decide +kernel
  rw [e] at h
  exact (Option.some.inj h).symm
theorem plS_fr {W : Dt → Bool} {PB : Dt → List Str → List Dt × List Str} {n : Nat} (hPB : ∀ d, W d = true → ∀ fr, (PB d fr).2 = fr.drop (lastsD n d)) {d : Dt} (hw : wfS W d = true) (fr : List Str) : (plS PB d fr).2 = fr.drop (lastS n d) := by
  obtain ⟨z, ks, ps, rfl, hsh, hl, hp⟩ := wfS_inv hw
  have hiw := inner_wf hw
  have ein : innerD (.tup (.str z :: ps)) = innerOf ks ps := by show innerOf ((shapeOf z).getD []) ps = _; rw [hsh]; rfl
  unfold plS lastS
  by_cases e : z = "last"
  · subst e
    have hks := last_shape hsh
    subst hks
    match ps, hl with
    | [a, b], _ =>
      have e1 : isS "last" (headD (.tup [.str "last", a, b])) = true := by simp [headD, isS]
      rw [if_pos e1, if_pos e1]
      have ei : innerD (.tup [.str "last", a, b]) = [a, b] := by rw [ein]; rfl
      have ha := hPB a (hiw a (by rw [ei]; simp))
      have hb := hPB b (hiw b (by rw [ei]; simp))
      show (PB b (PB a fr.tail).2).2 = _
      rw [hb, ha, ei, List.drop_drop, ← List.drop_one, List.drop_drop]
      simp [Nat.add_comm, Nat.add_left_comm]
  · have e1 : ¬ isS "last" (headD (.tup (.str z :: ps))) = true := by simp [headD, isS, e]
    rw [if_neg e1, if_neg e1, Nat.zero_add]
    show (plP PB (((shapeOf z).getD []).zip ps) ([.str z], fr)).2 = _
    rw [hsh]
    show (plP PB (ks.zip ps) ([.str z], fr)).2 = _
    rw [plP_fr (L := lastsD n) fun kp hkp hb fr => hPB _ (hiw _ (by
      rw [ein]
      exact List.mem_map.mpr ⟨kp, List.mem_filter.mpr ⟨hkp, by simpa using hb⟩, rfl⟩)) fr, innerOf_sum, ein]
theorem plB_fr : ∀ {n : Nat} {d : Dt}, wfB n d = true → ∀ fr, (plB n d fr).2 = fr.drop (lastsD n d)
  | 0, _, h, _ => by cases h
  | n + 1, d, h, fr => by
    obtain ⟨xs, rfl, hx⟩ := wfB_succ h
    have gen : ∀ (l : List Dt) (s : List Dt × List Str), (∀ x ∈ l, wfS (wfB n) x = true) → (l.foldl (stepB (plB n)) s).2 = s.2.drop ((l.map (lastS n)).sum) := by
      intro l
      induction l with
      | nil => intro s _; simp
      | cons x l ih =>
        intro s hl
        show (l.foldl (stepB (plB n)) (stepB (plB n) s x)).2 = _
        rw [ih _ fun y hy => hl y (List.mem_cons_of_mem _ hy)]
        show ((plS (plB n) x s.2).2).drop _ = _
        rw [plS_fr (W := wfB n) (fun d hd fr => plB_fr hd fr) (hl x List.mem_cons_self), List.drop_drop, List.map_cons, List.sum_cons]
    exact gen xs ([], fr) hx
/-- how long plain blocks may become -/
def plN : Nat → Dt → Nat
  | n + 1, .tup xs => (xs.map fun s => 1 + ((innerD s).map fun b => 2 * plN n b + 1).sum).sum
  | _, _ => 0
def plNs (n : Nat) (s : Dt) : Nat := 1 + ((innerD s).map fun b => 2 * plN n b + 1).sum
theorem plN_succ {n : Nat} {xs : List Dt} : plN (n + 1) (.tup xs) = (xs.map (plNs n)).sum := rfl
theorem plS_len {W : Dt → Bool} {PB : Dt → List Str → List Dt × List Str} {n : Nat} (hPB : ∀ d, W d = true → ∀ fr, (PB d fr).1.length ≤ plN n d) {d : Dt} (hw : wfS W d = true) (fr : List Str) : (plS PB d fr).1.length ≤ plNs n d := by
  obtain ⟨z, ks, ps, rfl, hsh, hl, hp⟩ := wfS_inv hw
  have hiw := inner_wf hw
  have ein : innerD (.tup (.str z :: ps)) = innerOf ks ps := by show innerOf ((shapeOf z).getD []) ps = _; rw [hsh]; rfl
  unfold plS plNs
  by_cases e : z = "last"
  · subst e
    have hks := last_shape hsh
    subst hks
    match ps, hl with
    | [a, b], _ =>
      have e1 : isS "last" (headD (.tup [.str "last", a, b])) = true := by simp [headD, isS]
      rw [if_pos e1]
      have ei : innerD (.tup [.str "last", a, b]) = [a, b] := by rw [ein]; rfl
      have hb := hPB b (hiw b (by rw [ei]; simp)) (PB a fr.tail).2
      rw [ei]
      show (_ :: (PB b (PB a fr.tail).2).1).length ≤ _
      rw [List.length_cons]
      simp
      omega
  · have e1 : ¬ isS "last" (headD (.tup (.str z :: ps))) = true := by simp [headD, isS, e]
    rw [if_neg e1]
    simp
theorem plB_len : ∀ {n : Nat} {d : Dt}, wfB n d = true → ∀ fr, (plB n d fr).1.length ≤ plN n d
  | 0, _, h, _ => by cases h
  | n + 1, d, h, fr => by
    obtain ⟨xs, rfl, hx⟩ := wfB_succ h
    have gen : ∀ (l : List Dt) (s : List Dt × List Str), (∀ x ∈ l, wfS (wfB n) x = true) → (l.foldl (stepB (plB n)) s).1.length ≤ s.1.length + (l.map (plNs n)).sum := by
      intro l
      induction l with
      | nil => intro s _; simp
      | cons x l ih =>
        intro s hl
        show (l.foldl (stepB (plB n)) (stepB (plB n) s x)).1.length ≤ _
        have h1 := ih (stepB (plB n) s x) fun y hy => hl y (List.mem_cons_of_mem _ hy)
        have h2 := plS_len (W := wfB n) (PB := plB n) (n := n) (fun d hd fr => plB_len hd fr) (hl x List.mem_cons_self) s.2
        have h3 : (stepB (plB n) s x).1.length = s.1.length + (plS (plB n) x s.2).1.length := by show (s.1 ++ _).length = _; rw [List.length_append]
        rw [List.map_cons, List.sum_cons]
        omega
    have := gen xs ([], fr) hx
    rw [plN_succ]
    show (xs.foldl (stepB (plB n)) ([], fr)).1.length ≤ _
    simpa using this
/-! they keep their form -/
theorem wfS_mono {W W' : Dt → Bool} (h : ∀ d, W d = true → W' d = true) {d : Dt} (hw : wfS W d = true) : wfS W' d = true := by
  cases d with
  | tup xs =>
    cases xs with
    | nil => cases hw
    | cons x ps =>
      have h' : (x.isStr && (match shapeOf (unD x) with | none => false | some ks => decide (ps.length = ks.length) && (List.zipWith (wfP W) ks ps).all id)) = true := hw
      rw [Bool.and_eq_true] at h'
      show (x.isStr && (match shapeOf (unD x) with | none => false | some ks => decide (ps.length = ks.length) && (List.zipWith (wfP W') ks ps).all id)) = true
      rw [h'.1, Bool.true_and]
      have h2 := h'.2
      cases hs : shapeOf (unD x) with
      | none => rw [hs] at h2; cases h2
      | some ks =>
        rw [hs] at h2
        simp only [Bool.and_eq_true] at h2 ⊢
        refine ⟨h2.1, zip_all (fun k d hk => ?_) h2.2⟩
        unfold wfP at hk ⊢
        by_cases e : k ∈ blks
        · rw [if_pos e] at hk ⊢
          exact h _ hk
        · rw [if_neg e] at hk ⊢
          exact hk
  | _ => cases hw
theorem wfB_mono : ∀ {n : Nat} {d : Dt}, wfB n d = true → wfB (n + 1) d = true
  | 0, _, h => by cases h
  | n + 1, d, h => by
    obtain ⟨xs, rfl, hx⟩ := wfB_succ h
    show (xs.map (wfS (wfB (n + 1)))).all id = true
    rw [all_map]
    exact fun x hx' => wfS_mono (fun d hd => wfB_mono hd) (hx x hx')
theorem shape_try : shapeOf "try" = some ([Str.ofString "block", Str.ofString "local", Str.ofString "block"] : List Str) := by decide +kernel
theorem shape_raise : shapeOf "raise" = some ([Str.ofString "expression"] : List Str) := by decide +kernel
theorem wfS_try {W : Dt → Bool} {A B : Dt} {nm : Str} (ha : W A = true) (hb : W B = true) : wfS W (.tup [.str "try", A, .str nm, B]) = true := by
  show (true && (match shapeOf "try" with | none => false | some ks => decide (([A, .str nm, B] : List Dt).length = ks.length) && (List.zipWith (wfP W) ks [A, .str nm, B]).all id)) = true
  rw [shape_try]
  show (true && (true && (wfP W "block" A && (wfP W "local" (.str nm) && (wfP W "block" B && true))))) = true
  have h1 : wfP W "block" A = true := ha
  have h2 : wfP W "block" B = true := hb
  rw [h1, h2]
  rfl
theorem wfS_raise {W : Dt → Bool} {nm : Str} : wfS W (raiseD nm) = true := by
  show (true && (match shapeOf "raise" with | none => false | some ks => decide (([.str nm] : List Dt).length = ks.length) && (List.zipWith (wfP W) ks [.str nm]).all id)) = true
  rw [shape_raise]
  rfl
theorem plP_len {PB : Dt → List Str → List Dt × List Str} : ∀ {kps : List (Str × Dt)} {s : List Dt × List Str}, (plP PB kps s).1.length = s.1.length + kps.length
  | [], s => rfl
  | kp :: kps, s => by
    show (plP PB kps (stepP PB s kp)).1.length = _
    rw [plP_len]
    unfold stepP
    split <;> simp <;> omega
theorem plP_wf {W W' : Dt → Bool} {PB : Dt → List Str → List Dt × List Str} (h : ∀ d, W d = true → ∀ fr, W' (.tup (PB d fr).1) = true) : ∀ {ks : List Str} {ps : List Dt} {s : List Dt × List Str} {x : Dt} {qs : List Dt} {ks0 : List Str}, ps.length = ks.length → (∀ (i : Nat) k p, ks[i]? = some k → ps[i]? = some p → wfP W k p = true) → s.1 = x :: qs →
    qs.length = ks0.length → (List.zipWith (wfP W') ks0 qs).all id = true → ∃ qs', (plP PB (ks.zip ps) s).1 = x :: qs' ∧ qs'.length = (ks0 ++ ks).length ∧ (List.zipWith (wfP W') (ks0 ++ ks) qs').all id = true
  | [], [], s, x, qs, ks0, _, _, h1, h2, h3 => ⟨qs, h1, by rw [List.append_nil]; exact h2, by rw [List.append_nil]; exact h3⟩
  | [], _ :: _, _, _, _, _, hl, _, _, _, _ => by simp at hl
  | _ :: _, [], _, _, _, _, hl, _, _, _, _ => by simp at hl
  | k :: ks, p :: ps, s, x, qs, ks0, hl, hp, h1, h2, h3 => by
    have hkp := hp 0 k p rfl rfl
    have hs : ∃ q, (stepP PB s (k, p)).1 = x :: (qs ++ [q]) ∧ wfP W' k q = true := by
      unfold stepP
      by_cases e : k ∈ blks
      · rw [if_pos e]
        unfold wfP at hkp
        rw [if_pos e] at hkp
        exact ⟨.tup (PB p s.2).1, by show s.1 ++ _ = _; rw [h1]; rfl, by unfold wfP; rw [if_pos e]; exact h p hkp _⟩
      · rw [if_neg e]
        unfold wfP at hkp
        rw [if_neg e] at hkp
        exact ⟨p, by show s.1 ++ _ = _; rw [h1]; rfl, by unfold wfP; rw [if_neg e]; exact hkp⟩
    obtain ⟨q, q1, q2⟩ := hs
    have z : (List.zipWith (wfP W') (ks0 ++ [k]) (qs ++ [q])).all id = true := by
      rw [List.zipWith_append h2.symm, List.all_append, h3]
      show (true && (wfP W' k q && true)) = true
      rw [q2]
      rfl
    have ih := plP_wf h (ks := ks) (ps := ps) (s := stepP PB s (k, p)) (x := x) (qs := qs ++ [q]) (ks0 := ks0 ++ [k]) (by simpa using hl) (fun i k' p' a b => hp (i + 1) k' p' (by simpa using a) (by simpa using b)) q1 (by simp [h2]) z
    obtain ⟨qs', g1, g2, g3⟩ := ih
    rw [List.append_assoc] at g2 g3
    exact ⟨qs', g1, g2, g3⟩
theorem plS_wf {n : Nat} {PB : Dt → List Str → List Dt × List Str} (h : ∀ d, wfB n d = true → ∀ fr, ∀ x ∈ (PB d fr).1, ∃ m, n = m + 1 ∧ wfS (wfB m) x = true) {d : Dt} (hw : wfS (wfB n) d = true) (fr : List Str) : ∀ x ∈ (plS PB d fr).1, wfS (wfB n) x = true := by
  obtain ⟨z, ks, ps, rfl, hsh, hl, hp⟩ := wfS_inv hw
  have hiw := inner_wf hw
  have ein : innerD (.tup (.str z :: ps)) = innerOf ks ps := by show innerOf ((shapeOf z).getD []) ps = _; rw [hsh]; rfl
  have hblk : ∀ d, wfB n d = true → ∀ fr, wfB n (.tup (PB d fr).1) = true := fun d hd fr => by
    cases n with
    | zero => cases hd
    | succ m =>
      show ((PB d fr).1.map (wfS (wfB m))).all id = true
      rw [all_map]
      intro x hx
      obtain ⟨m', e, q⟩ := h d hd fr x hx
      cases e
      exact q
  unfold plS
  by_cases e : z = "last"
  · subst e
    have hks := last_shape hsh
    subst hks
    match ps, hl with
    | [a, b], _ =>
      have e1 : isS "last" (headD (.tup [.str "last", a, b])) = true := by simp [headD, isS]
      rw [if_pos e1]
      have ei : innerD (.tup [.str "last", a, b]) = [a, b] := by rw [ein]; rfl
      have wa := hiw a (by rw [ei]; simp)
      have wb := hiw b (by rw [ei]; simp)
      intro x hx
      rcases List.mem_cons.mp hx with rfl | hx
      · refine wfS_try (hblk a wa _) ?_
        cases n with
        | zero => cases wa
        | succ m =>
          show ((_ ++ [_]).map (wfS (wfB m))).all id = true
          rw [all_map]
          intro y hy
          rcases List.mem_append.mp hy with hy | hy
          · obtain ⟨m', e, q⟩ := h b wb _ y hy
            cases e
            exact q
          · obtain rfl := List.mem_singleton.mp hy
            exact wfS_raise
      · obtain ⟨m', rfl, q⟩ := h b wb _ x hx
        exact wfS_mono (fun d hd => wfB_mono hd) q
  · have e1 : ¬ isS "last" (headD (.tup (.str z :: ps))) = true := by simp [headD, isS, e]
    rw [if_neg e1]
    intro x hx
    obtain rfl := List.mem_singleton.mp hx
    obtain ⟨qs, g1, g2, g3⟩ := plP_wf (W := wfB n) (W' := wfB n) (PB := PB) hblk (ks := ks) (ps := ps) (s := ([.str z], fr)) (x := .str z) (qs := []) (ks0 := []) hl hp rfl rfl rfl
    have ez : (((shapeOf (unD (headD (.tup (.str z :: ps))))).getD []).zip (tupD (.tup (.str z :: ps))).tail) = ks.zip ps := by
      show ((shapeOf z).getD []).zip ps = _
      rw [hsh]
      rfl
    show wfS (wfB n) (.tup (plP PB _ ([.str z], fr)).1) = true
    rw [ez, g1]
    show (true && (match shapeOf z with | none => false | some ks => decide (qs.length = ks.length) && (List.zipWith (wfP (wfB n)) ks qs).all id)) = true
    rw [hsh]
    simp only [List.nil_append] at g2 g3
    simp [g2, g3]
theorem plB_wfS : ∀ {n : Nat} {d : Dt}, wfB n d = true → ∀ fr, ∀ x ∈ (plB n d fr).1, ∃ m, n = m + 1 ∧ wfS (wfB m) x = true
  | 0, _, h, _ => by cases h
  | n + 1, d, h, fr => by
    obtain ⟨xs, rfl, hx⟩ := wfB_succ h
    have gen : ∀ (l : List Dt) (s : List Dt × List Str), (∀ x ∈ l, wfS (wfB n) x = true) → (∀ x ∈ s.1, wfS (wfB n) x = true) → ∀ x ∈ (l.foldl (stepB (plB n)) s).1, wfS (wfB n) x = true := by
      intro l
      induction l with
      | nil => intro s _ h; exact h
      | cons x l ih =>
        intro s hl hs
        refine ih (stepB (plB n) s x) (fun y hy => hl y (List.mem_cons_of_mem _ hy)) fun y hy => ?_
        rcases List.mem_append.mp hy with hy | hy
        · exact hs y hy
        · exact plS_wf (fun d hd fr => plB_wfS hd fr) (hl x List.mem_cons_self) _ y hy
    exact fun x hx' => ⟨n, rfl, gen xs ([], fr) hx (fun _ h => by cases h) x hx'⟩
theorem plB_wf {n : Nat} {d : Dt} (h : wfB n d = true) (fr : List Str) : wfB n (.tup (plB n d fr).1) = true := by
  cases n with
  | zero => cases h
  | succ m =>
    show ((plB (m + 1) d fr).1.map (wfS (wfB m))).all id = true
    rw [all_map]
    intro x hx
    obtain ⟨m', e, q⟩ := plB_wfS h fr x hx
    cases e
    exact q
section
variable {K : PySem.W.Frag} {σ : L2.St} {H H' : Hp} {ta tb tc te : TE}
theorem sqT_keep {f a : Addr} {xs vs : List V} (hf : H f = some (.lst xs)) (e : Ex (hid f f H) H') (h : SqT K H a vs) : SqT K H' a vs := by
  rcases h with (h | ⟨o, h⟩) | h
  · exact .inl (.inl (e _ _ (by rw [hid_ne (fun z => by subst z; rw [hf] at h; cases h) (fun z => by subst z; rw [hf] at h; cases h)]; exact h)))
  · exact .inl (.inr ⟨o, e _ _ (by rw [hid_ne (fun z => by subst z; rw [hf] at h; cases h) (fun z => by subst z; rw [hf] at h; cases h)]; exact h)⟩)
  · exact .inr h
mutual
theorem At.keep {f : Addr} {xs ys : List V} (hf : H f = some (.lst xs)) (e : Ex (hid f f H) H') (hf' : H' f = some (.lst ys)) : ∀ {v : V} {d : Dt}, At K H v d → At K H' v d
  | _, _, .non => .non
  | _, _, .bl b => .bl b
  | _, _, .int i => .int i
  | _, _, .str z h => .str z h
  | _, _, .tup h r hz => .tup (sqT_keep hf e h) (AtL.keep hf e hf' r) hz
  | _, _, .lst (a := a) h => by
    by_cases e0 : a = f
    · subst e0; exact .lst (sq_of hf')
    · rcases h with (h | ⟨o, h⟩) | h
      · exact .lst (.inl (.inl (e _ _ (by rw [hid_ne e0 e0]; exact h))))
      · exact .lst (.inl (.inr ⟨o, e _ _ (by rw [hid_ne e0 e0]; exact h)⟩))
      · exact .lst (.inr h)
  | _, _, .dic (a := a) h => by
    have e0 : a ≠ f := fun z => by subst z; rcases h with h | ⟨o, h⟩ <;> (rw [hf] at h; cases h)
    rcases h with h | ⟨o, h⟩
    · exact .dic (.inl (e _ _ (by rw [hid_ne e0 e0]; exact h)))
    · exact .dic (.inr ⟨o, e _ _ (by rw [hid_ne e0 e0]; exact h)⟩)
  | _, _, .odd (a := a) h => by
    have e0 : a ≠ f := fun z => by subst z; rcases h with h | ⟨o, h⟩ <;> (rw [hf] at h; cases h)
    rcases h with h | ⟨o, h⟩
    · exact .odd (.inl (e _ _ (by rw [hid_ne e0 e0]; exact h)))
    · exact .odd (.inr ⟨o, e _ _ (by rw [hid_ne e0 e0]; exact h)⟩)
theorem AtL.keep {f : Addr} {xs ys : List V} (hf : H f = some (.lst xs)) (e : Ex (hid f f H) H') (hf' : H' f = some (.lst ys)) : ∀ {vs : List V} {ds : List Dt}, AtL K H vs ds → AtL K H' vs ds
  | _, _, .nil => .nil
  | _, _, .cons h t => .cons (At.keep hf e hf' h) (AtL.keep hf e hf' t)
end
def FreeAt (H : Hp) (f : Addr) (fr : List Str) : Prop := H f = some (.lst (fr.map V.str))
end
end EE
set_option Elab.async false
set_option linter.all false
set_option maxRecDepth 100000
set_option maxHeartbeats 1000000
namespace EE
open PySem L2 Evl
open C8 (Cal cal0 pe_c pe_gc fnScope_by)
section
variable {K : PySem.W.Frag} {σ : L2.St} {H H' : Hp} {ta tb tc te : TE} {D : Ends} {tz : TS}
theorem r_catA {t o : Addr} {xs ys : List V} {Q : VK} (ht : SqT K H t xs) (ho : SqT K H o ys) (hz : xs.length + ys.length ≤ 100000) (k : ∀ tf H2, Ex H H2 → SqT K H2 tf (xs ++ ys) → Q (.ref tf) H2) : rCatA K (.ref t) (.ref o) H Q :=
  ⟨t, o, xs, ys, rfl, rfl, ht, ho, sz_of hz, fun e => k o H (Ex.refl H) (by subst e; exact ho), fun _ e => k t H (Ex.refl H) (by subst e; rw [List.append_nil]; exact ht), fun _ _ p hp => k p _ (Ex.new hp) (st_of upd_same)⟩
/-- without_lasts, at depth n -/
def sp_wl (K : PySem.W.Frag) (n : Nat) : Sp := fun vs H Q _ => ∃ v f d fr, vs = [v, .ref f] ∧ At K H v d ∧ wfB n d = true ∧ FreeAt H f fr ∧ (∀ z ∈ fr, z.length ≤ sizeLine) ∧ lastsD n d ≤ fr.length ∧ plN n d ≤ 39000 ∧
  ∀ p ws H2, Ex (hid f f H) H2 → FreeAt H2 f (fr.drop (lastsD n d)) → SqT K H2 p ws → AtL K H2 ws (plB n d fr).1 → Q (.ref p) H2
def sp_pst (K : PySem.W.Frag) (n : Nat) : Sp := fun vs H Q _ => ∃ v f d fr, vs = [v, .ref f] ∧ At K H v d ∧ wfS (wfB n) d = true ∧ FreeAt H f fr ∧ (∀ z ∈ fr, z.length ≤ sizeLine) ∧ lastS n d ≤ fr.length ∧ plNs n d ≤ 39000 ∧
  ∀ p ws H2, Ex (hid f f H) H2 → FreeAt H2 f (fr.drop (lastS n d)) → SqT K H2 p ws → AtL K H2 ws (plS (plB n) d fr).1 → Q (.ref p) H2
theorem r_wl {n : Nat} {v : V} {f : Addr} {d : Dt} {fr : List Str} {E : XK} {Q : VK} {tf : TE} (he : Ev te σ H v) (hf : ∀ H1, Ex H H1 → Ev tf σ H1 (.ref f)) (h : At K H v d) (hw : wfB n d = true) (hfr : FreeAt H f fr) (hq : ∀ z ∈ fr, z.length ≤ sizeLine) (hl : lastsD n d ≤ fr.length) (hN : plN n d ≤ 39000)
    (k : ∀ p ws H2, Ex (hid f f H) H2 → FreeAt H2 f (fr.drop (lastsD n d)) → SqT K H2 p ws → AtL K H2 ws (plB n d fr).1 → Q (.ref p) H2) : tCall (sp_wl K n) [] E (tCons te (tCons tf tNil)) σ H Q :=
  he H (Ex.refl H) _ fun H1 e1 => hf H1 e1 H1 (Ex.refl H1) _ fun H2 e2 => ⟨v, f, d, fr, rfl, h.ex (e1.trans e2), hw, e2 _ _ (e1 _ _ hfr), hq, hl, hN, fun p ws H3 e3 h3 h4 h5 => k p ws H3 (Ex.trans (fun a o ha => by
    by_cases e : a = f
    · subst e; rw [show hid a a H a = none from if_pos (.inl rfl)] at ha; cases ha
    · rw [hid_ne e e] at ha ⊢; exact e2 _ _ (e1 _ _ ha)) e3) h3 h4 h5⟩
theorem hid_mono {f : Addr} (e : Ex H H') : Ex (hid f f H) (hid f f H') := fun a o ha => by
  by_cases e0 : a = f
  · subst e0; rw [show hid a a H a = none from if_pos (.inl rfl)] at ha; cases ha
  · rw [hid_ne e0 e0] at ha ⊢; exact e _ _ ha
/-- from one call to the next: what stands apart from f -/
theorem hid_next {f : Addr} {H0 H1 H2 : Hp} (e1 : Ex (hid f f H0) H1) (e2 : Ex (hid f f H1) H2) : Ex (hid f f H0) H2 := fun a o ha => by
  by_cases e0 : a = f
  · subst e0; rw [show hid a a H0 a = none from if_pos (.inl rfl)] at ha; cases ha
  · exact e2 _ _ (by rw [hid_ne e0 e0]; exact e1 _ _ ha)
end
section
variable {P : Program} {w : World} {K : PySem.W.Frag} {mg : Str → Option Value} {base : Heap} {sa : Addr} {rs : Str → Addr}
theorem sum_le {α : Type} {l : List α} {f : α → Nat} {x : α} (h : x ∈ l) : f x ≤ (l.map f).sum := by
  induction l with
  | nil => cases h
  | cons y l ih =>
    rw [List.map_cons, List.sum_cons]
    rcases List.mem_cons.mp h with rfl | h
    · omega
    · have := ih h; omega
theorem sc_wl : FnScope N_without_lasts P_without_lasts (C8.fnScope s_without_lasts) := fnScope_by (by decide +kernel)
theorem sc_pst : FnScope N_plain_statements P_plain_statements (C8.fnScope s_plain_statements) := fnScope_by (by decide +kernel)
theorem ok_wlS (T : TxtE w K mg) (S : Shp w K mg sa rs) {n : Nat} (C : Cal P w K mg base (2 * n + 3) "plain_statements" (sp_pst K n) []) : Cal P w K mg base (2 * n + 4) "without_lasts" (sp_wl K (n + 1)) [] := by
  refine mk_cal T.d_without_lasts sc_wl (fun vs H Q E h => ?_) (fun f cdv A outer s H vs Q E hr h => ?_)
  · obtain ⟨_, _, _, _, rfl, _⟩ := h
    rfl
  · obtain ⟨v, fA, d, fr, rfl, hv, hw, hfr, hfq, hla, hN, k⟩ := h
    have nd := sc_wl.nd
    refine ⟨_, pss_cons (ps_set (i := 2) nd rfl (Or.inl rfl) (pe_lst pa_nil))
      (pss_cons (ps_for PassesOwn.never rfl (pi_tup (pv 0)) (pg_name (i := 3) nd rfl (Or.inl rfl))
        (pss_one (ps_expr (pe_bm PySem.F.plainAttrs_list PySem.F.slot_list_extend PySem.F.type_list_extend mt_extT (pv 2) (pa_cons (pe_c C hr (by omega) (by rfl) (pa_cons (pv 3) (pa_cons (pv 1) pa_nil))) pa_nil)))))
      (pss_one (ps_ret (pe_callTy call_tuple_of (by rfl) T.tupT (by decide +kernel) (pa_cons (pv 2) pa_nil))))), ?_⟩
    obtain ⟨xs, rfl, hx⟩ := wfB_succ hw
    cases hv with
    | @tup a vs _ h r hz =>
      refine q_asgL (el_lst ea_nil (show 0 ≤ 100000 by decide)) fun l H1 hl e1 h1 => ?_
      have hlf : l ≠ fA := fun z => by subst z; rw [hfr] at hl; cases hl
      let st : Nat → List Dt × List Str := fun i => (xs.take i).foldl (stepB (plB n)) ([], fr)
      have hst : ∀ {i : Nat} {x : Dt}, xs[i]? = some x → st (i + 1) = stepB (plB n) (st i) x := fun hx => foldl_take hx
      have hfrs : ∀ i, (st i).2 = fr.drop (((xs.take i).map (lastS n)).sum) := fun i => by
        have := plB_fr (n := n + 1) (d := .tup (xs.take i)) (by show ((xs.take i).map (wfS (wfB n))).all id = true; rw [all_map]; exact fun x hx' => hx x (List.mem_of_mem_take hx')) fr
        exact this
      have hlen : ∀ i, (st i).1.length ≤ plN (n + 1) (.tup xs) := fun i => by
        have h0 := plB_len (n := n + 1) (d := .tup (xs.take i)) (by show ((xs.take i).map (wfS (wfB n))).all id = true; rw [all_map]; exact fun x hx' => hx x (List.mem_of_mem_take hx')) fr
        have h1 : plN (n + 1) (.tup (xs.take i)) ≤ plN (n + 1) (.tup xs) := by
          rw [plN_succ, plN_succ]
          have : xs = xs.take i ++ xs.drop i := (List.take_append_drop i xs).symm
          conv => rhs; rw [this]
          rw [List.map_append, List.sum_append]
          omega
        exact Nat.le_trans h0 h1
      refine q_forT (ev_var (v := .ref a) rfl) (ex_t e1 h) (fun i σ' H' => (∃ v3, σ' = [some (.ref a), some (.ref fA), some (.ref l), v3]) ∧ Ex (hid fA fA H) H' ∧ FreeAt H' fA (st i).2 ∧ ∃ ws, H' l = some (.lst ws) ∧ AtL K H' ws (st i).1)
        (fun H2 e2 => ⟨⟨_, rfl⟩, hid_ex.trans (e1.trans e2), e2 _ _ (e1 _ _ hfr), [], e2 _ _ h1, .nil⟩) (fun i σ' H' _ q => sqT_keep hfr q.2.1 h) ?_ ?_
      · rintro i y σ' H' hy ⟨⟨v3, rfl⟩, eG, hf', ws, g1, g2⟩
        obtain ⟨d, hd, hat0⟩ := r.get hy
        have hat := At.keep hfr eG hf' hat0
        have hsd := hx d (List.mem_of_getElem? hd)
        have hsum : ((xs.take i).map (lastS n)).sum + lastS n d ≤ fr.length := by
          have h2 : ((xs.take (i + 1)).map (lastS n)).sum ≤ (xs.map (lastS n)).sum := by
            have : xs = xs.take (i + 1) ++ xs.drop (i + 1) := (List.take_append_drop _ xs).symm
            conv => rhs; rw [this]
            rw [List.map_append, List.sum_append]
            omega
          rw [sum_take hd] at h2
          rw [lastsD_succ] at hla
          omega
        have hN1 : plNs n d ≤ 39000 := Nat.le_trans (sum_le (List.mem_of_getElem? hd)) (by rw [plN_succ] at hN; exact hN)
        refine ⟨_, rfl, Or.inl ⟨rfl, ws, sq_of g1⟩, y, rfl, _, rfl, y, fA, d, (st i).2, rfl, hat, hsd, hf', (fun z hz' => by rw [hfrs i] at hz'; exact hfq z (List.mem_of_mem_drop hz')), by rw [hfrs i, List.length_drop]; omega, hN1, fun p ws2 H2 e2 q1 q2 q3 => ?_⟩
        have gl : H2 l = some (.lst ws) := e2 _ _ (by rw [hid_ne hlf hlf]; exact g1)
        have hlw : (ws ++ ws2).length ≤ plN (n + 1) (.tup xs) := by
          rw [List.length_append, g2.len, q3.len, ← List.length_append]
          have := hlen (i + 1)
          rw [hst hd] at this
          exact this
        refine ⟨l, p, ws, ws2, rfl, rfl, gl, q2, (by have := big_line; rw [List.length_append] at hlw; omega), ⟨_, rfl⟩, ?_, ?_, ws ++ ws2, upd_same, ?_⟩
        · exact (hid_next eG e2).mut (by rw [hid_ne hlf hlf]; exact hl)
        · show upd H2 l _ fA = _
          rw [upd_ne (Ne.symm hlf), hst hd]
          show H2 fA = some (.lst ((plS (plB n) d (st i).2).2.map V.str))
          rw [plS_fr (W := wfB n) (fun d hd fr => plB_fr hd fr) hsd]
          exact q1
        · rw [hst hd]
          exact AtL.updL gl ((AtL.keep hf' e2 q1 g2).app q3)
      · rintro σ' H' ⟨⟨v3, rfl⟩, eG, hf', ws, g1, g2⟩
        rw [r.len] at hf' g2
        have hall : st xs.length = plB (n + 1) (.tup xs) fr := by show (xs.take xs.length).foldl _ _ = _; rw [List.take_length]; rfl
        rw [hall] at hf' g2
        rw [plB_fr hw] at hf'
        exact s_retU (rcu_tupleOf (ev_var rfl) (sq_of g1)) fun p H3 hp3 e3 h3 => k p ws H3 (eG.trans e3) (e3 _ _ hf') (st_of h3) (g2.ex e3)
end
end EE
set_option Elab.async false
set_option linter.all false
set_option maxRecDepth 100000
set_option maxHeartbeats 1000000
namespace EE
open PySem L2 Evl
open C8 (Cal cal0 pe_c pe_gc fnScope_by)
section
variable {P : Program} {w : World} {K : PySem.W.Frag} {mg : Str → Option Value} {base : Heap} {sa : Addr} {rs : Str → Addr}
/-- return (t,), t a new tuple -/
theorem s_retUU {σ : L2.St} {H : Hp} {te : TE} {D : Ends} {xs : List V} (h : EvU te σ H xs) (k : ∀ p q H1, H p = none → Ex H H1 → H1 p = some (.tup [.ref q]) → H1 q = some (.tup xs) → D.rt (.ref p) H1) : tRet (tTup (tCons te tNil)) D σ H :=
  h H (Ex.refl H) _ fun q H1 hq e1 h1 => ⟨show 1 ≤ sizeLine by decide, fun p hp => k p q _ (fresh_back e1 hp) (e1.trans (Ex.new hp)) upd_same (by rw [upd_ne (fun z => by subst z; rw [h1] at hp; cases hp)]; exact h1)⟩
theorem filter_sum {L : Dt → Nat} : ∀ {kps : List (Str × Dt)}, ((kps.filter fun p => decide (p.1 ∈ blks)).map fun p => L p.2).sum = (kps.map fun p => if p.1 ∈ blks then L p.2 else 0).sum
  | [] => rfl
  | kp :: kps => by
    rw [List.filter_cons, List.map_cons, List.sum_cons]
    by_cases e : kp.1 ∈ blks
    · rw [if_pos (by simpa using e), if_pos e, List.map_cons, List.sum_cons, filter_sum]
    · rw [if_neg (by simpa using e), if_neg e, filter_sum, Nat.zero_add]
theorem zip_get {α β : Type} {l : List α} {m : List β} {i : Nat} {a : α} {b : β} (h1 : l[i]? = some a) (h2 : m[i]? = some b) : (l.zip m)[i]? = some (a, b) := by
  rw [List.zip, List.getElem?_zipWith, h1, h2]
theorem inner_of {ks : List Str} {ps : List Dt} {i : Nat} {k : Str} {d : Dt} (h1 : ks[i]? = some k) (h2 : ps[i]? = some d) (hk : k ∈ blks) : d ∈ innerOf ks ps :=
  List.mem_map.mpr ⟨(k, d), List.mem_filter.mpr ⟨List.mem_of_getElem? (zip_get h1 h2), by simpa using hk⟩, rfl⟩
theorem fr_pop {fr : List Str} {n : Nat} (h : n + 1 ≤ fr.length) : ∃ nm r, fr = nm :: r ∧ n ≤ r.length := by
  cases fr with
  | nil => simp at h
  | cons a r => exact ⟨a, r, rfl, by simpa using h⟩
theorem ok_pstS (T : TxtE w K mg) (S : Shp w K mg sa rs) {n : Nat} (C : Cal P w K mg base (2 * n + 2) "without_lasts" (sp_wl K n) []) : Cal P w K mg base (2 * n + 3) "plain_statements" (sp_pst K n) [] := by
  obtain ⟨b, hb1, hb2⟩ := T.c_BLOCKS
  refine mk_cal T.d_plain_statements sc_pst (fun vs H Q E h => ?_) (fun f cdv A outer s H vs Q E hr h => ?_)
  · obtain ⟨_, _, _, _, rfl, _⟩ := h
    rfl
  · obtain ⟨v, fA, d, fr, rfl, hv, hw, hfr, hfq, hla, hN, k⟩ := h
    have nd := sc_pst.nd
    refine ⟨_, pss_cons (ps_if (pt_cmpR op_eq (pe_ix ix_tup (pv 0) pe_int (fun _ _ => rfl)) pe_str (nomark _))
        (pss_cons (ps_set (i := 2) nd rfl (Or.inl rfl) (pe_bm PySem.F.plainAttrs_list PySem.F.slot_list_pop PySem.F.type_list_pop mt_popAt (pv 1) (pa_cons pe_int pa_nil)))
        (pss_cons (ps_set (i := 3) nd rfl (Or.inl rfl) (pe_c C hr (by omega) (by rfl) (pa_cons (pe_ix ix_tup (pv 0) pe_int (fun _ _ => rfl)) (pa_cons (pv 1) pa_nil))))
        (pss_cons (ps_set (i := 4) nd rfl (Or.inl rfl) (pe_c C hr (by omega) (by rfl) (pa_cons (pe_ix ix_tup (pv 0) pe_int (fun _ _ => rfl)) (pa_cons (pv 1) pa_nil))))
        (pss_one (ps_ret (pe_op op_catA (pe_tup (pa_cons (pe_tup (pa_cons pe_str (pa_cons (pv 3) (pa_cons (pv 2) (pa_cons (pe_op op_catA (pv 4) (pe_tup (pa_cons (pe_tup (pa_cons pe_str (pa_cons (pv 2) pa_nil))) pa_nil))) pa_nil))))) pa_nil)) (pv 4))))))) pss_nil)
      (pss_cons (ps_set (i := 5) nd rfl (Or.inl rfl) (pe_lst (pa_cons (pe_ix ix_tup (pv 0) pe_int (fun _ _ => rfl)) pa_nil)))
      (pss_cons (ps_for PassesOwn.never rfl (pi_list (pe_c (ok_parts T.toTxtS S) hr (by omega) (by rfl) (pa_cons (pv 0) pa_nil))) (pg_tup (by rfl) (pgs_cons (pg_name (i := 6) nd rfl (Or.inl rfl)) (pgs_cons (pg_name (i := 7) nd rfl (Or.inl rfl)) pgs_nil)))
        (pss_one (ps_expr (pe_bm PySem.F.plainAttrs_list PySem.F.slot_list_append PySem.F.type_list_append mt_append (pv 5) (pa_cons (pe_ifExp (pt_cmpR (show OpR _ (compareOp .In) (rIn K false) from op_in_seq) (pv 6) (pe_gc (v := .ref b) (by rfl) ⟨_, hb1, rfl⟩) (by rfl)) (pe_c C hr (by omega) (by rfl) (pa_cons (pv 7) (pa_cons (pv 1) pa_nil))) (pv 7)) pa_nil)))))
      (pss_one (ps_ret (pe_tup (pa_cons (pe_callTy call_tuple_of (by rfl) T.tupT (by decide +kernel) (pa_cons (pv 5) pa_nil)) pa_nil)))))), ?_⟩
    obtain ⟨a, z, ks, pvs, ps, rfl, rfl, h2, hsh, hl1, hl2, rp, hp, ein⟩ := stmt_at hv hw
    have hiw := inner_wf hw
    by_cases e : z = "last"
    · subst e
      have hks := last_shape hsh
      subst hks
      refine q_when (b := true) (et_test (ev_is (ev_op (ev_op (ev_var (v := .ref a) rfl) ev_c (rv_ixT h2 (at_of (j := 0) rfl rfl))) (ev_c (v := .str "last")) (rv_eq rfl)) (by simp))) (fun _ H1 e1 => ?_) (fun z => nomatch z)
      obtain ⟨v1, v2, d1, d2, rfl, rfl, a1, a2⟩ : ∃ v1 v2 d1 d2, pvs = [v1, v2] ∧ ps = [d1, d2] ∧ At K H v1 d1 ∧ At K H v2 d2 := by
        match pvs, ps, rp, hl1, hl2 with
        | [v1, v2], [d1, d2], .cons a1 (.cons a2 .nil), _, _ => exact ⟨v1, v2, d1, d2, rfl, rfl, a1, a2⟩
      have ei : innerD (.tup [.str "last", d1, d2]) = [d1, d2] := by rw [ein]; rfl
      have w1 := hiw d1 (by rw [ei]; simp)
      have w2 := hiw d2 (by rw [ei]; simp)
      have hls : lastS n (.tup [.str "last", d1, d2]) = (lastsD n d1 + lastsD n d2) + 1 := by
        unfold lastS
        rw [if_pos (by simp [headD, isS]), ei]
        simp
        omega
      have hNs : 2 * plN n d1 + 1 + (2 * plN n d2 + 1) + 1 ≤ 39000 := by
        have : plNs n (.tup [.str "last", d1, d2]) = 1 + (2 * plN n d1 + 1 + (2 * plN n d2 + 1 + 0)) := by unfold plNs; rw [ei]; rfl
        rw [this] at hN
        omega
      rw [hls] at hla
      obtain ⟨nm, fr1, rfl, hf1⟩ := fr_pop hla
      have hpl : (plS (plB n) (.tup [.str "last", d1, d2]) (nm :: fr1)).1 = .tup [.str "try", .tup (plB n d1 fr1).1, .str nm, .tup ((plB n d2 (fr1.drop (lastsD n d1))).1 ++ [raiseD nm])] :: (plB n d2 (fr1.drop (lastsD n d1))).1 := by
        unfold plS
        rw [if_pos (by simp [headD, isS])]
        show .tup [.str "try", .tup (plB n d1 fr1).1, .str nm, .tup ((plB n d2 (plB n d1 fr1).2).1 ++ [raiseD nm])] :: (plB n d2 (plB n d1 fr1).2).1 = _
        rw [plB_fr w1]
      have hdr : (nm :: fr1).drop ((lastsD n d1 + lastsD n d2) + 1) = (fr1.drop (lastsD n d1)).drop (lastsD n d2) := by rw [List.drop_succ_cons, List.drop_drop]
      rw [hls, hdr, hpl] at k
      have hf2 : H1 fA = some (.lst ((nm :: fr1).map V.str)) := e1 _ _ hfr
      refine ⟨_, rfl, Or.inl ⟨rfl, _, sq_of hf2⟩, fA, _, 0, 0, _, rfl, rfl, hf2, by decide, by decide, by simp [seqIndex?], rfl, ?_⟩
      have g0 : Ex (hid fA fA H) (upd H1 fA (.lst (((nm :: fr1).map V.str).eraseIdx 0))) := Ex.mut (hid_ex.trans e1) (if_pos (.inl rfl))
      have f0 : FreeAt (upd H1 fA (.lst (((nm :: fr1).map V.str).eraseIdx 0))) fA fr1 := upd_same
      generalize upd H1 fA (.lst (((nm :: fr1).map V.str).eraseIdx 0)) = G0 at g0 f0
      have h2' : SqT K G0 a [.str "last", v1, v2] := sqT_keep hfr g0 h2
      refine r_wl (ev_op (ev_var (v := .ref a) rfl) ev_c (rv_ixT h2' (at_of (j := 1) rfl rfl))) (fun G e => ev_var rfl) (At.keep hfr g0 f0 a1) w1 f0 (fun z hz' => hfq z (List.mem_cons_of_mem _ hz')) (by omega) (by omega) fun p1 ws1 G1 g1 f1 q1 r1 => ?_
      have h2'' : SqT K G1 a [.str "last", v1, v2] := sqT_keep f0 g1 h2'
      refine r_wl (ev_op (ev_var (v := .ref a) rfl) ev_c (rv_ixT h2'' (at_of (j := 2) rfl rfl))) (fun G e => ev_var rfl) (At.keep hfr (hid_next g0 g1) f1 a2) w2 f1 (fun z hz' => hfq z (List.mem_cons_of_mem _ (List.mem_of_mem_drop hz'))) (by rw [List.length_drop]; omega) (by omega) fun p2 ws2 G2 g2 f2 q2 r2 => ?_
      have g02 := hid_next (hid_next g0 g1) g2
      have q1' : SqT K G2 p1 ws1 := sqT_keep f1 g2 q1
      have r1' : AtL K G2 ws1 (plB n d1 fr1).1 := AtL.keep f1 g2 f2 r1
      have l1 : ws1.length ≤ 39000 := by rw [r1.len]; exact Nat.le_trans (plB_len w1 _) (by omega)
      have l2 : ws2.length + 2 ≤ 39000 := by rw [r2.len]; have := plB_len w2 (fr1.drop (lastsD n d1)); omega
      -- the two tuples of the raise
      refine ⟨_, rfl, _, rfl, _, rfl, _, rfl, ⟨show 2 ≤ sizeLine by decide, fun t1 n1 => ⟨show 1 ≤ sizeLine by decide, fun t2 n2 => ?_⟩⟩⟩
      have x1 := Ex.new (o := .tup [.str "raise", .str nm]) n1
      have x2 := Ex.new (o := .tup [.ref t1]) n2
      have x12 := x1.trans x2
      refine r_catA (K := K) (ex_t x12 q2) (st_of upd_same) (by simp; omega) fun t3 G3 g3 q3 => ⟨show 4 ≤ sizeLine by decide, fun t4 n4 => ⟨show 1 ≤ sizeLine by decide, fun t5 n5 => ?_⟩⟩
      have x4 := Ex.new (o := .tup [.str "try", .ref p1, .str nm, .ref t3]) n4
      have x5 := Ex.new (o := .tup [.ref t4]) n5
      have y := (x12.trans g3).trans (x4.trans x5)
      refine ⟨_, rfl, r_catA (K := K) (st_of upd_same) (ex_t y q2) (by simp; omega) fun t6 G6 g6 q6 => ?_⟩
      have y6 := y.trans g6
      refine k t6 _ G6 (g02.trans y6) (y6 _ _ f2) q6 ?_
      have atR : At K G6 (.ref t1) (raiseD nm) := by
        refine .tup (st_of ((((x2.trans g3).trans (x4.trans x5)).trans g6) _ _ upd_same)) (.cons (.str _ (by decide)) (.cons (.str nm (hfq nm List.mem_cons_self)) .nil)) (show 2 ≤ 40000 by decide)
      refine AtL.app (.cons (.tup (st_of ((x5.trans g6) _ _ upd_same)) (.cons (.str _ (by decide)) (.cons (.tup (ex_t y6 q1') (r1'.ex y6) (by omega)) (.cons (.str nm (hfq nm List.mem_cons_self)) (.cons (.tup (ex_t ((x4.trans x5).trans g6) q3) ((r2.ex y6).app (.cons atR .nil)) (by rw [List.length_append]; simp; omega)) .nil)))) (show 4 ≤ 40000 by decide)) .nil) (r2.ex y6)
    · have e0 : isS "last" (headD (.tup (.str z :: ps))) = false := by simp [headD, isS, e]
      refine q_when (b := false) (et_test (ev_is (ev_op (ev_op (ev_var (v := .ref a) rfl) ev_c (rv_ixT h2 (at_of (j := 0) rfl rfl))) (ev_c (v := .str "last")) (rv_eq rfl)) (by simp [e]))) (fun z => nomatch z) fun _ H1 e1 => ?_
      refine q_asgL (el_lst (ea_cons (ev_op (ev_var (v := .ref a) rfl) ev_c (rv_ixT (ex_t e1 h2) (at_of (j := 0) rfl rfl))) ea_nil) (show 1 ≤ 100000 by decide)) fun l H2 hl e2 h3 => ?_
      have hl0 : H l = none := fresh_back e1 hl
      have hlf : l ≠ fA := fun z => by subst z; rw [hfr] at hl0; cases hl0
      have f2 : H2 fA = some (.lst (fr.map V.str)) := e2 _ _ (e1 _ _ hfr)
      have hl4 := (shape_len hsh).2
      let st : Nat → List Dt × List Str := fun i => plP (plB n) ((ks.zip ps).take i) ([.str z], fr)
      have hst : ∀ {i : Nat} {x : Str × Dt}, (ks.zip ps)[i]? = some x → st (i + 1) = stepP (plB n) (st i) x := fun hx => foldl_take hx
      have hmemb : ∀ {i : Nat} {x : Str × Dt}, (ks.zip ps)[i]? = some x → x.1 ∈ blks → wfB n x.2 = true ∧ x.2 ∈ innerD (.tup (.str z :: ps)) := fun {i x} hx hb => by
        have hm : x.2 ∈ innerD (.tup (.str z :: ps)) := by
          rw [ein]
          exact List.mem_map.mpr ⟨x, List.mem_filter.mpr ⟨List.mem_of_getElem? hx, by simpa using hb⟩, rfl⟩
        exact ⟨hiw _ hm, hm⟩
      have hfrs : ∀ i, (st i).2 = fr.drop ((((ks.zip ps).take i).map fun p => if p.1 ∈ blks then lastsD n p.2 else 0).sum) := fun i => by
        rw [← filter_sum]
        exact plP_fr (L := lastsD n) fun kp hkp hb fr => by
          obtain ⟨j, hj⟩ := List.mem_iff_getElem?.mp (List.mem_of_mem_take hkp)
          exact plB_fr (hmemb hj hb).1 fr
      have hlasts : lastS n (.tup (.str z :: ps)) = ((ks.zip ps).map fun p => if p.1 ∈ blks then lastsD n p.2 else 0).sum := by
        unfold lastS
        rw [e0, ein, ← innerOf_sum, filter_sum]
        simp
      refine q_forPartsG (p := l) (g := fA) (ev_var (v := .ref a) rfl) (ex_t (e1.trans e2) h2) hsh hl1 (by rw [h3]; simp) (by rw [f2]; simp)
        (fun G i σ' H' => (∃ v6 v7, σ' = [some (.ref a), some (.ref fA), none, none, none, some (.ref l), v6, v7]) ∧ Ex G H' ∧ FreeAt H' fA (st i).2 ∧ ∃ ws, H' l = some (.lst ws) ∧ AtL K H' ws (st i).1) (fun G i σ' H' q => q.2.1)
        (fun H3 e3 => ⟨⟨_, _, rfl⟩, hid_ex, e3 _ _ f2, _, e3 _ _ h3, .cons (by cases hv with | tup _ r _ => cases r with | cons h0 _ => cases h0 with | str _ hz0 => exact .str z hz0) .nil⟩) ?_ ?_
      · rintro H3 e3 i kd q σ' H' hk hq ⟨⟨v6, v7, rfl⟩, eG, hf', ws, g1, g2⟩
        obtain ⟨d, hd, hat0⟩ := rp.get hq
        have eF : Ex (hid fA fA H) H' := fun x o hx => eG _ _ (by
          by_cases e4 : x = fA
          · subst e4; rw [show hid x x H x = none from if_pos (.inl rfl)] at hx; cases hx
          · rw [hid_ne e4 e4] at hx
            rw [hid_ne (fun z => by subst z; rw [hl0] at hx; cases hx) e4]
            exact e3 _ _ (e2 _ _ (e1 _ _ hx)))
        have hat := At.keep hfr eF hf' hat0
        have hz := zip_get hk hd
        have hw5 : ws.length ≤ 5 := by
          have hi : i < ks.length := (List.getElem?_eq_some_iff.mp hk).1
          rw [g2.len]
          show (plP _ _ _).1.length ≤ 5
          rw [plP_len]
          have := List.length_take_le i (ks.zip ps)
          simp
          omega
        refine ⟨_, rfl, Or.inl ⟨rfl, ws, sq_of g1⟩, ?_⟩
        refine (et_test (ev_is (ev_op (ev_var (v := .str kd) rfl) ev_c (rv_isT (hb2 _) rfl rfl)) (congrArg V.bl (inV_strs kd blks))) : EvT _ _ H' (decide (kd ∈ blks))) H' (Ex.refl _) _ fun H4 e4 => ?_
        by_cases hkb : kd ∈ blks
        · rw [decide_eq_true hkb]
          obtain ⟨hwd, hmem⟩ : wfB n d = true ∧ d ∈ innerD (.tup (.str z :: ps)) := hmemb hz hkb
          have hs1 : ((((ks.zip ps).take i).map fun p => if p.1 ∈ blks then lastsD n p.2 else 0).sum) + lastsD n d ≤ fr.length := by
            have q1 := sum_take (f := fun p : Str × Dt => if p.1 ∈ blks then lastsD n p.2 else 0) hz
            simp only [if_pos hkb] at q1
            have q2 : (((ks.zip ps).take (i + 1)).map fun p => if p.1 ∈ blks then lastsD n p.2 else 0).sum ≤ ((ks.zip ps).map fun p => if p.1 ∈ blks then lastsD n p.2 else 0).sum := by
              have : ks.zip ps = (ks.zip ps).take (i + 1) ++ (ks.zip ps).drop (i + 1) := (List.take_append_drop _ _).symm
              conv => rhs; rw [this]
              rw [List.map_append, List.sum_append]
              omega
            rw [hlasts] at hla
            omega
          have hN1 : plN n d ≤ 39000 := by
            have := sum_le (f := fun b => 2 * plN n b + 1) hmem
            unfold plNs at hN
            omega
          show tCall (sp_wl K n) [] _ (tCons (tVar 7) (tCons (tVar 1) tNil)) _ H4 _
          refine r_wl (ev_var (v := q) rfl) (fun G e => ev_var rfl) (hat.ex e4) hwd (e4 _ _ hf') (fun z hz' => by rw [hfrs i] at hz'; exact hfq z (List.mem_of_mem_drop hz')) (by rw [hfrs i, List.length_drop]; omega) hN1 fun p ws2 H5 e5 f5 q5 r5 => ?_
          have gl : H5 l = some (.lst ws) := e5 _ _ (by rw [hid_ne hlf hlf]; exact e4 _ _ g1)
          refine ⟨l, ws, .ref p, rfl, rfl, gl, (by have := big_line; omega), ⟨_, _, rfl⟩, ?_, ?_, _, upd_same, ?_⟩
          · exact Ex.mut (fun x o hx => e5 _ _ (by
              have hxl : x ≠ fA := fun z => by subst z; rw [show hid l x H3 x = none from if_pos (.inr rfl)] at hx; cases hx
              rw [hid_ne hxl hxl]
              exact e4 _ _ (eG _ _ hx))) (if_pos (.inl rfl))
          · show upd H5 l _ fA = _
            rw [upd_ne (Ne.symm hlf), hst hz]
            unfold stepP
            rw [if_pos hkb]
            show H5 fA = some (.lst ((plB n d (st i).2).2.map V.str))
            rw [plB_fr hwd]
            exact f5
          · rw [hst hz]
            unfold stepP
            rw [if_pos hkb]
            exact AtL.updL gl (AtL.app (AtL.keep (e4 _ _ hf') e5 f5 (g2.ex e4)) (.cons (.tup q5 r5 (by rw [r5.len]; exact Nat.le_trans (plB_len hwd _) (by omega))) .nil))
        · rw [decide_eq_false hkb]
          show tVar 7 _ H4 _
          refine ⟨_, rfl, l, ws, q, rfl, rfl, e4 _ _ g1, (by have := big_line; omega), ⟨_, _, rfl⟩, (eG.trans e4).mut (if_pos (.inl rfl)), ?_, _, upd_same, ?_⟩
          · show upd H4 l _ fA = _
            rw [upd_ne (Ne.symm hlf), hst hz]
            unfold stepP
            rw [if_neg hkb]
            exact e4 _ _ hf'
          · rw [hst hz]
            unfold stepP
            rw [if_neg hkb]
            exact AtL.updL (e4 _ _ g1) (AtL.app (g2.ex e4) (.cons (hat.ex e4) .nil))
      · rintro H3 e3 σ' H' ⟨⟨v6, v7, rfl⟩, eG, hf', ws, g1, g2⟩
        have eF : Ex (hid fA fA H) H' := fun x o hx => eG _ _ (by
          by_cases e4 : x = fA
          · subst e4; rw [show hid x x H x = none from if_pos (.inl rfl)] at hx; cases hx
          · rw [hid_ne e4 e4] at hx
            rw [hid_ne (fun z => by subst z; rw [hl0] at hx; cases hx) e4]
            exact e3 _ _ (e2 _ _ (e1 _ _ hx)))
        have hzl : (ks.zip ps).length = ks.length := by rw [List.length_zip]; omega
        have hall : st ks.length = plP (plB n) (ks.zip ps) ([.str z], fr) := by show plP _ ((ks.zip ps).take ks.length) _ = _; rw [← hzl, List.take_length]
        have hpl : plS (plB n) (.tup (.str z :: ps)) fr = ([.tup (st ks.length).1], (st ks.length).2) := by
          unfold plS
          rw [e0]
          show ([Dt.tup (plP (plB n) (((shapeOf z).getD []).zip ps) ([.str z], fr)).1], (plP (plB n) (((shapeOf z).getD []).zip ps) ([.str z], fr)).2) = _
          rw [hsh, hall]
          rfl
        have hfl : (st ks.length).2 = fr.drop (lastS n (.tup (.str z :: ps))) := by
          have := plS_fr (W := wfB n) (PB := plB n) (n := n) (fun d hd fr => plB_fr hd fr) hw fr
          rw [hpl] at this
          exact this
        rw [hfl] at hf'
        rw [hpl] at k
        have hw5 : ws.length ≤ 5 := by
          rw [g2.len, hall, plP_len, hzl]
          simp
          omega
        exact s_retUU (rcu_tupleOf (ev_var rfl) (sq_of g1)) fun p q H4 hp4 e4 h4 h5 => k p [.ref q] H4 (eF.trans e4) (e4 _ _ hf') (st_of h4) (.cons (.tup (st_of h5) (g2.ex e4) (by omega)) .nil)
theorem ok_wl (T : TxtE w K mg) (S : Shp w K mg sa rs) : ∀ n, Cal P w K mg base (2 * n + 2) "without_lasts" (sp_wl K n) []
  | 0 => mk_cal T.d_without_lasts sc_wl (fun vs H Q E h => by obtain ⟨_, _, _, _, rfl, _⟩ := h; rfl) (fun f cdv A outer s H vs Q E hr h => by
      obtain ⟨_, _, _, _, _, _, hw, _⟩ := h
      cases hw)
  | n + 1 => ok_wlS T S (ok_pstS T S (ok_wl T S n))
end
end EE
set_option Elab.async false
set_option linter.all false
set_option maxRecDepth 100000
set_option maxHeartbeats 1000000
namespace EE
open PySem L2 Evl
open C8 (Cal cal0 pe_c pe_gc fnScope_by)
/-! ### how deep a right block is -/
theorem dp_tup {n : Nat} {xs : List Dt} : dpD (n + 1) (.tup xs) = true ↔ ∀ x ∈ xs, dpD n x = true := all_map
theorem dp_mono : ∀ {n : Nat} {d : Dt}, dpD n d = true → dpD (n + 1) d = true
  | 0, d, h => by cases d <;> first | rfl | cases h
  | n + 1, d, h => by
    cases d with
    | tup xs => exact dp_tup.mpr fun x hx => dp_mono (dp_tup.mp h x hx)
    | _ => rfl
theorem dp_le {n m : Nat} {d : Dt} (h : dpD n d = true) (hm : n ≤ m) : dpD m d = true := by
  induction hm with
  | refl => exact h
  | step _ ih => exact dp_mono ih
theorem dp_nm {d : Dt} (h : nmD d = true) : dpD 0 d = true := by cases d <;> first | rfl | cases h
theorem dp_isS {z : Str} {d : Dt} (h : isS z d = true) : dpD 0 d = true := by cases d <;> first | rfl | cases h
theorem dp_expr {d : Dt} (h : exprD d = true) : dpD 1 d = true := by
  cases d with
  | tup xs =>
    replace h : (decide (xs.length = 1) && nmD (xs.headD .non)) = true := h
    rw [Bool.and_eq_true] at h
    match xs, h with
    | [x], h => exact dp_tup.mpr fun y hy => by rw [List.mem_singleton.mp hy]; exact dp_nm h.2
    | [], h => exact absurd (of_decide_eq_true h.1) (by decide)
    | _ :: _ :: _, h => have := of_decide_eq_true h.1; simp at this
  | _ => rfl
theorem dp_exprs {d : Dt} (h : exprsD d = true) : dpD 2 d = true := by
  cases d with
  | tup xs =>
    replace h : (decide (xs.length ≤ 4) && (xs.map exprD).all id) = true := h
    rw [Bool.and_eq_true] at h
    exact dp_tup.mpr fun y hy => dp_expr (all_map.mp h.2 y hy)
  | _ => rfl
theorem dp_words {d : Dt} (h : wordsD d = true) : dpD 1 d = true := by
  cases d with
  | tup xs =>
    replace h : ((((decide ((xs.length : Int) ≤ 3) && (xs.map nmD).all id) && decide ((xs.map unD).Nodup))) && decide (2 ≤ xs.length)) = true := h
    simp only [Bool.and_eq_true] at h
    exact dp_tup.mpr fun y hy => dp_nm (all_map.mp h.1.1.2 y hy)
  | _ => rfl
theorem dp_kind {kn : Kn} {d : Dt} (h : kindD kn d = true) : dpD 0 d = true := by
  cases d with
  | tup xs => simp [kindD, inS, nmIn] at h
  | _ => rfl
theorem dp_core {kn : Kn} {d : Dt} (h : coreD kn d = true) : dpD 2 d = true := by
  cases d with
  | tup xs =>
    replace h : (decide (xs.length = 3) && (if isS "same" (xs.headD .non) then exprD (xs.getD 1 .non) && exprD (xs.getD 2 .non) else isS "kind" (xs.headD .non) && (exprD (xs.getD 1 .non) && kindD kn (xs.getD 2 .non)))) = true := h
    rw [Bool.and_eq_true] at h
    obtain ⟨h1, h2⟩ := h
    have hl := of_decide_eq_true h1
    match xs, hl with
    | [a, b, c], _ =>
      replace h2 : (if isS "same" a then exprD b && exprD c else isS "kind" a && (exprD b && kindD kn c)) = true := h2
      refine dp_tup.mpr fun y hy => ?_
      have hh : dpD 1 a = true ∧ dpD 1 b = true ∧ dpD 1 c = true := by
        split at h2
        · rename_i hs
          rw [Bool.and_eq_true] at h2
          exact ⟨dp_le (dp_isS hs) (by decide), dp_expr h2.1, dp_expr h2.2⟩
        · simp only [Bool.and_eq_true] at h2
          exact ⟨dp_le (dp_isS h2.1) (by decide), dp_expr h2.2.1, dp_le (dp_kind h2.2.2) (by decide)⟩
      simp only [List.mem_cons, List.not_mem_nil, or_false] at hy
      rcases hy with rfl | rfl | rfl
      · exact hh.1
      · exact hh.2.1
      · exact hh.2.2
  | _ => rfl
theorem dp_strip1 {n : Nat} {d : Dt} (h : dpD n (strip1 d) = true) : dpD (n + 1) d = true := by
  unfold strip1 at h
  split at h
  · rename_i hn
    cases d with
    | tup xs =>
      replace hn : (decide (xs.length = 2) && isS "not" (xs.headD .non)) = true := hn
      rw [Bool.and_eq_true] at hn
      match xs, of_decide_eq_true hn.1 with
      | [a, b], _ =>
        refine dp_tup.mpr fun y hy => ?_
        simp only [List.mem_cons, List.not_mem_nil, or_false] at hy
        rcases hy with rfl | rfl
        · exact dp_le (dp_isS hn.2) (Nat.zero_le _)
        · exact h
    | _ => rfl
  · exact dp_mono h
theorem dp_strips {n : Nat} {d : Dt} : ∀ k, dpD n (strips k d) = true → dpD (n + k) d = true
  | 0, h => h
  | k + 1, h => by
    have := dp_strips (n := n + 1) k (dp_strip1 h)
    rw [show n + (k + 1) = n + 1 + k by omega]
    exact this
theorem dp_leaf {kn : Kn} {k : Str} {d : Dt} (h : leafD kn k d = true) : dpD 5 d = true := by
  have nmin : ∀ {zs : List Str}, nmIn zs d = true → dpD 0 d = true := fun {zs} g => by cases d <;> first | rfl | cases g
  have pr : priceD d = true → dpD 0 d = true := fun g => by cases d <;> first | rfl | cases g
  unfold leafD at h
  repeat' split at h
  · exact dp_le (dp_nm h) (by decide)
  · exact dp_le (dp_nm h) (by decide)
  · exact dp_le (nmin h) (by decide)
  · exact dp_le (nmin h) (by decide)
  · exact dp_le (nmin h) (by decide)
  · exact dp_le (pr h) (by decide)
  · exact dp_le (dp_words h) (by decide)
  · exact dp_le (dp_expr h) (by decide)
  · exact dp_le (dp_exprs h) (by decide)
  · exact dp_strips 3 (dp_core h)
theorem dp_blk {kn : Kn} : ∀ {n : Nat} {d : Dt}, okB kn n d = true → dpD (2 * n + 5) d = true
  | 0, _, h => nomatch h
  | n + 1, d, h => by
    cases d with
    | tup xs =>
      replace h : (decide (xs.length ≤ 12) && (xs.map (stmtD (okB kn n) (retD n) kn)).all id) = true := h
      rw [Bool.and_eq_true] at h
      rw [show 2 * (n + 1) + 5 = (2 * n + 5) + 1 + 1 by omega]
      refine dp_tup.mpr fun s hs => ?_
      have hst := all_map.mp h.2 s hs
      cases s with
      | tup ys =>
        cases ys with
        | nil => rfl
        | cons x ps =>
          replace hst : (nmD x && (match shapeOf (unD x) with
            | none => false
            | some ks => decide (ps.length = ks.length) && (List.zipWith (partD (okB kn n) (retD n) kn) ks ps).all id)) = true := hst
          rw [Bool.and_eq_true] at hst
          obtain ⟨h1, h2⟩ := hst
          cases hsh : shapeOf (unD x) with
          | none => rw [hsh] at h2; cases h2
          | some ks =>
            rw [hsh] at h2
            simp only [Bool.and_eq_true] at h2
            obtain ⟨h3, h4⟩ := h2
            have hl := of_decide_eq_true h3
            refine dp_tup.mpr fun p hp => ?_
            rcases List.mem_cons.mp hp with rfl | hp
            · exact dp_le (dp_nm h1) (by omega)
            · obtain ⟨i, hi⟩ := List.mem_iff_getElem?.mp hp
              have hi' : i < ks.length := by rw [← hl]; exact (List.getElem?_eq_some_iff.mp hi).1
              have hz : (List.zipWith (partD (okB kn n) (retD n) kn) ks ps)[i]? = some (partD (okB kn n) (retD n) kn ks[i] p) := by
                rw [List.getElem?_zipWith, hi, List.getElem?_eq_getElem hi']
              have hb : partD (okB kn n) (retD n) kn ks[i] p = true := (List.all_eq_true.mp h4) _ (List.mem_of_getElem? hz)
              unfold partD at hb
              split at hb
              · exact dp_blk hb
              · split at hb
                · rw [Bool.and_eq_true] at hb
                  exact dp_blk hb.1
                · exact dp_le (dp_leaf hb) (by omega)
      | _ => rfl
    | _ => rfl
/-! ### free_names -/
section
variable {K : PySem.W.Frag} {σ : L2.St} {H H' : Hp} {ta tb tc te : TE} {t u : TT} {x y z v : V}
def lets (z : Str) : List V := z.cps.toList.map fun c => .str ⟨#[c]⟩
theorem ei_str {z : Str} (h : Ev te σ H (.str z)) : EvI (iStr te) σ H (lets z) := fun H1 e R q =>
  h H1 e _ fun H2 e2 => ⟨z, rfl, q _ H2 e2 ⟨fun _ => True, by
    have w := walk_str (z := z)
    have hl : (lets z).length = z.cps.size := by unfold lets; rw [List.length_map, Array.length_toList]
    refine ⟨fun i H hi g => w.goes i H (by rw [← hl]; exact hi) g, fun H g => by rw [hl]; exact w.stops H g, fun i H x H' hi g y => ?_⟩
    obtain ⟨e1, c, h1, h2⟩ := w.yields i H x H' (by rw [← hl]; exact hi) g y
    refine ⟨e1, ?_⟩
    unfold lets
    rw [List.getElem?_map, Array.getElem?_toList, h1, h2]
    rfl, fun _ _ => trivial⟩⟩
theorem rv_cat {a b : Str} (h : a.length + b.length ≤ sizeLine) : RV (fun x y H Q => ∃ i j, x = V.str i ∧ y = V.str j ∧ i.length + j.length ≤ sizeLine ∧ Q (.str (i ++ j)) H) (.str a) (.str b) H (.str (a ++ b)) := fun H1 _ Q q => ⟨a, b, rfl, rfl, h, q H1 (Ex.refl H1)⟩
def lettersS : Str := "abcdefghijklmnopqrstuvwxyz"
def zLs : List Str := lettersS.cps.toList.map fun c => ("z" : Str) ++ (⟨#[c]⟩ : Str)
def zNs : List V := zLs.map V.str
theorem zNs_len : zNs.length = 26 := by decide +kernel
theorem zLs_small : ∀ z ∈ zLs, z.length ≤ 2 := by decide +kernel
theorem zNs_flat : ∀ x ∈ zNs, flatV x = true := by decide +kernel
/-- the free names -/
def frN (zs : List Str) : List Str := zLs.filter fun z => !decide (z ∈ zs)
theorem range_get {α : Type} (l : List α) (d : α) : (List.range l.length).map (fun i => l.getD i d) = l := by
  apply List.ext_getElem
  · simp
  · intro i h1 h2
    rw [List.getElem_map, List.getElem_range, List.getD_eq_getElem?_getD, List.getElem?_eq_getElem h2]
    rfl
theorem given_map {α : Type} (l : List α) (p : α → Bool) (f : α → V) (d : α) : given l.length (fun i => p (l.getD i d)) (fun i => f (l.getD i d)) = (l.filter p).map f := by
  have h := range_get l d
  unfold given
  conv => rhs; rw [← h]
  rw [List.filter_map, List.map_map]
  rfl
theorem frN_given (zs : List Str) : given zNs.length (fun i => !inV (zNs.getD i .non) (zs.map V.str)) (fun i => zNs.getD i .non) = (frN zs).map V.str := by
  have h := given_map zNs (fun v => !inV v (zs.map V.str)) id .non
  refine h.trans ?_
  unfold zNs frN
  rw [List.filter_map, List.map_map]
  congr 1
  refine List.filter_congr fun z _ => ?_
  show (!inV (V.str z) (zs.map V.str)) = _
  rw [inV_strs]
theorem frN_small {zs : List Str} : ∀ z ∈ frN zs, z.length ≤ sizeLine := fun z h => by
  have := zLs_small z (List.mem_filter.mp h).1
  have : 2 ≤ sizeLine := by decide
  omega
theorem frN_len {zs : List Str} : (frN zs).length ≤ 26 := by
  have h := List.length_filter_le (fun z => !decide (z ∈ zs)) zLs
  have h2 := zNs_len
  unfold zNs at h2
  rw [List.length_map] at h2
  unfold frN
  omega
theorem lets_at {i : Nat} {x : V} (h : (lets lettersS)[i]? = some x) : ∃ c, x = .str ⟨#[c]⟩ ∧ zNs[i]? = some (.str (("z" : Str) ++ (⟨#[c]⟩ : Str))) := by
  unfold lets at h
  rw [List.getElem?_map] at h
  cases hc : lettersS.cps.toList[i]? with
  | none => rw [hc] at h; cases h
  | some c =>
    rw [hc] at h; cases h
    refine ⟨c, rfl, ?_⟩
    unfold zNs zLs
    rw [List.getElem?_map, List.getElem?_map, hc]
    rfl
end
section
variable {P : Program} {w : World} {K : PySem.W.Frag} {mg : Str → Option Value} {base : Heap}
def sp_freeG (K : PySem.W.Frag) (n : Nat) : Sp := PuL fun vs H xs => ∃ v d, vs = [v] ∧ At K H v d ∧ dpD n d = true ∧ (strsD n d).length ≤ 40000 ∧ xs = (frN (strsD n d)).map V.str
theorem l_freeG {H : Hp} {n : Nat} {v : V} {d : Dt} (h : At K H v d) (hd : dpD n d = true) (hz : (strsD n d).length ≤ 40000) : SpL (sp_freeG K n) [v] H ((frN (strsD n d)).map V.str) := spl fun H1 e => ⟨v, d, rfl, h.ex e, hd, hz, rfl⟩
theorem sc_freeG : FnScope N_free_names P_free_names (C8.fnScope s_free_names) := fnScope_by (by decide +kernel)
theorem ok_freeG (T : Txt w K mg) (n : Nat) : Cal P w K mg base (n + 2) "free_names" (sp_freeG K n) [] := by
  refine mk_cal T.d_free_names sc_freeG (fun vs H Q E h => ?_) (fun f cdv A outer s H vs Q E hr h => ?_)
  · obtain ⟨z, ⟨_, _, rfl, _⟩, _⟩ := h
    rfl
  · obtain ⟨z, ⟨v, d, rfl, hx, hd, hz, rfl⟩, k⟩ := h
    have nd := sc_freeG.nd
    refine ⟨_, pss_cons (ps_set (i := 1) nd rfl (Or.inr rfl) (pe_c (ok_strs T n) hr (Nat.le_refl _) (by rfl) (pa_cons (pv 0) pa_nil)))
      (pss_cons (ps_setLc (i := 2) (own := [("letter", 3)]) (g := gName 3) (tt := tYes) rfl nd rfl rfl (by rfl) (pi_str (pe_gc (v := .str lettersS) (by rfl) T.c_SECOND_LETTERS)) (blkOk_by (N := N_free_names) (sc := C8.fnScope s_free_names) (by decide +kernel))
          (fun _ _ _ _ _ => pg_name (i := 3) nd rfl (Or.inl rfl)) (fun _ _ _ _ _ => pts_nil) (fun _ _ _ _ _ => pe_op op_add_str pe_str (pv 3)))
      (pss_one (ps_ret (pe_lc (own := [("name", 4)]) (g := gName 4) rfl nd (pi_list (pv 2)) (blkOk_by (N := N_free_names) (sc := C8.fnScope s_free_names) (by decide +kernel))
          (fun _ _ _ _ _ => pg_name (i := 4) nd rfl (Or.inl rfl)) (fun _ _ _ _ _ => pts_one (pt_cmpR (show OpR _ (compareOp .NotIn) (rIn K true) from op_notIn_seq) (pv 4) (pv 1) (by rfl))) (fun _ _ _ _ _ => pv 4))))), ?_⟩
    refine q_asgL (el_call (ea_cons (ev_var rfl) ea_nil) (l_strs hx hd hz)) fun l1 H1 hl1 e1 h1 => ?_
    refine q_asgL (xs := zNs) (el_lcA zNs (by decide +kernel) (ei_str ev_c) (by decide +kernel) (fun _ => rfl) fun i x y H2 e2 hx hy => ?_) fun l2 H2 hl2 e2 h2 => ?_
    · obtain ⟨c, rfl, hc⟩ := lets_at hx
      rw [hy] at hc
      cases hc
      exact ev_op ev_c (ev_var rfl) (rv_cat (show 2 ≤ sizeLine by decide))
    · rw [← frN_given] at k
      refine s_retL (el_lcW (fun i => !inV (zNs.getD i .non) ((strsD n d).map V.str)) (fun i => zNs.getD i .non) (ei_list (ev_var rfl) (sq_of h2)) (by rw [zNs_len]; decide) (fun _ => rfl) (fun i x H3 e3 hx => ?_) (fun i x H3 e3 hx _ => ?_)) fun p H3 hp e3 h3 => k p H3 (fresh_back (e1.trans e2) hp) ((e1.trans e2).trans e3) h3
      · have hi : zNs.getD i .non = x := by rw [List.getD_eq_getElem?_getD, hx]; rfl
        rw [hi]
        exact et_test (ev_op (ev_var rfl) (ev_var rfl) (rv_niL (sq_of (e3 _ _ (e2 _ _ h1))) (zNs_flat x (List.mem_of_getElem? hx)) (flat_strs _)))
      · have hi : zNs.getD i .non = x := by rw [List.getD_eq_getElem?_getD, hx]; rfl
        rw [hi]
        exact ev_var rfl
end
end EE
set_option Elab.async false
set_option linter.all false
set_option maxRecDepth 100000
set_option maxHeartbeats 4000000
namespace EE
open PySem L2 Evl
open C8 (Cal cal0 pe_c pe_gc fnScope_by)
section
variable {K : PySem.W.Frag} {σ : L2.St} {H H' : Hp} {ta tb tc te : TE} {t u : TT} {x y z v : V}
/-- for g in d.items() of a locked dict -/
theorem q_forItems {d : Addr} {kvs : List (Key × V)} {i0 : Nat} {g : TG} {D : Ends} {tu tz : TS} (hv : σ[i0]? = some (some (.ref d))) (hd : H d = some (.dK kvs)) (Pv : Obj → Nat → L2.St → Hp → Prop) (h0 : ∀ od, Pv od 0 σ (Lk H d kvs od))
    (hG : ∀ od i σ' H', Pv od i σ' H' → H' d = some (.frz od (.dK kvs)))
    (hs : ∀ od i k v σ' H' T, kvs[i]? = some (k, v) → Pv od i σ' H' → H' T = none → ∀ E : Ends, (∀ σ2 H2, Pv od (i + 1) σ2 H2 → E.nx σ2 H2) → g (.ref T) σ' (upd H' T (.tup [kV k, v])) fun σ2 H2 => tu E σ2 H2)
    (k : ∀ od σ' H', Pv od kvs.length σ' H' → tz D σ' (upd H' d (.dK kvs))) : tSeq (tLock (tFor (iItems (tVar i0)) g tu)) tz D σ H :=
  ⟨d, .dK kvs, hd, trivial, fun od => ⟨.ref d, hv, d, od, kvs, rfl, upd_same, for_it walk_items (Pv od) (h0 od) (fun i σ' H' _ p => hG od i σ' H' p) (fun i x σ' H' H'' hi p y => by
    obtain ⟨T, x1, y1, rfl, hT, rfl, h1, h2⟩ := y
    replace h1 : kvs[i]?.map (fun kv => kV kv.1) = some x1 := h1
    replace h2 : kvs[i]?.map Prod.snd = some y1 := h2
    cases hk : kvs[i]? with
    | none => rw [hk] at h1; cases h1
    | some kv =>
      rw [hk] at h1 h2
      cases h1; cases h2
      exact hs od i kv.1 kv.2 σ' H' T hk p hT _ fun σ2 H2 q => q) (fun σ' H' p => ⟨hG od _ σ' H' p, k od σ' H' p⟩)⟩⟩
theorem el_callU {sp : Sp} {xs ys : List V} {E : XK} (h : EvU te σ H ys) (hs : ∀ p H1, Ex H H1 → H1 p = some (.tup ys) → SpL sp [.ref p] H1 xs) : EvL (tCall sp [] E (tCons te tNil)) σ H xs := fun H1 e Q q =>
  h H1 e _ fun p H2 hp e2 h2 => hs p H2 (e.trans e2) h2 H2 (Ex.refl H2) Q (fun p' H3 hp' e3 h3 => q p' H3 (fresh_back e2 hp') (e2.trans e3) h3) E
theorem Paired.imp {α β : Type} {R R' : α → β → Prop} (h : ∀ a b, R a b → R' a b) : ∀ {xs : List α} {ys : List β}, Paired R xs ys → Paired R' xs ys
  | [], [], .nil => .nil
  | _ :: _, _ :: _, .cons x t => .cons (h _ _ x) (Paired.imp h t)
theorem pairF_keys {H : Hp} : ∀ {fs : List (Str × Fn)} {kvs : List (Key × V)}, Paired (RepF K H) fs kvs → kvs.map (·.1) = (fs.map (·.1)).map Sum.inr
  | [], [], .nil => rfl
  | c :: cs, p :: kvs, .cons h t => by
    rw [List.map_cons, List.map_cons, List.map_cons, pairF_keys t, h.1]
theorem sqT_put {H : Hp} {p : Addr} {kvs kvs' : List (Key × V)} (hp : H p = some (.dK kvs)) {a : Addr} {xs : List V} (h : SqT K H a xs) : SqT K (upd H p (.dK kvs')) a xs := by
  rcases h with (h | ⟨o, h⟩) | h
  · exact .inl (.inl (by rw [upd_ne (fun z => by subst z; rw [hp] at h; cases h)]; exact h))
  · exact .inl (.inr ⟨o, by rw [upd_ne (fun z => by subst z; rw [hp] at h; cases h)]; exact h⟩)
  · exact .inr h
theorem paired_snoc {α β : Type} {R : α → β → Prop} {x : α} {y : β} : ∀ {xs : List α} {ys : List β}, Paired R xs ys → R x y → Paired R (xs ++ [x]) (ys ++ [y])
  | [], [], .nil, h => .cons h .nil
  | _ :: _, _ :: _, .cons g t, h => .cons g (paired_snoc t h)
theorem take_fresh {α : Type} {fs : List (Str × α)} {i : Nat} {c : Str × α} (nd : (fs.map (·.1)).Nodup) (h : fs[i]? = some c) : c.1 ∉ (fs.take i).map (·.1) := by
  intro z
  have hi : i < fs.length := (List.getElem?_eq_some_iff.mp h).1
  have e : fs = fs.take i ++ c :: fs.drop (i + 1) := by
    have := List.take_append_drop i fs
    rw [List.drop_eq_getElem_cons hi, (List.getElem?_eq_some_iff.mp h).2] at this
    exact this.symm
  rw [e, List.map_append, List.map_cons] at nd
  have := (List.nodup_append.mp nd).2.2 _ z _ (List.mem_cons_self ..)
  exact this rfl
theorem valV_fresh {α : Type} {R : Str × α → Key × V → Prop} (hk : ∀ c p, R c p → p.1 = Sum.inr c.1) {n : Str} : ∀ {cs : List (Str × α)} {kvs : List (Key × V)}, Paired R cs kvs → n ∉ cs.map (·.1) → valV kvs (Sum.inr n : Key) = none := fun {cs kvs} h hn => by
  rcases pairA_look hk n h with ⟨_, h⟩ | ⟨c, v, h1, _, _⟩
  · exact h
  · exact absurd (List.mem_map.mpr ⟨_, lookA_in h1, rfl⟩) hn
/-! data under a dict that is written, locked or unlocked -/
mutual
theorem At.put {p : Addr} {o o' : HO} (ho : (∃ kvs, o = .dK kvs) ∨ ∃ od kvs, o = .frz od (.dK kvs)) (ho' : (∃ kvs, o' = .dK kvs)) (hp : H p = some o) : ∀ {v : V} {d : Dt}, At K H v d → At K (upd H p o') v d
  | _, _, .non => .non
  | _, _, .bl b => .bl b
  | _, _, .int i => .int i
  | _, _, .str z h => .str z h
  | _, _, .tup (a := a) h r hz => .tup (by
      have ne : ∀ {o1 : HO}, H a = some o1 → (∀ kvs, o1 ≠ .dK kvs) → (∀ od kvs, o1 ≠ .frz od (.dK kvs)) → (upd H p o') a = some o1 := fun {o1} h1 h2 h3 => by
        rw [upd_ne (fun z => by
          subst z; rw [hp] at h1; cases h1
          rcases ho with ⟨kvs, e⟩ | ⟨od, kvs, e⟩
          · exact h2 _ e
          · exact h3 _ _ e)]
        exact h1
      rcases h with (h | ⟨o, h⟩) | h
      · exact .inl (.inl (ne h (fun _ z => by cases z) (fun _ _ z => by cases z)))
      · exact .inl (.inr ⟨o, ne h (fun _ z => by cases z) (fun _ _ z => by cases z)⟩)
      · exact .inr h) (AtL.put ho ho' hp r) hz
  | _, _, .lst (a := a) h => .lst (by
      have ne : ∀ {o1 : HO}, H a = some o1 → (∀ kvs, o1 ≠ .dK kvs) → (∀ od kvs, o1 ≠ .frz od (.dK kvs)) → (upd H p o') a = some o1 := fun {o1} h1 h2 h3 => by
        rw [upd_ne (fun z => by
          subst z; rw [hp] at h1; cases h1
          rcases ho with ⟨kvs, e⟩ | ⟨od, kvs, e⟩
          · exact h2 _ e
          · exact h3 _ _ e)]
        exact h1
      rcases h with (h | ⟨o, h⟩) | h
      · exact .inl (.inl (ne h (fun _ z => by cases z) (fun _ _ z => by cases z)))
      · exact .inl (.inr ⟨o, ne h (fun _ z => by cases z) (fun _ _ z => by cases z)⟩)
      · exact .inr h)
  | _, _, .dic (a := a) (kvs := kvs) h => by
    by_cases e : a = p
    · subst e
      obtain ⟨k', rfl⟩ := ho'
      exact .dic (.inl upd_same)
    · rcases h with h | ⟨o, h⟩
      · exact .dic (.inl (by rw [upd_ne e]; exact h))
      · exact .dic (.inr ⟨o, by rw [upd_ne e]; exact h⟩)
  | _, _, .odd (a := a) h => by
    by_cases e : a = p
    · subst e
      obtain ⟨k', rfl⟩ := ho'
      exact .dic (.inl upd_same)
    · rcases h with h | ⟨o, h⟩
      · exact .odd (.inl (by rw [upd_ne e]; exact h))
      · exact .odd (.inr ⟨o, by rw [upd_ne e]; exact h⟩)
theorem AtL.put {p : Addr} {o o' : HO} (ho : (∃ kvs, o = .dK kvs) ∨ ∃ od kvs, o = .frz od (.dK kvs)) (ho' : (∃ kvs, o' = .dK kvs)) (hp : H p = some o) : ∀ {vs : List V} {ds : List Dt}, AtL K H vs ds → AtL K (upd H p o') vs ds
  | _, _, .nil => .nil
  | _, _, .cons h t => .cons (At.put ho ho' hp h) (AtL.put ho ho' hp t)
end
theorem RepF.put {p : Addr} {kvs kvs' : List (Key × V)} (hp : H p = some (.dK kvs)) {c : Str × Fn} {q : Key × V} (h : RepF K H c q) : RepF K (upd H p (.dK kvs')) c q := by
  obtain ⟨h0, t, pt, bt, h1, h2, h3, h4⟩ := h
  exact ⟨h0, t, pt, bt, h1, sqT_put hp h2, sqT_put hp h3, At.put (.inl ⟨_, rfl⟩) ⟨_, rfl⟩ hp h4⟩
theorem RepF.unlock {p : Addr} {od : Obj} {kvs : List (Key × V)} (hp : H p = some (.frz od (.dK kvs))) {c : Str × Fn} {q : Key × V} (h : RepF K H c q) : RepF K (upd H p (.dK kvs)) c q := by
  obtain ⟨h0, t, pt, bt, h1, h2, h3, h4⟩ := h
  have f : ∀ a xs, SqT K H a xs → SqT K (upd H p (.dK kvs)) a xs := fun a xs h => by
    rcases h with (h | ⟨o, h⟩) | h
    · exact .inl (.inl (by rw [upd_ne (fun z => by subst z; rw [hp] at h; cases h)]; exact h))
    · exact .inl (.inr ⟨o, by rw [upd_ne (fun z => by subst z; rw [hp] at h; cases h)]; exact h⟩)
    · exact .inr h
  exact ⟨h0, t, pt, bt, h1, f _ _ h2, f _ _ h3, At.put (.inr ⟨_, _, rfl⟩) ⟨_, rfl⟩ hp h4⟩
theorem RepF.keep {f : Addr} {xs ys : List V} (hf : H f = some (.lst xs)) (e : Ex (hid f f H) H') (hf' : H' f = some (.lst ys)) {c : Str × Fn} {q : Key × V} (h : RepF K H c q) : RepF K H' c q := by
  obtain ⟨h0, t, pt, bt, h1, h2, h3, h4⟩ := h
  exact ⟨h0, t, pt, bt, h1, sqT_keep hf e h2, sqT_keep hf e h3, At.keep hf e hf' h4⟩
/-- what stands in a function, as texts -/
def fnD (fn : Fn) : Dt := .tup [.tup (fn.ps.map Dt.str), fn.blk]
abbrev frF (fn : Fn) : List Str := frN (strsD 18 (fnD fn))
/-- a plain block is no smaller -/
theorem sum_le2 {α : Type} {f g : α → Nat} : ∀ {l : List α}, (∀ x, f x ≤ g x) → (l.map f).sum ≤ (l.map g).sum
  | [], _ => Nat.le_refl _
  | x :: l, h => by
    have := h x
    have := sum_le2 (l := l) h
    rw [List.map_cons, List.sum_cons, List.map_cons, List.sum_cons]
    omega
theorem size_pl : ∀ (n : Nat) (d : Dt), sizeD n d ≤ plN n d
  | 0, d => by cases d <;> exact Nat.zero_le _
  | n + 1, .tup xs => by
    show xs.length + (xs.map fun s => ((innerD s).map (sizeD n)).sum).sum ≤ (xs.map fun s => 1 + ((innerD s).map fun b => 2 * plN n b + 1).sum).sum
    induction xs with
    | nil => exact Nat.le_refl _
    | cons s l ih =>
      have h : ((innerD s).map (sizeD n)).sum ≤ ((innerD s).map fun b => 2 * plN n b + 1).sum := sum_le2 fun b => by have := size_pl n b; omega
      rw [List.map_cons, List.sum_cons, List.map_cons, List.sum_cons, List.length_cons]
      omega
  | n + 1, .non => Nat.zero_le _
  | n + 1, .bl _ => Nat.zero_le _
  | n + 1, .int _ => Nat.zero_le _
  | n + 1, .str _ => Nat.zero_le _
  | n + 1, .oth => Nat.zero_le _
/-- a right block -/
structure RightBk (fn : Fn) : Prop where
  wf : wfB 6 fn.blk = true
  dp : dpD 17 fn.blk = true
  tx : (strsD 18 (fnD fn)).length ≤ 40000
  pl : plN 6 fn.blk ≤ 39000
  la : lastsD 6 fn.blk ≤ (frF fn).length
def plF (c : Str × Fn) : Str × Fn := (c.1, ⟨c.2.ps, c.2.lvl, .tup (plB 6 c.2.blk (frF c.2)).1⟩)
theorem at_names {a : Addr} {zs : List Str} (h : SqT K H a (zs.map V.str)) (hz : ∀ z ∈ zs, z.length ≤ sizeLine) (hl : zs.length ≤ 40000) : At K H (.ref a) (.tup (zs.map Dt.str)) := by
  refine .tup h ?_ (by rw [List.length_map]; exact hl)
  clear h hl
  induction zs with
  | nil => exact .nil
  | cons z zs ih => exact .cons (.str z (hz z (List.mem_cons_self ..))) (ih fun y hy => hz y (List.mem_cons_of_mem _ hy))
theorem dp_fn {fn : Fn} (h : dpD 17 fn.blk = true) : dpD 18 (fnD fn) = true := by
  refine dp_tup.mpr fun y hy => ?_
  rcases List.mem_cons.mp hy with rfl | hy
  · exact dp_tup.mpr fun y hy => by
      obtain ⟨z, _, rfl⟩ := List.mem_map.mp hy
      rfl
  · rw [List.mem_singleton.mp hy]; exact h
theorem at_fn {p pt bt : Addr} {fn : Fn} (h : SqT K H p [.ref pt, .ref bt]) (h1 : SqT K H pt (fn.ps.map V.str)) (h2 : RepB K H bt fn.blk) (hr : RightFn fn) : At K H (.ref p) (fnD fn) :=
  .tup h (.cons (at_names h1 (fun z hz => (hr.ps.1 z hz).2) (by have := hr.ps.2.2; omega)) (.cons h2 .nil)) (show 2 ≤ 40000 by decide)
def sp_plF (K : PySem.W.Frag) : Sp := fun vs H Q _ => ∃ b fs, vs = [.ref b] ∧ RepFD K H b fs ∧ RightFs fs ∧ (∀ c ∈ fs, RightBk c.2) ∧ ∀ p H2, H p = none → Ex H H2 → RepFD K H2 p (fs.map plF) → Q (.ref p) H2
end
section
variable {P : Program} {w : World} {K : PySem.W.Frag} {mg : Str → Option Value} {base : Heap} {sa : Addr} {rs : Str → Addr}
theorem sc_plF : FnScope N_plain_functions P_plain_functions (C8.fnScope s_plain_functions) := fnScope_by (by decide +kernel)
theorem ok_plF (T : TxtE w K mg) (S : Shp w K mg sa rs) : Cal P w K mg base 21 "plain_functions" (sp_plF K) [] := by
  refine mk_cal T.d_plain_functions sc_plF (fun vs H Q E h => ?_) (fun f cdv A outer s H vs Q E hr h => ?_)
  · obtain ⟨_, _, rfl, _⟩ := h
    rfl
  · obtain ⟨b, fs, rfl, hf, hfr, hbk, k⟩ := h
    have nd := sc_plF.nd
    have hu := hu_of hr
    refine ⟨_, pss_cons (ps_set (i := 1) nd rfl (Or.inl rfl) pe_dnewK)
      (pss_cons (ps_lock (ps_for PassesOwn.never rfl (pi_items (pv 0)) (pg_tup (by rfl) (pgs_cons (pg_name (i := 2) nd rfl (Or.inl rfl)) (pgs_cons (pg_tup (by rfl) (pgs_cons (pg_name (i := 3) nd rfl (Or.inl rfl)) (pgs_cons (pg_name (i := 4) nd rfl (Or.inl rfl)) (pgs_cons (pg_name (i := 5) nd rfl (Or.inl rfl)) pgs_nil)))) pgs_nil)))
        (pss_cons (ps_set (i := 6) nd rfl (Or.inl rfl) (pe_c (ok_freeG T.toTxtG.toTxt 18) hr (by decide) (by rfl) (pa_cons (pe_tup (pa_cons (pv 3) (pa_cons (pv 5) pa_nil))) pa_nil)))
        (pss_cons (ps_if (pt_cmpR op_gt (pe_c (ok_lastsG T.toTxtS S 6) hr (by decide) (by rfl) (pa_cons (pv 5) pa_nil)) (pe_callB call_len_seq (by rfl) T.len (by decide +kernel) (pa_cons (pv 6) pa_nil)) (nomark _)) (pss_one ps_never) pss_nil)
        (pss_one (ps_dput hu (pv 1) (pv 2) (pe_tup (pa_cons (pv 3) (pa_cons (pv 4) (pa_cons (pe_c (ok_wl T S 6) hr (by decide) (by rfl) (pa_cons (pv 5) (pa_cons (pv 6) pa_nil))) pa_nil)))) (by rfl)))))))
      (pss_one (ps_ret (pv 1)))), ?_⟩
    obtain ⟨kvs, f1, f2⟩ := hf
    refine q_asgD ed_new fun p H1 hp e1 h1 => ?_
    have hpb : p ≠ b := fun z => by subst z; rw [f1] at hp; cases hp
    have hLp : ∀ od, Lk H b kvs od p = none := fun od => by unfold Lk; rw [upd_ne hpb]; exact hp
    have eL : ∀ od, Ex (Lk H b kvs od) (Lk H1 b kvs od) := fun od a o ha => by
      unfold Lk at ha ⊢
      by_cases hab : a = b
      · subst hab; rw [upd_same] at ha ⊢; exact ha
      · rw [upd_ne hab] at ha ⊢; exact e1 a o ha
    refine q_forItems (d := b) (kvs := kvs) rfl (e1 _ _ f1) (fun od i σ' H' => (∃ v2 v3 v4 v5 v6, σ' = [some (.ref b), some (.ref p), v2, v3, v4, v5, v6]) ∧ Ex (Lk H b kvs od) H' ∧ ∃ pk, H' p = some (.dK pk) ∧ Paired (RepF K H') ((fs.take i).map plF) pk)
      (fun od => ⟨⟨_, _, _, _, _, rfl⟩, eL od, [], by unfold Lk; rw [upd_ne hpb]; exact h1, .nil⟩) (fun od i σ' H' q => Lk.at q.2.1) ?_ ?_
    · rintro od i ky v σ' H' Tp hi ⟨⟨v2, v3, v4, v5, v6, rfl⟩, p1, pk, p2, p3⟩ hT D hD
      obtain ⟨c, hc, hrep⟩ : ∃ c, fs[i]? = some c ∧ RepF K H c (ky, v) := by
        have hv : (kvs.map fun p => p.2)[i]? = some v := by rw [List.getElem?_map, hi]; rfl
        obtain ⟨c, h1, h2⟩ := pairA_get keyF f2 hv
        have hk2 : (kvs.map (·.1))[i]? = some ky := by rw [List.getElem?_map, hi]; rfl
        rw [pairF_keys f2, List.getElem?_map, List.getElem?_map, h1] at hk2
        cases hk2
        exact ⟨c, h1, h2⟩
      have hrep : RepF K (upd H' Tp (.tup [kV ky, v])) c (ky, v) := hrep.le ((Le.lock f1).trans (Le.of (p1.trans (Ex.new hT))))
      obtain ⟨h0, t, pt, bt, rfl, g1, g2, g3⟩ := hrep
      replace h0 : ky = Sum.inr c.1 := h0
      subst h0
      have cr := hfr.fn c (List.mem_of_getElem? hc)
      have ck := hbk c (List.mem_of_getElem? hc)
      refine ⟨Tp, _, rfl, st_of upd_same, rfl, _, _, rfl, _, _, rfl, ⟨t, _, rfl, g1, rfl, _, _, rfl, _, _, rfl, _, _, rfl, rfl, rfl, ?_⟩⟩
      generalize hH2 : upd H' Tp (.tup [kV (Sum.inr c.1), .ref t]) = H2 at g1 g2 g3
      have e2 : Ex H' H2 := by rw [← hH2]; exact Ex.new hT
      have p2' : H2 p = some (.dK pk) := e2 _ _ p2
      refine q_asgL (el_callU (eu_tup (ea_cons (ev_var rfl) (ea_cons (ev_var rfl) ea_nil)) (show 2 ≤ 100000 by decide)) fun q H3 e3 h3 => l_freeG (at_fn (st_of h3) (ex_t e3 g2) (g3.le (Le.of e3)) cr) (dp_fn ck.dp) ck.tx) fun l H3 hl e3 h3 => ?_
      refine q_no (et_test (ev_is (ev_op (ev_call (ea_cons (ev_var rfl) ea_nil) (v_lasts (g3.le (Le.of e3)) ck.wf (by have := size_pl 6 c.2.blk; have := ck.pl; omega))) (ev_cb (ea_cons (ev_var rfl) ea_nil) (rc_lenS (.inl (sq_of h3)))) rv_I0) (by
        have := (show lastsD 6 c.2.blk ≤ (frN (strsD 18 (fnD c.2))).length from ck.la)
        congr 1
        rw [List.length_map]
        exact decide_eq_false (by omega)))) fun H4 e4 => ?_
      have hlp : p ≠ l := fun z => by subst z; rw [p2'] at hl; cases hl
      have f4 : FreeAt H4 l (frF c.2) := e4 _ _ h3
      refine ⟨_, rfl, _, rfl, _, rfl, _, rfl, .ref bt, l, c.2.blk, frF c.2, rfl, g3.le (Le.of (e3.trans e4)), ck.wf, f4, frN_small, ck.la, ck.pl, fun bn ws H5 e5 h5 hs5 hr5 => ⟨(show 3 ≤ sizeLine by decide), fun tn htn => ?_⟩⟩
      have p5 : H5 p = some (.dK pk) := e5 _ _ (by rw [hid_ne hlp hlp]; exact e4 _ _ (e3 _ _ p2'))
      have hl0 : Lk H b kvs od l = none := fresh_back (p1.trans e2) hl
      have b5 : Ex (Lk H b kvs od) H5 := (ex_hid (((p1.trans e2).trans e3).trans e4) hl0 hl0).trans e5
      have e6 : Ex H5 (upd H5 tn (.tup [.ref pt, .int c.2.lvl, .ref bn])) := Ex.new htn
      have p6 := e6 _ _ p5
      have nf : valV pk (Sum.inr c.1 : Key) = none := valV_fresh keyF p3 (by
        have := take_fresh hfr.nd hc
        rwa [List.map_map])
      have hpl : pk.length = ((fs.take i).map plF).length := (Paired.length p3).symm
      have hpl2 : ((fs.take i).map plF).length ≤ 12 := by rw [List.length_map, List.length_take]; have := hfr.len.2; omega
      refine ⟨_, rfl, _, rfl, p, _, rfl, DPut.k (k := Sum.inr c.1) p6 (sz_lt (by omega)), hD _ _ ⟨⟨_, _, _, _, _, rfl⟩, Ex.mut (b5.trans e6) (hLp od), _, upd_same, ?_⟩⟩
      rw [putK_new _ nf, List.take_add_one, hc, Option.toList_some, List.map_append, List.map_singleton]
      have hwl : ws.length ≤ 40000 := by
        have h1 := hr5.len
        have h2 := plB_len ck.wf (frF c.2)
        have h3 := ck.pl
        omega
      refine paired_snoc (Paired.imp (fun _ _ r => RepF.put p6 (RepF.le (Le.of e6) (RepF.keep f4 e5 h5 (RepF.le (Le.of ((e2.trans e3).trans e4)) r)))) p3) (RepF.put p6 ⟨rfl, tn, pt, bn, rfl, st_of upd_same, ex_t e6 (sqT_keep f4 e5 (ex_t (e3.trans e4) g2)), ?_⟩)
      exact At.ex e6 (.tup hs5 hr5 hwl)
    · rintro od σ' H' ⟨⟨v2, v3, v4, v5, v6, rfl⟩, p1, pk, p2, p3⟩
      have e0 : Ex H (upd H' b (.dK kvs)) := Lk.back f1 p1
      have p2' : upd H' b (.dK kvs) p = some (.dK pk) := by rw [upd_ne hpb]; exact p2
      have hlen : kvs.length = fs.length := (Paired.length f2).symm
      rw [hlen, List.take_length] at p3
      exact s_ret (v := .ref p) (ev_var rfl) fun H2 e2 => k p H2 hp (e0.trans e2) ⟨pk, e2 _ _ p2', Paired.imp (fun _ _ r => RepF.le (Le.of e2) (RepF.unlock (Lk.at p1) r)) p3⟩
end
end EE
set_option Elab.async false
set_option linter.all false
set_option maxRecDepth 100000
set_option maxHeartbeats 4000000
namespace EE
open PySem L2 Evl
open C8 (Cal cal0 pe_c pe_gc fnScope_by)
section
variable {J : It} {n : Nat} {G : Hp → Prop} {Y : Nat → Hp → V → Hp → Prop}
/-- a dict comprehension over a walk -/
theorem dc_it (w : Walk J n G Y) {g : TG} {tt : TT} {tk tv : TE} {vs : List Nat} {σ : L2.St} {H1 : Hp} {D : Addr} {Qd : Hp → Prop} (Pv : Nat → Hp → Prop) (h0 : Pv 0 (upd H1 D (.dK []))) (hG : ∀ i H, i ≤ n → Pv i H → G H)
    (hs : ∀ i x H H', i < n → Pv i H → Y i H x H' → g x (wipe σ vs) H' fun σ2 H2 => wipe σ2 vs = wipe σ vs ∧ tt σ2 H2 fun b H3 =>
      if b = true then tk σ2 H3 fun y H4 => tv σ2 H4 fun z H5 => ∃ kvs k, y = kV k ∧ H5 D = some (.dK kvs) ∧ kvs.length < sizeLine ∧ Pv (i + 1) (upd H5 D (.dK (putK kvs k z))) else Pv (i + 1) H3) (hd : ∀ H, Pv n H → Qd H) :
    ∃ W : Nat → Nat → Hp → Prop, (∃ m, W 0 m (upd H1 D (.dK []))) ∧ ∀ i m H, W i m H →
      (J.stop i H ∧ Qd H) ∨ (J.go i H ∧ ∃ Nx : Hp → Prop, (∀ H', Nx H' → ∃ m', m' < m ∧ W (i + 1) m' H') ∧ ∀ x H', J.yld i H x H' → g x (wipe σ vs) H' fun σ2 H2 => wipe σ2 vs = wipe σ vs ∧ tt σ2 H2 fun b H3 =>
        if b = true then tk σ2 H3 fun y H4 => tv σ2 H4 fun z H5 => ∃ kvs k, y = kV k ∧ H5 D = some (.dK kvs) ∧ kvs.length < sizeLine ∧ Nx (upd H5 D (.dK (putK kvs k z))) else Nx H3) := by
  refine ⟨fun i m H => m = n - i ∧ i ≤ n ∧ Pv i H, ⟨n, by simp, Nat.zero_le _, h0⟩, ?_⟩
  rintro i m H ⟨rfl, hi, p⟩
  have q := hG i H hi p
  by_cases hlt : i < n
  · exact .inr ⟨w.goes i H hlt q, Pv (i + 1), fun H' p' => ⟨n - (i + 1), by omega, rfl, hlt, p'⟩, fun x H' y => hs i x H H' hlt p (w.yields i H x H' hlt q y)⟩
  · have e : i = n := by omega
    subst e
    exact .inl ⟨w.stops H q, hd H p⟩
end
section
variable {K : PySem.W.Frag} {σ : L2.St} {H H' : Hp} {ta tb tc te tv : TE} {t u : TT} {x y z v : V}
theorem keys_fresh {R : Str → Key × V → Prop} (hk : ∀ c p, R c p → p.1 = Sum.inr c) {n : Str} : ∀ {cs : List Str} {kvs : List (Key × V)}, Paired R cs kvs → n ∉ cs → valV kvs (Sum.inr n : Key) = none
  | [], [], .nil, _ => rfl
  | c :: cs, p :: kvs, .cons h t, hn => by
    have e : ¬ p.1 = (Sum.inr n : Key) := fun z => by
      rw [hk _ _ h] at z
      exact hn (by rw [Sum.inr.inj z]; exact List.mem_cons_self ..)
    rw [valV_neg e]
    exact keys_fresh hk t (fun z => hn (List.mem_cons_of_mem _ z))
theorem takes_fresh {ks : List Str} {i : Nat} {c : Str} (nd : ks.Nodup) (h : ks[i]? = some c) : c ∉ ks.take i := by
  intro z
  have hi : i < ks.length := (List.getElem?_eq_some_iff.mp h).1
  have e : ks = ks.take i ++ c :: ks.drop (i + 1) := by
    have := List.take_append_drop i ks
    rw [List.drop_eq_getElem_cons hi, (List.getElem?_eq_some_iff.mp h).2] at this
    exact this.symm
  rw [e] at nd
  exact (List.nodup_append.mp nd).2.2 _ z _ (List.mem_cons_self ..) rfl
/-- {n: .. for n in d}: the values new objects as U tells, or of no matter -/
def DcOut (N : Addr → Prop) (H : Hp) (U : Str → Option HO) (n : Str) (kv : Key × V) : Prop := kv.1 = Sum.inr n ∧ ∀ u, U n = some u → ∃ a, kv.2 = .ref a ∧ N a ∧ H a = some u
theorem DcOut.ex {N : Addr → Prop} {U : Str → Option HO} {n : Str} {kv : Key × V} (e : Ex H H') (h : DcOut N H U n kv) : DcOut N H' U n kv := ⟨h.1, fun u hu => let ⟨a, h1, h3, h2⟩ := h.2 u hu; ⟨a, h1, h3, e _ _ h2⟩⟩
theorem q_dcKeys {d : Addr} {kvs : List (Key × V)} {ks : List Str} {i j : Nat} {vs : List Nat} {Q : VK} (hv : σ[i]? = some (some (.ref d))) (hd : H d = some (.dK kvs)) (hk : kvs.map (·.1) = ks.map Sum.inr) (nd : ks.Nodup) (hz : ks.length ≤ 1000)
    (hw : ∀ x, wipe ((wipe σ vs).set j (some x)) vs = wipe σ vs) (hj : ∀ x, ((wipe σ vs).set j (some x))[j]? = some (some x)) (U : Str → Option HO) (hU : ∀ n u, U n = some u → ∀ o x, u ≠ .frz o x) (N : Addr → Prop) (hN : ∀ a, H a = none → N a)
    (body : ∀ od n, n ∈ ks → ∀ H1, Ex (Lk H d kvs od) H1 → ∀ Q : VK, (∀ v H2, Ex H1 H2 → (∀ u, U n = some u → ∃ a, v = .ref a ∧ H1 a = none ∧ H2 a = some u) → Q v H2) → tv ((wipe σ vs).set j (some (.str n))) H1 Q)
    (k : ∀ p H2 out, H p = none → Ex H H2 → H2 p = some (.dK out) → Paired (DcOut N H2 U) ks out → Q (.ref p) H2) :
    tLockE (tDc (iKeys (tVar i)) (gName j) tYes (tVar j) tv vs) σ H Q :=
  ⟨d, .dK kvs, hd, trivial, fun od => ⟨.ref d, hv, d, od, rfl, .inl ⟨kvs, upd_same, fun D hD => by
    have hDd : D ≠ d := fun z => by subst z; rw [upd_same] at hD; cases hD
    have hD0 : H D = none := by rw [upd_ne hDd] at hD; exact hD
    have hlen : kvs.length = ks.length := by have := congrArg List.length hk; rw [List.length_map, List.length_map] at this; exact this
    refine dc_it (walk_keys (d := d) (o := od) (kvs := kvs)) (fun i H' => Ex (Lk H d kvs od) H' ∧ ∃ out, H' D = some (.dK out) ∧ Paired (fun n (kv : Key × V) => kv.1 = Sum.inr n ∧ ∀ u, U n = some u → ∃ a, kv.2 = .ref a ∧ N a ∧ a ≠ D ∧ H' a = some u) (ks.take i) out)
      ⟨Ex.new hD, [], upd_same, .nil⟩ (fun i H' _ p => Lk.at p.1) (fun i x H' H'' hi p y => ?_) fun H' p => ?_
    · obtain ⟨rfl, k1, v1, hkv, rfl⟩ := y
      obtain ⟨p1, out, p2, p3⟩ := p
      obtain ⟨n, hn, hk1⟩ : ∃ n, ks[i]? = some n ∧ k1 = Sum.inr n := by
        have e : (kvs.map (·.1))[i]? = some k1 := by rw [List.getElem?_map, hkv]; rfl
        rw [hk, List.getElem?_map] at e
        cases hh : ks[i]? with
        | none => rw [hh] at e; cases e
        | some n => rw [hh] at e; cases e; exact ⟨n, rfl, rfl⟩
      subst hk1
      have hmem : n ∈ ks := List.mem_of_getElem? hn
      refine ⟨hw _, ?_⟩
      dsimp only [tYes]
      rw [if_pos rfl]
      refine ⟨_, hj _, body od n hmem _ p1 _ fun v2 H2 e2 hu2 => ⟨out, Sum.inr n, rfl, e2 _ _ p2, ?_, Ex.mut (p1.trans e2) hD, _, upd_same, ?_⟩⟩
      · have := Paired.length p3
        rw [List.length_take] at this
        exact sz_lt (by omega)
      · rw [putK_new _ (keys_fresh (fun _ _ r => r.1) p3 (takes_fresh nd hn)), List.take_add_one, hn, Option.toList_some]
        exact paired_snoc (Paired.imp (fun n' kv r => ⟨r.1, fun u hu => by
            obtain ⟨a, q1, qN, q2, q3⟩ := r.2 u hu
            exact ⟨a, q1, qN, q2, by rw [upd_ne q2]; exact e2 _ _ q3⟩⟩) p3) ⟨rfl, fun u hu => by
          obtain ⟨a, q1, q2, q3⟩ := hu2 u hu
          have hne : a ≠ D := fun z => by subst z; rw [p2] at q2; cases q2
          have qa := fresh_back p1 q2
          have had : a ≠ d := fun z => by subst z; rw [Lk, upd_same] at qa; cases qa
          exact ⟨a, q1, hN a (by rw [Lk, upd_ne had] at qa; exact qa), hne, by rw [upd_ne hne]; exact q3⟩⟩
    · obtain ⟨p1, out, p2, p3⟩ := p
      refine ⟨Lk.at p1, k D _ out hD0 (Lk.back hd p1) (by rw [upd_ne hDd]; exact p2) ?_⟩
      rw [hlen, List.take_length] at p3
      refine Paired.imp (fun n' kv r => ⟨r.1, fun u hu => ?_⟩) p3
      obtain ⟨a, q1, qN, q2, q3⟩ := r.2 u hu
      exact ⟨a, q1, qN, by rw [upd_ne (fun z => by subst z; rw [Lk.at p1] at q3; cases q3; exact hU n' _ hu _ _ rfl)]; exact q3⟩⟩⟩⟩
end
end EE
set_option Elab.async false
set_option linter.all false
set_option maxRecDepth 100000
set_option maxHeartbeats 4000000
/-! enumerate(t), t a tuple -/
namespace EE
open PySem PySem.Spec PyProof.Rows L2
set_option maxHeartbeats 1000000 in
theorem meets_enum1 {v : Value} {o : Obj} {H : Heap → Prop} (B : Begins v o H) :
    Meets (Builtin.«enumerate.__new__» ⟨[.type "enumerate", v], []⟩) (fun _ R s => H s.heap ∧ R (.ok (.ret (.ref (s.heap.push o).objs.size)))
      { s with heap := (s.heap.push o).push { cls := .type "enumerate", data := .fields #[.none, .bool false, .ref s.heap.objs.size, rawInt 0, .none, .none] } }) := .of_wp fun prog w A R s h => by
  obtain ⟨hp, g, d, tk, os⟩ := s
  obtain ⟨h1, h⟩ := h
  have hsub := sub_enumerate
  have q2 : ∀ {A' : Around} {E : Value → Shared → Prop} {Q : Value → Shared → Prop}, Q (.ref hp.objs.size) ⟨hp.push o, g, d, tk, os⟩ → wpAny (model prog w) A' (pyIter v) Q E ⟨hp, g, d, tk, os⟩ := fun q => B.iter prog w _ _ ⟨hp, g, d, tk, os⟩ _ h1 q
  wp_walk using q2
  refine wpAny_stack_any fun st => wpAny_pure ?_
  split
  · rename_i c _ _ _ _ _
    cases (c == Value.type "enumerate") <;> (wp_walk using q2; exact ⟨_, rfl, h⟩)
  · wp_walk using q2
    exact ⟨_, rfl, h⟩
section
variable {prog : Program} {w : World} {A : Around} {E : Value → Shared → Prop} {s : Shared}
theorem enum1_begins {v : Value} {o : Obj} {H : Heap → Prop} {Q : Value → Shared → Prop} (B : Begins v o H) (h1 : H s.heap)
    (h : ∀ h', IsEnum h' (s.heap.objs.size + 1) s.heap.objs.size 0 .none → h'.get? s.heap.objs.size = some o → h'.objs.size = s.heap.objs.size + 2 → (∀ b o, s.heap.get? b = some o → h'.get? b = some o) → Q (.ref (s.heap.objs.size + 1)) { s with heap := h' }) :
    wpAny (model prog w) A (call (.type "enumerate") [v]) Q E s := by
  refine callType_new F.called_enumerate (by decide) (F.typeCall_enumerate_1 _) (F.newCall_enumerate_1 _) (fun obj => F.args_object_init_2 obj _) F.entry_enumerate_new (meets_enum1 B) ⟨h1, ?_⟩
  have hz : (s.heap.push o).objs.size = s.heap.objs.size + 1 := Heap.size_push ..
  show _ ∧ _
  rw [hz]
  have he : IsEnum ((s.heap.push o).push { cls := .type "enumerate", data := .fields #[.none, .bool false, .ref s.heap.objs.size, rawInt 0, .none, .none] }) (s.heap.objs.size + 1) s.heap.objs.size 0 .none := by
    have e := Heap.get?_push_size (s.heap.push o) (o := { cls := .type "enumerate", data := .fields #[.none, .bool false, .ref s.heap.objs.size, rawInt 0, .none, .none] }) rfl
    rw [hz] at e
    exact e
  exact ⟨⟨_, he, rfl⟩, h _ he (Heap.get?_push_of_some _ (Heap.get?_push_size _ B.free)) (by rw [Heap.size_push, hz]) fun b o x => Heap.get?_push_of_some _ (Heap.get?_push_of_some _ x)⟩
end
def IteT (K : PySem.W.Frag) (a : Addr) : It :=
  ⟨fun i H => ∃ (xs : List V) (x : V), SqT K H a xs ∧ xs[i]? = some x, fun i H v H' => ∃ T x, v = .ref T ∧ H T = none ∧ H' = upd H T (.tup [.int (i : Nat), x]) ∧ ∀ xs, SqT K H a xs → xs[i]? = some x, fun i H => ∃ xs : List V, SqT K H a xs ∧ xs.length = i⟩
theorem turn_enumT {P : Program} {w : World} {K : PySem.W.Frag} {elts : List Expr} {kk : Nat} {tpos : Pos} (a e it : Addr) :
    Turn P w K (.Tuple elts kk tpos) (IteT K a) [e, it] e (fun i h => (∃ old, IsEnum h e it ((i : Nat) : Int) old) ∧ h.IsTupleIter it a i ∧ e ≠ it ∧ a ≠ it ∧ a ≠ e) where
  mem := by simp
  obj := fun i h st b hb => by
    obtain ⟨⟨old, he⟩, ⟨o, ho, hc, hd⟩, _⟩ := st
    have e' : b = e ∨ b = it := by simpa using hb
    rcases e' with z | z
    · subst z; exact ⟨_, he, fun v q => nomatch q⟩
    · subst z; exact ⟨o, ho, fun v q => by rw [hd] at q; cases q⟩
  keep := fun i h h' st k => let ⟨⟨old, he⟩, hi, hne⟩ := st; ⟨⟨old, k e (by simp) _ he⟩, hi.at fun o q => k it (by simp) o q, hne⟩
  item := by
    intro X hP hw hK hc i pins s σ H E I hf st hg
    subst hP hw hK
    obtain ⟨⟨old, he⟩, hit, hne, hai, hae⟩ := st
    obtain ⟨xs, x, hq, hx⟩ := hg
    obtain ⟨its, rv, p, hz⟩ := I.tuple hq
    obtain ⟨u, hu, ru⟩ := rv.get hx
    have hel : e < s.heap.objs.size := Heap.lt_size he
    have hil : it < s.heap.objs.size := by obtain ⟨_, q, _⟩ := hit; exact Heap.lt_size q
    have hlt : i < its.toArray.size := by rw [List.size_toArray]; exact (List.getElem?_eq_some_iff.mp hu).1
    refine wpAny_pyNext_enum_itemC (Draws.tuple (A := X.A.in1) (by simp [I.ok.hd hc]) it a hai its.toArray) he ⟨hit, p⟩ hlt hne (by simp [hne, Ne.symm hae]) fun x' h' tk hx' ho hst' hT hsz hk => ?_
    obtain rfl : u = x' := by
      have : its.toArray[i]? = some x' := hx'
      rw [List.getElem?_toArray, hu] at this
      exact Option.some.inj this
    refine ⟨_, rfl, wpAny_letOwnedTupleGo_enum (s := { s with heap := h', toks := tk + 1 }) ho fun h'' he' sb => ?_⟩
    have hT2 : h''.get? s.heap.objs.size = some { cls := .type "tuple", data := .seq #[.int i tk, u] } := (sb.2 _ (Nat.ne_of_gt hel)).trans hT
    have new : ObjOk X.prog X.w (upd H s.heap.objs.size (.tup [.int (i : Nat), x])) h'' s.heap.objs.size (.tup [.int (i : Nat), x]) :=
      ⟨by show 2 ≤ sizeLine; decide, [.int i tk, u], .cons ⟨_, rfl⟩ (.cons ru .nil), ⟨_, hT2, rfl, _, rfl⟩⟩
    have I1 : Inv X pins σ (upd H s.heap.objs.size (.tup [.int (i : Nat), x])) { s with heap := h'', toks := tk + 1 } :=
      I.turnedNew (ch := [e, it]) (fun b ob hb q => (sb.2 b (fun z => hb (by simp [z]))).trans (hk b ob (fun z => hb (by simp [z])) (fun z => hb (by simp [z])) q)) hf (Nat.le_refl _) new
    refine ⟨.ref s.heap.objs.size, _, I1, rfl, ⟨_, x, rfl, I.hok.fresh (Nat.le_refl _), rfl, fun ys hy => by rw [I.tuple_inj hy hq]; exact hx⟩, ⟨⟨u, ?_⟩, hst'.1.at fun o q => (sb.2 it (Ne.symm hne)).trans q, hne, hai, hae⟩, fun b hb => ?_⟩
    · have e1 : ((i + 1 : Nat) : Int) = (i : Int) + 1 := by omega
      rw [e1]; exact he'
    · have hb' : b < s.heap.objs.size := by
        have e' : b = e ∨ b = it := by simpa using hb
        rcases e' with z | z
        · subst z; exact hel
        · subst z; exact hil
      rw [upd_ne (Nat.ne_of_lt hb')]
      exact (hf b hb).1
  done := by
    intro X hP hw hK hc i pins s σ H E I hf st hg
    subst hP hw hK
    obtain ⟨⟨old, he⟩, hit, hne, hai, hae⟩ := st
    obtain ⟨xs, hq, hx⟩ := hg
    obtain ⟨its, rv, p, hz⟩ := I.tuple hq
    obtain ⟨f0, f1, f2, f3, f4, f5⟩ := hf it (by simp)
    have hl : its.toArray.size = i := by rw [List.size_toArray, ← rv.length]; exact hx
    have D := Draws.tuple (prog := X.prog) (w := X.w) (A := X.A.in1) (by simp [I.ok.hd hc]) it a hai its.toArray
    rw [hl] at D
    exact wpAny_pyNext_enum_endD D he ⟨hit, p⟩ fun h' eb => ⟨rfl, I.turned (t' := s.toks) (fun b o hb q => eb b o hb q) f0 f1 f3 f4 f5⟩
  self := fun A i s Q E st h => let ⟨⟨_, he⟩, _⟩ := st; wpAny_pyIter_enum he h
def iEnumT (K : PySem.W.Frag) (ta : TA) : TI := fun σ H R => ta σ H fun vs H1 => ∃ a xs, vs = [.ref a] ∧ SqT K H1 a xs ∧ R (IteT K a) H1
theorem pi_enumT {X : Cx} {e : Expr} {ta : TA} {p pos tpos : Pos} {elts : List Expr} {kk : Nat} (hg : Gl X "enumerate") (hm : X.mg "enumerate" = none) (ha : PA X [e] ta) (hs : starEach [e] X.env = [(false, eval e X.env)] := by rfl) :
    PI X (.Tuple elts kk tpos) (.Call (.Name "enumerate" p) [e] [] pos) (iEnumT X.K ta) := by
  refine ⟨fun pins s σ H R I h => Call_ (ld_blt I hg hm boot_enumerate (PyProof.Rows.callWith_type1 (thn (ha.run pos pins s σ H _ I h) fun us s1 ⟨vs, H1, I1, r1, q1⟩ => ?_) hs rfl))⟩
  obtain ⟨a, xs, rfl, hq, q⟩ := q1
  cases r1 with
  | cons r rr =>
    cases rr
    cases r
    obtain ⟨its, rv, p', hz⟩ := I1.tuple hq
    refine enum1_begins (begins_tuple a its.toArray) p' fun h' he hit hsz hk => wpAny_pyIter_enum he ?_
    have I2 : Inv X pins σ H1 { s1 with heap := h' } := I1.kept (t' := s1.toks) hk
    have hlt : a < s1.heap.objs.size := by obtain ⟨_, z, _⟩ := p'; exact Heap.lt_size z
    refine ⟨s1.heap.objs.size + 1, [s1.heap.objs.size + 1, s1.heap.objs.size], _, _, H1, rfl, I2, turn_enumT a (s1.heap.objs.size + 1) s1.heap.objs.size,
      ⟨⟨.none, he⟩, ⟨_, hit, rfl, rfl⟩, Nat.succ_ne_self _, Nat.ne_of_lt hlt, Nat.ne_of_lt (Nat.lt_succ_of_lt hlt)⟩, fun b hb => ?_, q⟩
    have hle : s1.heap.objs.size ≤ b := by
      have e' : b = s1.heap.objs.size + 1 ∨ b = s1.heap.objs.size := by simpa using hb
      rcases e' with z | z
      · rw [z]; exact Nat.le_add_right _ _
      · rw [z]; exact Nat.le_refl _
    exact I1.fpOk hle (I1.hok.fresh hle)
theorem walk_enumT {K : PySem.W.Frag} {a : Addr} {xs : List V} : Walk (IteT K a) xs.length (fun H => SqT K H a xs) (YPair (fun i => some (.int (i : Nat))) (fun i => xs[i]?)) := by
  refine ⟨fun i _ hi q => ⟨xs, xs[i], q, by simp [hi]⟩, fun _ q => ⟨xs, q, rfl⟩, fun i H v H' _ q y => ?_⟩
  obtain ⟨T, x, h1, h2, h3, h4⟩ := y
  exact ⟨T, .int (i : Nat), x, h1, h2, h3, rfl, h4 xs q⟩
end EE
set_option Elab.async false
set_option linter.all false
set_option maxRecDepth 100000
set_option maxHeartbeats 4000000
namespace EE
open PySem L2 Evl
open C8 (Cal Mak cal0 mak0 pe_c pe_mk pe_gc fnScope_by)
/-- a class that is made by its name -/
structure MkC (K : PySem.W.Frag) (mg : Str → Option Value) (x qual : Str) (st : Stmt) (ps fields : List Str) (C : Addr) : Prop where
  mgc : mg x = some (.ref C)
  cls : Cls K C
  ex : ∃ f fd, Mk K C f ∧ C8.Fun K "__init__" qual st f fd ∧ Binds K fd ps []
  no : ∀ n ∈ fields, NoAttr K C n
abbrev F_Spot : List Str := ["statement", "expressions", "after", "first", "second", "catch"]
structure TxtL (w : World) (K : PySem.W.Frag) (mg : Str → Option Value) extends TxtE w K mg where
  m_Spot : ∃ C, MkC K mg "Spot" "Spot.__init__" s_Spot_init P_Spot_init F_Spot C
  d_lay_try : DefX K mg "lay_try" s_lay_try P_lay_try
  enumT : mg "enumerate" = none
section
variable {K : PySem.W.Frag} {σ : L2.St} {H H' : Hp} {ta tb tc te tv : TE} {t u : TT} {x y z v : V}
theorem q_fld {D : Ends} {tz : TS} {a C dx : Addr} {fs : List (Str × V)} {f : Str} (ha : H a = some (.ins C dx fs)) (ho : Ev ta σ H (.ref a)) (h : Ev te σ H v) (c : Cls K C) (n : NoAttr K C f) (hz : fs.length < 1000)
    (k : ∀ H1, Ex H H1 → tz D σ (upd H1 a (.ins C dx (putF f v fs)))) : tSeq (sFld K ta te f) tz D σ H := h H (Ex.refl H) _ fun H1 e1 => ho H1 e1 _ fun H2 e2 => ⟨a, C, dx, fs, rfl, e2 _ _ (e1 _ _ ha), c, n, hz, k H2 (e1.trans e2)⟩
theorem s_fld {D : Ends} {a C dx : Addr} {fs : List (Str × V)} {f : Str} (ha : H a = some (.ins C dx fs)) (ho : Ev ta σ H (.ref a)) (h : Ev te σ H v) (c : Cls K C) (n : NoAttr K C f) (hz : fs.length < 1000)
    (k : ∀ H1, Ex H H1 → D.nx σ (upd H1 a (.ins C dx (putF f v fs)))) : sFld K ta te f D σ H := h H (Ex.refl H) _ fun H1 e1 => ho H1 e1 _ fun H2 e2 => ⟨a, C, dx, fs, rfl, e2 _ _ (e1 _ _ ha), c, n, hz, k H2 (e1.trans e2)⟩
/-- a value of no matter -/
def EvN (te : TE) (σ : L2.St) (H : Hp) : Prop := ∀ H1, Ex H H1 → ∀ Q : VK, (∀ v H2, Ex H1 H2 → Q v H2) → te σ H1 Q
theorem EvN.of (h : Ev te σ H v) : EvN te σ H := fun H1 e Q q => h H1 e _ fun H2 e2 => q v H2 e2
theorem EvN.ofU {xs : List V} (h : EvU te σ H xs) : EvN te σ H := fun H1 e Q q => h H1 e _ fun p H2 _ e2 _ => q _ H2 e2
theorem q_fldN {D : Ends} {tz : TS} {a C dx : Addr} {fs : List (Str × V)} {f : Str} (ha : H a = some (.ins C dx fs)) (ho : Ev ta σ H (.ref a)) (h : EvN te σ H) (c : Cls K C) (n : NoAttr K C f) (hz : fs.length < 1000)
    (k : ∀ v H1, Ex H H1 → tz D σ (upd H1 a (.ins C dx (putF f v fs)))) : tSeq (sFld K ta te f) tz D σ H := h H (Ex.refl H) _ fun v H1 e1 => ho H1 e1 _ fun H2 e2 => ⟨a, C, dx, fs, rfl, e2 _ _ (e1 _ _ ha), c, n, hz, k v H2 (e1.trans e2)⟩
theorem q_fldO {D : Ends} {tz : TS} {x C dx : Addr} {fs : List (Str × V)} {f : Str} {H0 : Hp} (hx : H0 x = none) (e0 : Ex H0 H) (ha : H x = some (.ins C dx fs)) (ho : σ[0]? = some (some (.ref x))) (h : EvN te σ H) (c : Cls K C) (n : NoAttr K C f) (hz : fs.length < 1000)
    (k : ∀ v G, Ex H0 G → G x = some (.ins C dx (putF f v fs)) → tz D σ G) : tSeq (sFld K (tVar 0) te f) tz D σ H := h H (Ex.refl H) _ fun v H1 e1 => ⟨_, ho, x, C, dx, fs, rfl, e1 _ _ ha, c, n, hz, k v _ ((e0.trans e1).mut hx) upd_same⟩
theorem s_fldO {D : Ends} {x C dx : Addr} {fs : List (Str × V)} {f : Str} {H0 : Hp} (hx : H0 x = none) (e0 : Ex H0 H) (ha : H x = some (.ins C dx fs)) (ho : σ[0]? = some (some (.ref x))) (h : EvN te σ H) (c : Cls K C) (n : NoAttr K C f) (hz : fs.length < 1000)
    (k : ∀ v G, Ex H0 G → G x = some (.ins C dx (putF f v fs)) → D.nx σ G) : sFld K (tVar 0) te f D σ H := h H (Ex.refl H) _ fun v H1 e1 => ⟨_, ho, x, C, dx, fs, rfl, e1 _ _ ha, c, n, hz, k v _ ((e0.trans e1).mut hx) upd_same⟩
theorem putF_le {f : Str} {v : V} {fs : List (Str × V)} {n : Nat} (h : fs.length ≤ n) : (putF f v fs).length ≤ n + 1 := by
  have := length_putF f v fs
  omega
theorem ev_callU1 {sp : Sp} {ys : List V} {E : XK} (h : EvU te σ H ys) (hs : ∀ p H1, Ex H H1 → H1 p = some (.tup ys) → SpV sp [.ref p] H1 z) : Ev (tCall sp [] E (tCons te tNil)) σ H z := fun H1 e Q q =>
  h H1 e _ fun p H2 _ e2 h2 => hs p H2 (e.trans e2) h2 H2 (Ex.refl H2) Q (fun H3 e3 => q H3 (e2.trans e3)) E
theorem q_fldV {D : Ends} {tz : TS} {x C dx : Addr} {fs : List (Str × V)} {f : Str} {H0 : Hp} (hx : H0 x = none) (e0 : Ex H0 H) (ha : H x = some (.ins C dx fs)) (ho : σ[0]? = some (some (.ref x))) (h : Ev te σ H v) (c : Cls K C) (n : NoAttr K C f) (hz : fs.length < 1000)
    (k : ∀ G, Ex H0 G → G x = some (.ins C dx (putF f v fs)) → tz D σ G) : tSeq (sFld K (tVar 0) te f) tz D σ H := h H (Ex.refl H) _ fun H1 e1 => ⟨_, ho, x, C, dx, fs, rfl, e1 _ _ ha, c, n, hz, k _ ((e0.trans e1).mut hx) upd_same⟩
theorem en_if {b : Bool} (h : EvT t σ H b) (ha : EvN ta σ H) (hb : EvN tb σ H) : EvN (tIf t ta tb) σ H := fun H1 e Q q => h H1 e _ fun H2 e2 => by
  cases b with
  | true => exact ha H2 (e.trans e2) Q fun v H3 e3 => q v H3 (e2.trans e3)
  | false => exact hb H2 (e.trans e2) Q fun v H3 e3 => q v H3 (e2.trans e3)
theorem q_asgN {D : Ends} {tz : TS} {i : Nat} (h : EvN te σ H) (k : ∀ v H1, Ex H H1 → tz D (σ.set i (some v)) H1) : tSeq (tAsg te (gName i)) tz D σ H := h H (Ex.refl H) _ fun v H1 e => k v H1 e
theorem s_appN {D : Ends} {l : Addr} {xs : List V} (hl : H l = some (.lst xs)) (ha : Ev ta σ H (.ref l)) (h : EvN te σ H) (hz : xs.length < 100000) (k : ∀ v H1, Ex H H1 → D.nx σ (upd H1 l (.lst (xs ++ [v])))) : tDrop (tBM K "list" rAppend ta (tCons te tNil)) D σ H := ha H (Ex.refl H) _ fun H1 e1 =>
  ⟨Or.inl ⟨rfl, xs, sq_of (e1 l _ hl)⟩, h H1 e1 _ fun v H2 e2 => ⟨l, xs, v, rfl, rfl, e2 l _ (e1 l _ hl), sz_lt hz, k v H2 (e1.trans e2)⟩⟩
theorem q_appN {D : Ends} {tz : TS} {l : Addr} {xs : List V} (hl : H l = some (.lst xs)) (ha : Ev ta σ H (.ref l)) (h : EvN te σ H) (hz : xs.length < 100000) (k : ∀ v H1, Ex H H1 → tz D σ (upd H1 l (.lst (xs ++ [v])))) : tSeq (tDrop (tBM K "list" rAppend ta (tCons te tNil))) tz D σ H := s_appN (D := { D with nx := tz D }) hl ha h hz k
theorem ev_fld {a C dx : Addr} {fs : List (Str × V)} {f : Str} (h : Ev ta σ H (.ref a)) (ha : H a = some (.ins C dx fs)) (c : Cls K C) (n : NoAttr K C f) (l : fs.lookup f = some v) : Ev (tFld K ta f) σ H v := fun H1 e Q q => h H1 e _ fun H2 e2 => ⟨a, C, dx, fs, v, rfl, e2 _ _ (e _ _ ha), c, n, l, q H2 e2⟩
/-! contracts -/
abbrev FldIs (fs : List (Str × V)) (f : Str) (v : V) : Prop := fs.lookup f = some v
def SpotOk (K : PySem.W.Frag) (W : Dt → Bool) (H : Hp) (s : Addr) : Prop := SqT K H s [.str "end"] ∨ ∃ d, At K H (.ref s) d ∧ wfS W d = true
theorem SpotOk.ex {W : Dt → Bool} {s : Addr} (e : Ex H H') (h : SpotOk K W H s) : SpotOk K W H' s := h.imp (ex_t e) fun ⟨d, h1, h2⟩ => ⟨d, h1.ex e, h2⟩
def sp_SpotG (K : PySem.W.Frag) (C : Addr) : Sp := fun vs H Q _ => ∃ (W : Dt → Bool) (x s : Addr) (a c : V) (H0 : Hp) (dx : Addr), vs = [.ref x, .ref s, a, c] ∧ H0 x = none ∧ Ex H0 H ∧ H x = some (.ins C dx []) ∧ SpotOk K W H0 s ∧
  ∀ H2 fs, Ex H0 H2 → H2 x = some (.ins C dx fs) → FldIs fs "statement" (.ref s) → FldIs fs "after" a → fs.length ≤ 6 → Q .non H2
theorem r_spot {W : Dt → Bool} {C s : Addr} {a c : V} {E : XK} {t : TA} {Q : VK} (h : EvA t σ H [.ref s, a, c]) (hs : SpotOk K W H s)
    (k : ∀ x dx fs H1, H x = none → Ex H H1 → H1 x = some (.ins C dx fs) → FldIs fs "statement" (.ref s) → FldIs fs "after" a → fs.length ≤ 6 → Q (.ref x) H1) : tMake C (sp_SpotG K C) [] E t σ H Q :=
  h H (Ex.refl H) _ fun H2 e2 => fun x dx hx hdx hne => ⟨W, x, s, a, c, H2, dx, rfl, hx, (Ex.new hdx).mut hx, upd_same, hs.ex e2, fun H3 fs e3 h3 l1 l2 hz => ⟨rfl, k x dx fs H3 (fresh_back e2 hx) (e2.trans e3) h3 l1 l2 hz⟩⟩
theorem q_spot {D : Ends} {tz : TS} {i : Nat} {W : Dt → Bool} {C s : Addr} {a c : V} {E : XK} {t : TA} (h : EvA t σ H [.ref s, a, c]) (hs : SpotOk K W H s)
    (k : ∀ x dx fs H1, H x = none → Ex H H1 → H1 x = some (.ins C dx fs) → FldIs fs "statement" (.ref s) → FldIs fs "after" a → fs.length ≤ 6 → tz D (σ.set i (some (.ref x))) H1) : tSeq (tAsg (tMake C (sp_SpotG K C) [] E t) (gName i)) tz D σ H :=
  h H (Ex.refl H) _ fun H2 e2 => fun x dx hx hdx hne => ⟨W, x, s, a, c, H2, dx, rfl, hx, (Ex.new hdx).mut hx, upd_same, hs.ex e2, fun H3 fs e3 h3 l1 l2 hz => ⟨rfl, k x dx fs H3 (fresh_back e2 hx) (e2.trans e3) h3 l1 l2 hz⟩⟩
theorem en_spotU {C : Addr} {a c : V} {E : XK} {t1 : TE} {t : TA} (h1 : EvU t1 σ H [.str "end"]) (h : EvA t σ H [a, c]) : EvN (tMake C (sp_SpotG K C) [] E (tCons t1 t)) σ H := fun H1 e Q q =>
  h1 H1 e _ fun p H2 _ e2 hp => h H2 (e.trans e2) _ fun H3 e3 => fun x dx hx hdx hne => ⟨fun _ => true, x, p, a, c, H3, dx, rfl, hx, (Ex.new hdx).mut hx, upd_same, .inl (st_of (e3 _ _ hp)), fun H4 fs e4 _ _ _ _ => ⟨rfl, q _ H4 ((e2.trans e3).trans e4)⟩⟩
/-- how many statements stand in a statement, itself too -/
def szS (n : Nat) (s : Dt) : Nat := 1 + ((innerD s).map (sizeD n)).sum
theorem sizeD_succ {n : Nat} {xs : List Dt} : sizeD (n + 1) (.tup xs) = (xs.map (szS n)).sum := by
  show xs.length + (xs.map fun s => ((innerD s).map (sizeD n)).sum).sum = _
  induction xs with
  | nil => rfl
  | cons x xs ih =>
    rw [List.map_cons, List.map_cons, List.sum_cons, List.sum_cons, ← ih, List.length_cons]
    unfold szS
    omega
def sp_layB (K : PySem.W.Frag) (n : Nat) : Sp := fun vs H Q _ => ∃ (v : V) (d : Dt) (aft ct : V) (l : Addr) (xs : List V) (H0 : Hp), vs = [v, aft, ct, .ref l] ∧ H0 l = none ∧ Ex H0 H ∧ At K H0 v d ∧ wfB n d = true ∧ H l = some (.lst xs) ∧ xs.length + sizeD n d ≤ 90000 ∧ ∀ H2 ys, Ex H0 H2 → H2 l = some (.lst ys) → ys.length ≤ xs.length + sizeD n d → Q .non H2
def sp_layI (K : PySem.W.Frag) (n : Nat) : Sp := fun vs H Q _ => ∃ (v : V) (d : Dt) (aft ct : V) (l : Addr) (xs : List V) (H0 : Hp), vs = [v, aft, ct, .ref l] ∧ H0 l = none ∧ Ex H0 H ∧ At K H0 v d ∧ wfB n d = true ∧ H l = some (.lst xs) ∧ xs.length + sizeD n d ≤ 90000 ∧ ∀ u H2 ys, Ex H0 H2 → H2 l = some (.lst ys) → ys.length ≤ xs.length + sizeD n d → Q u H2
def sp_layS (K : PySem.W.Frag) (n : Nat) : Sp := fun vs H Q _ => ∃ (v : V) (d : Dt) (aft ct : V) (l : Addr) (xs : List V) (H0 : Hp), vs = [v, aft, ct, .ref l] ∧ H0 l = none ∧ Ex H0 H ∧ At K H0 v d ∧ wfS (wfB n) d = true ∧ H l = some (.lst xs) ∧ xs.length + szS n d ≤ 90000 ∧ ∀ H2 ys, Ex H0 H2 → H2 l = some (.lst ys) → ys.length ≤ xs.length + szS n d → Q .non H2
def sp_layT (K : PySem.W.Frag) (C : Addr) (n : Nat) : Sp := fun vs H Q _ => ∃ (x dx : Addr) (fs : List (Str × V)) (s : Addr) (z v1 v2 v3 : V) (A B : Dt) (aft ct : V) (l : Addr) (xs : List V) (H0 : Hp), vs = [.ref x, ct, .ref l] ∧ H0 x = none ∧ H0 l = none ∧ Ex H0 H ∧ H x = some (.ins C dx fs) ∧ FldIs fs "statement" (.ref s) ∧ FldIs fs "after" aft ∧ fs.length ≤ 10 ∧
  SqT K H0 s [(z : V), v1, v2, v3] ∧ At K H0 v1 A ∧ At K H0 v3 B ∧ wfB n A = true ∧ wfB n B = true ∧ H l = some (.lst xs) ∧ xs.length + (sizeD n A + sizeD n B) ≤ 90000 ∧ ∀ H2 ys, Ex H0 H2 → H2 l = some (.lst ys) → ys.length ≤ xs.length + (sizeD n A + sizeD n B) → Q .non H2
def sp_spotsG (K : PySem.W.Frag) : Sp := fun vs H Q _ => ∃ v d, vs = [v] ∧ At K H v d ∧ wfB 6 d = true ∧ sizeD 6 d ≤ 80000 ∧ ∀ v H2, Ex H H2 → Q v H2
theorem n_spotsG {v : V} {d : Dt} {E : XK} {te : TE} (h : Ev te σ H v) (hb : At K H v d) (hw : wfB 6 d = true) (hz : sizeD 6 d ≤ 80000) : EvN (tCall (sp_spotsG K) [] E (tCons te tNil)) σ H := fun H1 e Q q =>
  h H1 e _ fun H2 e2 => ⟨v, d, rfl, hb.ex (e.trans e2), hw, hz, fun v H3 e3 => q v H3 (e2.trans e3)⟩
end
section
variable {P : Program} {w : World} {K : PySem.W.Frag} {mg : Str → Option Value} {base : Heap} {sa : Addr} {rs : Str → Addr}
theorem mk_mak {x qual : Str} {st : Stmt} {N ps fields : List Str} {C : Addr} {k : Nat} {sp : Sp} (D : MkC K mg x qual st ps fields C) (S : FnScope N ps (C8.fnScope st)) (len : ∀ vs H Q E, sp vs H Q E → vs.length = ps.length)
    (hbody : ∀ (f : Addr) (cdv : Value) (A : Around) (outer : List Env) (s : Shared) (H : Hp) (vs : List V) (Q : VK) (E : XK), Room k (A.deeper (PyProof.Rows.envOfC qual (C8.fnScope st) s.heap.objs.size f cdv)) → sp vs H Q E →
      ∃ t, PSs (cxOf C8.CX0 P w K mg base N qual (C8.fnScope st) f cdv A outer s H E).nox (C8.fnBody st) t ∧ t { nx := fun _ H' => Q .non H', rt := Q } (start N vs) H) : Mak P w K mg base (k + 1) x C sp [] := by
  obtain ⟨f, fd, M, F, b⟩ := D.ex
  exact mak0 M D.mgc F b .nil S len (hbody f)
/-! Spot -/
theorem shape_end : shapeOf "end" = none := by decide +kernel
theorem sc_SpotG : FnScope N_Spot_init P_Spot_init (C8.fnScope s_Spot_init) := fnScope_by (by decide +kernel)
theorem mk_SpotG (T : TxtE w K mg) (S : Shp w K mg sa rs) {C : Addr} (M : MkC K mg "Spot" "Spot.__init__" s_Spot_init P_Spot_init F_Spot C) : Mak P w K mg base 4 "Spot" C (sp_SpotG K C) [] := by
  refine mk_mak M sc_SpotG (fun vs H Q E h => ?_) (fun f cdv A outer s H vs Q E hr h => ?_)
  · obtain ⟨_, _, _, _, _, _, _, rfl, _⟩ := h
    rfl
  · obtain ⟨W, x, s0, a, c, H0, dx, rfl, hx, e0, h0, hs, k⟩ := h
    have nd := sc_SpotG.nd
    refine ⟨_, pss_cons (ps_fld (pv 0) (pv 1) (by rfl))
      (pss_cons (ps_fld (pv 0) (pe_ifExp (pt_cmpR op_eq (pe_ix ix_tup (pv 1) pe_int (fun _ _ => rfl)) pe_str (nomark _)) (pe_tup pa_nil) (pe_c (ok_exprsG T S (W := W)) hr (by decide) (by rfl) (pa_cons (pv 1) pa_nil))) (by rfl))
      (pss_cons (ps_fld (pv 0) (pv 2) (by rfl))
      (pss_cons (ps_fld (pv 0) pe_non (by rfl))
      (pss_cons (ps_fld (pv 0) pe_non (by rfl))
      (pss_one (ps_fld (pv 0) (pv 3) (by rfl))))))), ?_⟩
    have no : ∀ n ∈ F_Spot, NoAttr K C n := M.no
    refine q_fldV hx e0 h0 rfl (ev_var (v := .ref s0) rfl) M.cls (no _ (by decide)) (by decide) fun G1 f1 g1 => ?_
    refine q_fldO hx f1 g1 rfl (fun H2 e2 Q q => ?_) M.cls (no _ (by decide)) (Nat.lt_of_le_of_lt (putF_le (Nat.le_refl 0)) (by decide)) fun v2 G2 f2 g2 => ?_
    · rcases hs.ex (f1.trans e2) with hs | ⟨d, hd, hw⟩
      · refine (et_test (ev_is (ev_op (ev_op (ev_var (v := .ref s0) rfl) ev_c (rv_ixT hs (at_of (j := 0) rfl rfl))) (ev_c (v := .str "end")) (rv_eq rfl)) (by decide)) : EvT _ _ _ true) H2 (Ex.refl H2) _ fun H3 e3 => ?_
        exact (eu_tup ea_nil (show 0 ≤ 100000 by decide)) H3 (Ex.refl H3) _ fun p H4 _ e4 _ => q _ H4 (e3.trans e4)
      · obtain ⟨a1, z, ks, pvs, ps, e1, rfl, h2, hsh, _⟩ := stmt_at hd hw
        cases e1
        have hz : z ≠ "end" := fun e => by subst e; rw [shape_end] at hsh; cases hsh
        refine (et_test (ev_is (ev_op (ev_op (ev_var (v := .ref s0) rfl) ev_c (rv_ixT h2 (at_of (j := 0) rfl rfl))) (ev_c (v := .str "end")) (rv_eq rfl)) (by congr 1; exact decide_eq_false fun e => hz (by injection e))) : EvT _ _ _ false) H2 (Ex.refl H2) _ fun H3 e3 => ?_
        exact ⟨_, rfl, .ref s0, _, rfl, hd.ex e3, hw, fun p ws H4 _ e4 _ _ => q _ H4 (e3.trans e4)⟩
    · refine q_fldV hx f2 g2 rfl (ev_var (v := a) rfl) M.cls (no _ (by decide)) (Nat.lt_of_le_of_lt (putF_le (putF_le (Nat.le_refl 0))) (by decide)) fun G3 f3 g3 => ?_
      refine q_fldO hx f3 g3 rfl (.of ev_c) M.cls (no _ (by decide)) (Nat.lt_of_le_of_lt (putF_le (putF_le (putF_le (Nat.le_refl 0)))) (by decide)) fun v4 G4 f4 g4 => ?_
      refine q_fldO hx f4 g4 rfl (.of ev_c) M.cls (no _ (by decide)) (Nat.lt_of_le_of_lt (putF_le (putF_le (putF_le (putF_le (Nat.le_refl 0))))) (by decide)) fun v5 G5 f5 g5 => ?_
      refine s_fldO hx f5 g5 rfl (.of (ev_var (v := c) rfl)) M.cls (no _ (by decide)) (Nat.lt_of_le_of_lt (putF_le (putF_le (putF_le (putF_le (putF_le (Nat.le_refl 0)))))) (by decide)) fun v6 G6 f6 g6 => k _ _ f6 g6 ?_ ?_ (putF_le (putF_le (putF_le (putF_le (putF_le (putF_le (Nat.le_refl 0)))))))
      · unfold FldIs
        repeat rw [lookup_putF, if_neg (by decide)]
        rw [lookup_putF, if_pos rfl]
      · unfold FldIs
        repeat rw [lookup_putF, if_neg (by decide)]
        rw [lookup_putF, if_pos rfl]
end
end EE
set_option Elab.async false
set_option linter.all false
set_option maxRecDepth 100000
set_option maxHeartbeats 4000000
namespace EE
open PySem L2 Evl
open C8 (Cal Mak cal0 mak0 pe_c pe_mk pe_gc fnScope_by)
theorem hid_atl {l : Addr} {H : Hp} : hid l l H l = none := if_pos (.inl rfl)
theorem hid_exl {l : Addr} {H : Hp} : Ex (hid l l H) H := fun a o h => by
  by_cases e : a = l
  · subst e; rw [hid_atl] at h; cases h
  · rw [hid_ne e e] at h; exact h
theorem dec_strV {z y : Str} : V.bl (decide (V.str z = V.str y)) = V.bl (decide (z = y)) := by
  congr 1
  exact decide_eq_decide.mpr ⟨fun h => by injection h, fun h => by rw [h]⟩
theorem wfP_blk {W : Dt → Bool} {d : Dt} : wfP W "block" d = W d := if_pos (by decide +kernel)
theorem shape_loop : shapeOf "loop" = some ([Str.ofString "test", Str.ofString "block"] : List Str) := by decide +kernel
theorem shape_if : shapeOf "if" = some ([Str.ofString "test", Str.ofString "block", Str.ofString "block"] : List Str) := by decide +kernel
theorem inner_loop {t A : Dt} : innerOf ([Str.ofString "test", Str.ofString "block"] : List Str) [t, A] = [A] := by
  unfold innerOf
  rw [List.zip_cons_cons, List.zip_cons_cons, List.zip_nil_right, List.filter_cons_of_neg (by show ¬ decide (Str.ofString "test" ∈ blks) = true; decide +kernel), List.filter_cons_of_pos (by show decide (Str.ofString "block" ∈ blks) = true; decide +kernel)]
  rfl
theorem inner_if {t A B : Dt} : innerOf ([Str.ofString "test", Str.ofString "block", Str.ofString "block"] : List Str) [t, A, B] = [A, B] := by
  unfold innerOf
  rw [List.zip_cons_cons, List.zip_cons_cons, List.zip_cons_cons, List.zip_nil_right, List.filter_cons_of_neg (by show ¬ decide (Str.ofString "test" ∈ blks) = true; decide +kernel), List.filter_cons_of_pos (by show decide (Str.ofString "block" ∈ blks) = true; decide +kernel), List.filter_cons_of_pos (by show decide (Str.ofString "block" ∈ blks) = true; decide +kernel)]
  rfl
theorem inner_try {t A B : Dt} : innerOf ([Str.ofString "block", Str.ofString "local", Str.ofString "block"] : List Str) [A, t, B] = [A, B] := by
  unfold innerOf
  rw [List.zip_cons_cons, List.zip_cons_cons, List.zip_cons_cons, List.zip_nil_right, List.filter_cons_of_pos (by show decide (Str.ofString "block" ∈ blks) = true; decide +kernel), List.filter_cons_of_neg (by show ¬ decide (Str.ofString "local" ∈ blks) = true; decide +kernel), List.filter_cons_of_pos (by show decide (Str.ofString "block" ∈ blks) = true; decide +kernel)]
  rfl
theorem len2 {α : Type} {l : List α} (h : l.length = 2) : ∃ a b, l = [a, b] := by
  match l, h with
  | [a, b], _ => exact ⟨a, b, rfl⟩
theorem len3 {α : Type} {l : List α} (h : l.length = 3) : ∃ a b c, l = [a, b, c] := by
  match l, h with
  | [a, b, c], _ => exact ⟨a, b, c, rfl⟩
section
variable {P : Program} {w : World} {K : PySem.W.Frag} {mg : Str → Option Value} {base : Heap} {sa : Addr} {rs : Str → Addr}
theorem sc_layI : FnScope N_lay_inner P_lay_inner (C8.fnScope s_lay_inner) := fnScope_by (by decide +kernel)
theorem ok_layI (T : TxtL w K mg) {n : Nat} (B : Cal P w K mg base (4 * n + 6) "lay_block" (sp_layB K n) []) : Cal P w K mg base (4 * n + 7) "lay_inner" (sp_layI K n) [] := by
  refine mk_cal T.d_lay_inner sc_layI (fun vs H Q E h => ?_) (fun f cdv A outer s H vs Q E hr h => ?_)
  · obtain ⟨_, _, _, _, _, _, _, rfl, _⟩ := h
    rfl
  · obtain ⟨v, d, aft, ct, l, xs, H0, rfl, hl, e0, hv, hw, h0, hz, k⟩ := h
    have nd := sc_layI.nd
    refine ⟨_, pss_cons (ps_set (i := 4) nd rfl (Or.inl rfl) (pe_callB call_len_seq (by rfl) T.len (by decide +kernel) (pa_cons (pv 3) pa_nil)))
      (pss_cons (ps_expr (pe_c B hr (by omega) (by rfl) (pa_cons (pv 0) (pa_cons (pv 1) (pa_cons (pv 2) (pa_cons (pv 3) pa_nil))))))
      (pss_one (ps_ret (pe_ifExp (pt_truth (pv 0) (by intro _; rfl)) (pv 4) (pv 1))))), ?_⟩
    obtain ⟨a, vs, hva, hsq⟩ : ∃ a vs, v = .ref a ∧ SqT K H0 a vs := by
      cases n with
      | zero => cases hw
      | succ n =>
        obtain ⟨ds, rfl, _⟩ := wfB_succ hw
        cases hv with
        | tup h r hz => exact ⟨_, _, rfl, h⟩
    subst hva
    refine q_asg (v := .int (xs.length : Nat)) (ev_cb (ea_cons (ev_var rfl) ea_nil) (rc_lenS (.inl (sq_of h0)))) fun H1 e1 => ?_
    refine ⟨_, rfl, _, rfl, _, rfl, _, rfl, .ref a, d, aft, ct, l, xs, H0, rfl, hl, e0.trans e1, hv, hw, e1 _ _ h0, hz, fun H2 ys e2 h2 hy => ?_⟩
    exact (en_if (et_truT (ev_var (v := .ref a) rfl) (ex_t e2 hsq)) (.of (ev_var (v := .int (xs.length : Nat)) rfl)) (.of (ev_var (v := aft) rfl))) H2 (Ex.refl H2) _ fun u H3 e3 => k u H3 ys (e2.trans e3) (e3 _ _ h2) hy
theorem sc_layT : FnScope N_lay_try P_lay_try (C8.fnScope s_lay_try) := fnScope_by (by decide +kernel)
theorem ok_layT (T : TxtL w K mg) (S : Shp w K mg sa rs) {C : Addr} (M : MkC K mg "Spot" "Spot.__init__" s_Spot_init P_Spot_init F_Spot C) {n : Nat} (B : Cal P w K mg base (4 * n + 7) "lay_inner" (sp_layI K n) []) : Cal P w K mg base (4 * n + 8) "lay_try" (sp_layT K C n) [] := by
  refine mk_cal T.d_lay_try sc_layT (fun vs H Q E h => ?_) (fun f cdv A outer s H vs Q E hr h => ?_)
  · obtain ⟨_, _, _, _, _, _, _, _, _, _, _, _, _, _, _, rfl, _⟩ := h
    rfl
  · obtain ⟨x, dx, fs, s0, z, v1, v2, v3, dA, dB, aft, ct, l, xs, H0, rfl, hx, hl, e0, h0, l1, l2, hfz, hsq, hA, hB, wA, wB, hlx, hz, k⟩ := h
    have nd := sc_layT.nd
    refine ⟨_, pss_cons (ps_asg (pe_fld (pv 0) (by rfl)) (pg_tup (by rfl) (pgs_cons (pg_name (i := 3) nd rfl (Or.inl rfl)) (pgs_cons (pg_name (i := 4) nd rfl (Or.inl rfl)) (pgs_cons (pg_name (i := 5) nd rfl (Or.inl rfl)) (pgs_cons (pg_name (i := 6) nd rfl (Or.inl rfl)) pgs_nil))))))
      (pss_cons (ps_set (i := 7) nd rfl (Or.inl rfl) (pe_op op_add (pe_callB call_len_seq (by rfl) T.len (by decide +kernel) (pa_cons (pv 2) pa_nil)) (pe_c (ok_sizeG T.toTxtS S n) hr (by omega) (by rfl) (pa_cons (pv 4) pa_nil))))
      (pss_cons (ps_fld (pv 0) (pe_ifExp (pt_truth (pv 6) (by intro _; rfl)) (pv 7) (pe_fld (pv 0) (by rfl))) (by rfl))
      (pss_cons (ps_fld (pv 0) (pe_c B hr (by omega) (by rfl) (pa_cons (pv 4) (pa_cons (pe_fld (pv 0) (by rfl)) (pa_cons (pe_tup (pa_cons (pv 5) (pa_cons (pe_fld (pv 0) (by rfl)) pa_nil))) (pa_cons (pv 2) pa_nil))))) (by rfl))
      (pss_one (ps_expr (pe_c B hr (by omega) (by rfl) (pa_cons (pv 6) (pa_cons (pe_fld (pv 0) (by rfl)) (pa_cons (pv 1) (pa_cons (pv 2) pa_nil)))))))))), ?_⟩
    have no : ∀ n ∈ F_Spot, NoAttr K C n := M.no
    have hxl : x ≠ l := fun e => by subst e; rw [h0] at hlx; cases hlx
    obtain ⟨b, vs, hvb, hbs⟩ : ∃ a vs, v3 = .ref a ∧ SqT K H0 a vs := by
      cases n with
      | zero => cases wB
      | succ n =>
        obtain ⟨ds, rfl, _⟩ := wfB_succ wB
        cases hB with
        | tup h r hz => exact ⟨_, _, rfl, h⟩
    subst hvb
    refine ⟨_, rfl, x, C, dx, fs, .ref s0, rfl, h0, M.cls, no _ (by decide), l1, ⟨s0, _, rfl, ex_t e0 hsq, rfl, _, _, rfl, _, _, rfl, _, _, rfl, _, _, rfl, rfl, ?_⟩⟩
    refine q_asg (v := .int ((xs.length : Nat) + (sizeD n dA : Nat))) (ev_op (ev_cb (ea_cons (ev_var rfl) ea_nil) (rc_lenS (.inl (sq_of hlx)))) (ev_call (ea_cons (ev_var rfl) ea_nil) (v_size (hA.ex e0) wA (by omega))) rv_I0) fun H1 e1 => ?_
    have hx1 := e1 _ _ h0
    refine (en_if (et_truT (ev_var (v := .ref b) rfl) (ex_t (e0.trans e1) hbs)) (.of (ev_var (v := .int ((xs.length : Nat) + (sizeD n dA : Nat))) rfl)) (.of (ev_fld (ev_var (v := .ref x) rfl) hx1 M.cls (no _ (by decide)) l2))) H1 (Ex.refl H1) _ fun u H2 e2 => ⟨_, rfl, x, C, dx, fs, rfl, e2 _ _ hx1, M.cls, no _ (by decide), by omega, ?_⟩
    have f2 : Ex H0 (upd H2 x (.ins C dx (putF "second" u fs))) := ((e0.trans e1).trans e2).mut hx
    have x2 : upd H2 x (.ins C dx (putF "second" u fs)) x = some (.ins C dx (putF "second" u fs)) := upd_same
    have lx2 : upd H2 x (.ins C dx (putF "second" u fs)) l = some (.lst xs) := by rw [upd_ne (Ne.symm hxl)]; exact e2 _ _ (e1 _ _ hlx)
    generalize upd H2 x (.ins C dx (putF "second" u fs)) = G2 at f2 x2 lx2
    have la2 : FldIs (putF "second" u fs) "after" aft := by unfold FldIs; rw [lookup_putF, if_neg (by decide)]; exact l2
    have ls2 : FldIs (putF "second" u fs) "second" u := by unfold FldIs; rw [lookup_putF, if_pos rfl]
    have hf2 : (putF "second" u fs).length ≤ 11 := putF_le hfz
    generalize putF "second" u fs = fs2 at x2 la2 ls2 hf2
    refine ⟨_, rfl, _, rfl, _, _, _, _, _, rfl, x2, M.cls, no _ (by decide), la2, _, rfl, _, rfl, _, _, _, _, _, rfl, x2, M.cls, no _ (by decide), ls2, (show 2 ≤ sizeLine by decide), fun p hp => ⟨_, rfl, ?_⟩⟩
    have f3 : Ex H0 (upd G2 p (.tup [v2, u])) := f2.trans (Ex.new hp)
    have x3 := (Ex.new (o := .tup [v2, u]) hp) _ _ x2
    have lx3 := (Ex.new (o := .tup [v2, u]) hp) _ _ lx2
    generalize upd G2 p (.tup [v2, u]) = G3 at f3 x3 lx3
    have b3 : Ex H0 (hid l l G3) := ex_hid f3 hl hl
    refine ⟨v1, dA, aft, .ref p, l, xs, hid l l G3, rfl, hid_atl, hid_exl, hA.ex b3, wA, lx3, by omega, fun u2 H4 ys e4 h4 hy => ⟨_, rfl, x, C, dx, fs2, rfl, e4 _ _ (by rw [hid_ne hxl hxl]; exact x3), M.cls, no _ (by decide), by omega, ?_⟩⟩
    have f5 : Ex H0 (upd H4 x (.ins C dx (putF "first" u2 fs2))) := (b3.trans e4).mut hx
    have x5 : upd H4 x (.ins C dx (putF "first" u2 fs2)) x = some (.ins C dx (putF "first" u2 fs2)) := upd_same
    have lx5 : upd H4 x (.ins C dx (putF "first" u2 fs2)) l = some (.lst ys) := by rw [upd_ne (Ne.symm hxl)]; exact h4
    have la5 : FldIs (putF "first" u2 fs2) "after" aft := by unfold FldIs; rw [lookup_putF, if_neg (by decide)]; exact la2
    generalize upd H4 x (.ins C dx (putF "first" u2 fs2)) = G5 at f5 x5 lx5
    exact ⟨_, rfl, _, rfl, _, _, _, _, _, rfl, x5, M.cls, no _ (by decide), la5, _, rfl, _, rfl, .ref b, dB, aft, ct, l, ys, H0, rfl, hl, f5, hB, wB, lx5, by omega, fun u3 H6 zs e6 h6 hz6 => k H6 zs e6 h6 (by omega)⟩
end
end EE
set_option Elab.async false
set_option linter.all false
set_option maxRecDepth 100000
set_option maxHeartbeats 4000000
namespace EE
open PySem L2 Evl
open C8 (Cal Mak cal0 mak0 pe_c pe_mk pe_gc fnScope_by)
section
variable {P : Program} {w : World} {K : PySem.W.Frag} {mg : Str → Option Value} {base : Heap} {sa : Addr} {rs : Str → Addr}
theorem sc_layS : FnScope N_lay_statement P_lay_statement (C8.fnScope s_lay_statement) := fnScope_by (by decide +kernel)
theorem ok_layS (T : TxtL w K mg) (S : Shp w K mg sa rs) {C : Addr} (M : MkC K mg "Spot" "Spot.__init__" s_Spot_init P_Spot_init F_Spot C) {n : Nat} (B : Cal P w K mg base (4 * n + 7) "lay_inner" (sp_layI K n) []) (L : Cal P w K mg base (4 * n + 8) "lay_try" (sp_layT K C n) []) : Cal P w K mg base (4 * n + 9) "lay_statement" (sp_layS K n) [] := by
  refine mk_cal T.d_lay_statement sc_layS (fun vs H Q E h => ?_) (fun f cdv A outer s H vs Q E hr h => ?_)
  · obtain ⟨_, _, _, _, _, _, _, rfl, _⟩ := h
    rfl
  · obtain ⟨v, d, aft, ct, l, xs, H0, rfl, hl, e0, hv, hw, h0, hz, k⟩ := h
    have nd := sc_layS.nd
    refine ⟨_, pss_cons (ps_set (i := 4) nd rfl (Or.inl rfl) (pe_mk (mk_SpotG T.toTxtE S M) hr (by omega) (by rfl) (pa_cons (pv 0) (pa_cons (pv 1) (pa_cons (pv 2) pa_nil)))))
      (pss_cons (ps_set (i := 5) nd rfl (Or.inl rfl) (pe_callB call_len_seq (by rfl) T.len (by decide +kernel) (pa_cons (pv 3) pa_nil)))
      (pss_cons (ps_expr (pe_bm PySem.F.plainAttrs_list PySem.F.slot_list_append PySem.F.type_list_append mt_append (pv 3) (pa_cons (pv 4) pa_nil)))
      (pss_cons (ps_set (i := 6) nd rfl (Or.inl rfl) (pe_ix ix_tup (pv 0) pe_int (fun _ _ => rfl)))
      (pss_one (ps_if (pt_cmpR op_eq (pv 6) pe_str (nomark _)) (pss_one (ps_fld (pv 4) (pe_c B hr (by omega) (by rfl) (pa_cons (pe_ix ix_tup (pv 0) pe_int (fun _ _ => rfl)) (pa_cons (pv 5) (pa_cons (pv 2) (pa_cons (pv 3) pa_nil))))) (by rfl)))
        (pss_one (ps_if (pt_cmpR op_eq (pv 6) pe_str (nomark _)) (pss_cons (ps_fld (pv 4) (pe_c B hr (by omega) (by rfl) (pa_cons (pe_ix ix_tup (pv 0) pe_int (fun _ _ => rfl)) (pa_cons (pv 1) (pa_cons (pv 2) (pa_cons (pv 3) pa_nil))))) (by rfl)) (pss_one (ps_fld (pv 4) (pe_c B hr (by omega) (by rfl) (pa_cons (pe_ix ix_tup (pv 0) pe_int (fun _ _ => rfl)) (pa_cons (pv 1) (pa_cons (pv 2) (pa_cons (pv 3) pa_nil))))) (by rfl))))
        (pss_one (ps_if (pt_cmpR op_eq (pv 6) pe_str (nomark _)) (pss_one (ps_expr (pe_c L hr (by omega) (by rfl) (pa_cons (pv 4) (pa_cons (pv 2) (pa_cons (pv 3) pa_nil)))))) pss_nil))))))))), ?_⟩
    have no : ∀ n ∈ F_Spot, NoAttr K C n := M.no
    obtain ⟨a, z, ks, pvs, ps, rfl, rfl, hsq, hsh, hl1, hl2, rp, hp, hin⟩ := stmt_at hv hw
    have hsz : szS n (.tup (.str z :: ps)) = 1 + ((innerOf ks ps).map (sizeD n)).sum := by unfold szS; rw [hin]
    refine q_spot (W := wfB n) (ea_cons (ev_var (v := .ref a) rfl) (ea_cons (ev_var rfl) (ea_cons (ev_var rfl) ea_nil))) (.inr ⟨_, hv.ex e0, hw⟩) fun x dx fs H1 hx e1 x1 l1 l2 hfz => ?_
    have hx0 : H0 x = none := fresh_back e0 hx
    have hlx1 : H1 l = some (.lst xs) := e1 _ _ h0
    have hxl : x ≠ l := fun e => by subst e; rw [x1] at hlx1; cases hlx1
    refine q_asg (v := .int (xs.length : Nat)) (ev_cb (ea_cons (ev_var rfl) ea_nil) (rc_lenS (.inl (sq_of hlx1)))) fun H2 e2 => ?_
    refine q_appN (e2 _ _ hlx1) (ev_var rfl) (.of (ev_var (v := .ref x) rfl)) (by omega) fun u H3 e3 => ?_
    have f3 : Ex H0 (upd H3 l (.lst (xs ++ [u]))) := (((e0.trans e1).trans e2).trans e3).mut hl
    have g3 : upd H3 l (.lst (xs ++ [u])) l = some (.lst (xs ++ [u])) := upd_same
    have x3 : upd H3 l (.lst (xs ++ [u])) x = some (.ins C dx fs) := by rw [upd_ne hxl]; exact e3 _ _ (e2 _ _ x1)
    have hy3 : (xs ++ [u]).length = xs.length + 1 := by rw [List.length_append]; rfl
    generalize upd H3 l (.lst (xs ++ [u])) = G3 at f3 g3 x3
    generalize xs ++ [u] = ys3 at g3 hy3
    refine q_asg (v := .str z) (ev_op (ev_var (v := .ref a) rfl) ev_c (rv_ixT (ex_t f3 hsq) (at_of (j := 0) rfl rfl))) fun H4 e4 => ?_
    have f4 := f3.trans e4
    have g4 := e4 _ _ g3
    have x4 := e4 _ _ x3
    refine s_if (b := decide (z = "loop")) (et_test (ev_is (ev_op (ev_var (v := .str z) rfl) (ev_c (v := .str "loop")) (rv_eq rfl)) dec_strV)) (fun hb H5 e5 => ?_) (fun _ H5 e5 => ?_)
    · have hz1 := of_decide_eq_true hb
      subst hz1
      rw [shape_loop] at hsh
      cases hsh
      obtain ⟨vt, va, rfl⟩ := len2 hl1
      obtain ⟨pt, pa, rfl⟩ := len2 hl2
      rw [inner_loop] at hsz
      replace hsz : szS n (.tup [.str "loop", pt, pa]) = 1 + (sizeD n pa + 0) := hsz
      have wa : wfB n pa = true := by have := hp 1 _ pa rfl rfl; rwa [show wfP (wfB n) (Str.ofString "block") pa = wfB n pa from wfP_blk] at this
      have ha : At K H0 va pa := by cases rp with | cons _ t => cases t with | cons h _ => exact h
      have f5 := f4.trans e5
      refine (ev_op (ev_var (v := .ref a) rfl) ev_c (rv_ixT (ex_t f5 hsq) (at_of (j := 2) rfl rfl)) : Ev _ _ _ va) H5 (Ex.refl H5) _ fun H6 e6 => ⟨_, rfl, _, rfl, _, rfl, va, pa, _, _, l, ys3, hid l l H6, rfl, hid_atl, hid_exl, ha.ex (ex_hid (f5.trans e6) hl hl), wa, e6 _ _ (e5 _ _ g4), by omega, fun u2 H7 ys e7 h7 hy => ⟨_, rfl, x, C, dx, fs, rfl, e7 _ _ (by rw [hid_ne hxl hxl]; exact e6 _ _ (e5 _ _ x4)), M.cls, no _ (by decide), by omega, ?_⟩⟩
      exact k _ ys (((ex_hid (f5.trans e6) hl hl).trans e7).mut hx0) (by rw [upd_ne (Ne.symm hxl)]; exact h7) (by omega)
    · refine s_if (b := decide (z = "if")) (et_test (ev_is (ev_op (ev_var (v := .str z) rfl) (ev_c (v := .str "if")) (rv_eq rfl)) dec_strV)) (fun hb H6 e6 => ?_) (fun _ H6 e6 => ?_)
      · have hz1 := of_decide_eq_true hb
        subst hz1
        rw [shape_if] at hsh
        cases hsh
        obtain ⟨vt, va, vb, rfl⟩ := len3 hl1
        obtain ⟨pt, pa, pb, rfl⟩ := len3 hl2
        rw [inner_if] at hsz
        replace hsz : szS n (.tup [.str "if", pt, pa, pb]) = 1 + (sizeD n pa + (sizeD n pb + 0)) := hsz
        have wa : wfB n pa = true := by have := hp 1 _ pa rfl rfl; rwa [show wfP (wfB n) (Str.ofString "block") pa = wfB n pa from wfP_blk] at this
        have wb : wfB n pb = true := by have := hp 2 _ pb rfl rfl; rwa [show wfP (wfB n) (Str.ofString "block") pb = wfB n pb from wfP_blk] at this
        have ha : At K H0 va pa ∧ At K H0 vb pb := by cases rp with | cons _ t => cases t with | cons h t => cases t with | cons h' _ => exact ⟨h, h'⟩
        have f6 := (f4.trans e5).trans e6
        have g6 := e6 _ _ (e5 _ _ g4)
        have x6 := e6 _ _ (e5 _ _ x4)
        refine (ev_op (ev_var (v := .ref a) rfl) ev_c (rv_ixT (ex_t f6 hsq) (at_of (j := 2) rfl rfl)) : Ev _ _ _ va) H6 (Ex.refl H6) _ fun H7 e7 => ⟨_, rfl, _, rfl, _, rfl, va, pa, _, _, l, ys3, hid l l H7, rfl, hid_atl, hid_exl, ha.1.ex (ex_hid (f6.trans e7) hl hl), wa, e7 _ _ g6, by omega, fun u2 H8 ys e8 h8 hy => ⟨_, rfl, x, C, dx, fs, rfl, e8 _ _ (by rw [hid_ne hxl hxl]; exact e7 _ _ x6), M.cls, no _ (by decide), by omega, ?_⟩⟩
        have f9 : Ex H0 (upd H8 x (.ins C dx (putF "first" u2 fs))) := ((ex_hid (f6.trans e7) hl hl).trans e8).mut hx0
        have x9 : upd H8 x (.ins C dx (putF "first" u2 fs)) x = some (.ins C dx (putF "first" u2 fs)) := upd_same
        have g9 : upd H8 x (.ins C dx (putF "first" u2 fs)) l = some (.lst ys) := by rw [upd_ne (Ne.symm hxl)]; exact h8
        have hf9 : (putF "first" u2 fs).length ≤ 7 := putF_le hfz
        generalize upd H8 x (.ins C dx (putF "first" u2 fs)) = G9 at f9 x9 g9
        generalize putF "first" u2 fs = fs9 at x9 hf9
        refine (ev_op (ev_var (v := .ref a) rfl) ev_c (rv_ixT (ex_t f9 hsq) (at_of (j := 3) rfl rfl)) : Ev _ _ _ vb) G9 (Ex.refl G9) _ fun H10 e10 => ⟨_, rfl, _, rfl, _, rfl, vb, pb, _, _, l, ys, hid l l H10, rfl, hid_atl, hid_exl, ha.2.ex (ex_hid (f9.trans e10) hl hl), wb, e10 _ _ g9, by omega, fun u3 H11 zs e11 h11 hy3' => ⟨_, rfl, x, C, dx, fs9, rfl, e11 _ _ (by rw [hid_ne hxl hxl]; exact e10 _ _ x9), M.cls, no _ (by decide), by omega, ?_⟩⟩
        exact k _ zs (((ex_hid (f9.trans e10) hl hl).trans e11).mut hx0) (by rw [upd_ne (Ne.symm hxl)]; exact h11) (by omega)
      · refine s_if (b := decide (z = "try")) (et_test (ev_is (ev_op (ev_var (v := .str z) rfl) (ev_c (v := .str "try")) (rv_eq rfl)) dec_strV)) (fun hb H7 e7 => ?_) (fun _ H7 e7 => ?_)
        · have hz1 := of_decide_eq_true hb
          subst hz1
          rw [shape_try] at hsh
          cases hsh
          obtain ⟨va, vn, vb, rfl⟩ := len3 hl1
          obtain ⟨pa, pn, pb, rfl⟩ := len3 hl2
          rw [inner_try] at hsz
          replace hsz : szS n (.tup [.str "try", pa, pn, pb]) = 1 + (sizeD n pa + (sizeD n pb + 0)) := hsz
          have wa : wfB n pa = true := by have := hp 0 _ pa rfl rfl; rwa [show wfP (wfB n) (Str.ofString "block") pa = wfB n pa from wfP_blk] at this
          have wb : wfB n pb = true := by have := hp 2 _ pb rfl rfl; rwa [show wfP (wfB n) (Str.ofString "block") pb = wfB n pb from wfP_blk] at this
          have ha : At K H0 va pa ∧ At K H0 vb pb := by cases rp with | cons h t => cases t with | cons _ t => cases t with | cons h' _ => exact ⟨h, h'⟩
          have f7 := ((f4.trans e5).trans e6).trans e7
          refine ⟨_, rfl, _, rfl, _, rfl, x, dx, fs, a, _, va, vn, vb, pa, pb, aft, _, l, ys3, H0, rfl, hx0, hl, f7, e7 _ _ (e6 _ _ (e5 _ _ x4)), l1, l2, by omega, hsq, ha.1, ha.2, wa, wb, e7 _ _ (e6 _ _ (e5 _ _ g4)), by omega, fun H8 ys e8 h8 hy => k H8 ys e8 h8 (by omega)⟩
        · exact k H7 ys3 (((f4.trans e5).trans e6).trans e7) (e7 _ _ (e6 _ _ (e5 _ _ g4))) (by omega)
theorem sc_layB : FnScope N_lay_block P_lay_block (C8.fnScope s_lay_block) := fnScope_by (by decide +kernel)
theorem ok_layB (T : TxtL w K mg) (S : Shp w K mg sa rs) : ∀ n, Cal P w K mg base (4 * n + 6) "lay_block" (sp_layB K n) []
  | 0 => mk_cal T.d_lay_block sc_layB (fun vs H Q E h => by obtain ⟨_, _, _, _, _, _, _, rfl, _⟩ := h; rfl) (fun f cdv A outer s H vs Q E hr h => by
      obtain ⟨_, _, _, _, _, _, _, _, _, _, _, hw, _⟩ := h
      cases hw)
  | n + 1 => by
    obtain ⟨C, M⟩ := T.m_Spot
    have BI := ok_layI T (ok_layB T S n)
    have BS := ok_layS T S M BI (ok_layT T S M BI)
    refine mk_cal T.d_lay_block sc_layB (fun vs H Q E h => ?_) (fun f cdv A outer s H vs Q E hr h => ?_)
    · obtain ⟨_, _, _, _, _, _, _, rfl, _⟩ := h
      rfl
    · obtain ⟨v, d, aft, ct, l, xs, H0, rfl, hl, e0, hv, hw, h0, hz, k⟩ := h
      have nd := sc_layB.nd
      refine ⟨_, pss_one (ps_for PassesOwn.never rfl (pi_enumT (by rfl) T.enumT (pa_cons (pv 0) pa_nil)) (pg_tup (by rfl) (pgs_cons (pg_name (i := 4) nd rfl (Or.inl rfl)) (pgs_cons (pg_name (i := 5) nd rfl (Or.inl rfl)) pgs_nil)))
          (pss_cons (ps_set (i := 6) nd rfl (Or.inl rfl) (pe_op op_add (pe_callB call_len_seq (by rfl) T.len (by decide +kernel) (pa_cons (pv 3) pa_nil)) (pe_c (ok_sizeG T.toTxtS S (n + 1)) hr (by omega) (by rfl) (pa_cons (pe_tup (pa_cons (pv 5) pa_nil)) pa_nil))))
          (pss_cons (ps_set (i := 7) nd rfl (Or.inl rfl) (pe_ifExp (pt_cmpR op_lt (pe_op op_add (pv 4) pe_int) (pe_callB call_len_seq (by rfl) T.len (by decide +kernel) (pa_cons (pv 0) pa_nil)) (nomark _)) (pv 6) (pv 1)))
          (pss_one (ps_expr (pe_c BS hr (by omega) (by rfl) (pa_cons (pv 5) (pa_cons (pv 7) (pa_cons (pv 2) (pa_cons (pv 3) pa_nil)))))))))), ?_⟩
      obtain ⟨ds, rfl, hx⟩ := wfB_succ hw
      cases hv with
      | @tup a vs _ h r hzz =>
        rw [sizeD_succ] at hz k
        refine ⟨_, rfl, a, vs, rfl, ex_t e0 h, for_it walk_enumT (fun i σ' H' => (∃ v4 v5 v6 v7, σ' = [some (.ref a), some aft, some ct, some (.ref l), v4, v5, v6, v7]) ∧ Ex H0 H' ∧ ∃ ys, H' l = some (.lst ys) ∧ ys.length ≤ xs.length + ((ds.take i).map (szS n)).sum) ⟨⟨_, _, _, _, rfl⟩, e0, xs, h0, Nat.le_add_right _ _⟩ (fun i σ' H' _ p => ex_t p.2.1 h) (fun i x σ' H' H'' hi p yy => ?_) fun σ' H' p => ?_⟩
        · obtain ⟨⟨v4, v5, v6, v7, rfl⟩, p1, ys, p2, p3⟩ := p
          obtain ⟨Tp, x1, y1, rfl, hT, rfl, h1, h2⟩ := yy
          obtain ⟨d, hd, hat⟩ := r.get h2
          cases h1
          have hwd := hx d (List.mem_of_getElem? hd)
          have hsum := sum_take (f := szS n) hd
          have hle : ((ds.take (i + 1)).map (szS n)).sum ≤ (ds.map (szS n)).sum := by
            have : ds.map (szS n) = (ds.take (i + 1)).map (szS n) ++ (ds.drop (i + 1)).map (szS n) := by rw [← List.map_append, List.take_append_drop]
            rw [this, List.sum_append]
            omega
          have f1 : Ex H0 (upd H' Tp (.tup [.int (i : Nat), y1])) := p1.trans (Ex.new hT)
          have p2' : upd H' Tp (.tup [.int (i : Nat), y1]) l = some (.lst ys) := (Ex.new hT) _ _ p2
          refine ⟨Tp, _, rfl, st_of upd_same, rfl, _, _, rfl, _, _, rfl, rfl, ?_⟩
          generalize upd H' Tp (.tup [.int (i : Nat), y1]) = G1 at f1 p2'
          have hw1 : wfB (n + 1) (.tup [d]) = true := by
            show ([d].map (wfS (wfB n))).all id = true
            simp [hwd]
          refine q_asg (v := .int ((ys.length : Nat) + (sizeD (n + 1) (.tup [d]) : Nat))) (ev_op (ev_cb (ea_cons (ev_var rfl) ea_nil) (rc_lenS (.inl (sq_of p2')))) (ev_callU1 (eu_tup (ea_cons (ev_var rfl) ea_nil) (show 1 ≤ 100000 by decide)) fun p H2 e2 h2 => v_size (.tup (st_of h2) (.cons (hat.ex (f1.trans e2)) .nil) (show 1 ≤ 40000 by decide)) hw1 (by rw [sizeD_succ]; simp; omega)) rv_I0) fun H2 e2 => ?_
          have t1 : EvT (tTest (tOp (rI0 fun i j => V.bl (decide (i < j))) (tOp (rI0 fun i j => V.int (i + j)) (tVar 4) (tC (.int 1))) (tCB (fun ys H Q => ∃ p zs, ys = [V.ref p] ∧ (SqL K H p zs ∨ SqT K H p zs) ∧ Q (.int zs.length) H) (tCons (tVar 0) tNil)))) [some (V.ref a), some aft, some ct, some (V.ref l), some (V.int (i : Nat)), some y1, some (V.int ((ys.length : Nat) + (sizeD (n + 1) (.tup [d]) : Nat))), v7] H2 (decide (((i : Nat) : Int) + 1 < (vs.length : Nat))) := et_test (ev_op (ev_op (ev_var rfl) ev_c rv_I0) (ev_cb (ea_cons (ev_var rfl) ea_nil) (rc_lenS (.inr (ex_t (f1.trans e2) h)))) rv_I0)
          refine q_asgN (en_if t1 (.of (ev_var (v := .int ((ys.length : Nat) + (sizeD (n + 1) (.tup [d]) : Nat))) rfl)) (.of (ev_var (v := aft) rfl))) fun u H3 e3 => ?_
          exact ⟨_, rfl, _, rfl, _, rfl, _, rfl, y1, d, u, ct, l, ys, H0, rfl, hl, (f1.trans e2).trans e3, hat, hwd, e3 _ _ (e2 _ _ p2'), by omega, fun H4 zs e4 h4 hz4 => ⟨⟨_, _, _, _, rfl⟩, e4, zs, h4, by omega⟩⟩
        · obtain ⟨_, p1, ys, p2, p3⟩ := p
          rw [r.len, List.take_length] at p3
          exact k H' ys p1 p2 p3
theorem sc_spotsG : FnScope N_spots_of P_spots_of (C8.fnScope s_spots_of) := fnScope_by (by decide +kernel)
theorem ok_spotsG (T : TxtL w K mg) (S : Shp w K mg sa rs) : Cal P w K mg base 31 "spots_of" (sp_spotsG K) [] := by
  obtain ⟨C, M⟩ := T.m_Spot
  refine mk_cal T.d_spots_of sc_spotsG (fun vs H Q E h => ?_) (fun f cdv A outer s H vs Q E hr h => ?_)
  · obtain ⟨_, _, rfl, _⟩ := h
    rfl
  · obtain ⟨v, d, rfl, hb, hw, hz, k⟩ := h
    have nd := sc_spotsG.nd
    refine ⟨_, pss_cons (ps_set (i := 1) nd rfl (Or.inl rfl) (pe_lst pa_nil))
      (pss_cons (ps_expr (pe_c (ok_layB T S 6) hr (by decide) (by rfl) (pa_cons (pv 0) (pa_cons (pe_c (ok_sizeG T.toTxtS S 6) hr (by decide) (by rfl) (pa_cons (pv 0) pa_nil)) (pa_cons pe_non (pa_cons (pv 1) pa_nil))))))
      (pss_cons (ps_expr (pe_bm PySem.F.plainAttrs_list PySem.F.slot_list_append PySem.F.type_list_append mt_append (pv 1) (pa_cons (pe_mk (mk_SpotG T.toTxtE S M) hr (by decide) (by rfl) (pa_cons (pe_tup (pa_cons pe_str pa_nil)) (pa_cons pe_non (pa_cons pe_non pa_nil)))) pa_nil)))
      (pss_one (ps_ret (pv 1))))), ?_⟩
    refine q_asgL (el_lst ea_nil (show 0 ≤ 100000 by decide)) fun l H1 hl e1 h1 => ?_
    refine ⟨_, rfl, (ev_call (ea_cons (ev_var rfl) ea_nil) (v_size (hb.ex e1) hw (by omega))) H1 (Ex.refl _) _ fun H2 e2 => ⟨_, rfl, v, d, _, _, l, [], H, rfl, hl, e1.trans e2, hb, hw, e2 _ _ h1, (by show 0 + sizeD 6 d ≤ 90000; omega), fun H3 ys e3 h3 hy => ?_⟩⟩
    replace hy : ys.length ≤ 0 + sizeD 6 d := hy
    refine q_appN h3 (ev_var rfl) (en_spotU (eu_tup (ea_cons ev_c ea_nil) (show 1 ≤ 100000 by decide)) (ea_cons ev_c (ea_cons ev_c ea_nil))) (by omega) fun v H4 e4 => ?_
    exact s_ret (v := .ref l) (ev_var rfl) fun H5 e5 => k _ _ (((e3.trans e4).mut hl).trans e5)
end
end EE
set_option Elab.async false
set_option linter.all false
set_option maxRecDepth 100000
set_option maxHeartbeats 4000000
namespace EE
open PySem L2 Evl
open C8 (Cal Mak cal0 mak0 pe_c pe_mk pe_gc fnScope_by)
section
variable {K : PySem.W.Frag} {σ : L2.St} {H H' : Hp} {ta tb tc te : TE} {t u : TT} {x y z v : V}
def rSortD : List V → Hp → VK → Prop := fun xs H Q => ∃ (a : Addr) (kvs : List (Key × V)) (ks : List Str), xs = [.ref a] ∧ Rd H a (.dK kvs) ∧ kvs.map (·.1) = ks.map Sum.inr ∧ ks.length < 64 ∧
    ∀ (ys : List Str) p, ys.Perm ks → PyProof.Rows.sortedS ys = true → H p = none → Q (.ref p) (upd H p (.lst (ys.map V.str)))
theorem cr_sortD {X : Cx} (hc : X.calm = true) : CallR X (.builtin "sorted") rSortD := call_sortedD hc
/-- for x in sorted(d): a body that makes new things alone -/
theorem s_forSort {a : Addr} {kvs : List (Key × V)} {ks : List Str} {D : Ends} {tu : TS} {j : Nat} (h : Ev te σ H (.ref a)) (ha : Rd H a (.dK kvs)) (hk : kvs.map (·.1) = ks.map Sum.inr) (hz : ks.length < 64) (S : L2.St → Prop) (h0 : S σ)
    (hs : ∀ z ∈ ks, ∀ σ' H1, Ex H H1 → S σ' → ∀ E : Ends, (∀ σ2 H2, S σ2 → Ex H1 H2 → E.nx σ2 H2) → tu E (σ'.set j (some (.str z))) H1) (k : ∀ σ' H1, S σ' → Ex H H1 → D.nx σ' H1) : tFor (iList K (tCB rSortD (tCons te tNil))) (gName j) tu D σ H :=
  h H (Ex.refl H) _ fun H1 e => ⟨a, kvs, ks, rfl, ex_rd e ha, hk, hz, fun ys p hp _ hn => ⟨p, rfl, ⟨_, sq_of upd_same⟩,
    for_list (xs := ys.map V.str) (fun _ σ' H' => S σ' ∧ Ex (upd H1 p (.lst (ys.map V.str))) H') ⟨h0, Ex.refl _⟩ (fun i σ' H' _ p' => sq_of (p'.2 _ _ upd_same)) (fun i x σ' H' hx p' => by
      obtain ⟨z, hz, rfl⟩ := List.mem_map.mp (List.mem_of_getElem? hx)
      have e' : Ex H H' := (e.trans (Ex.new hn)).trans p'.2
      exact hs z (hp.mem_iff.mp hz) σ' H' e' p'.1 _ fun σ2 H2 q1 q2 => ⟨q1, p'.2.trans q2⟩) (fun σ' H' p' => k σ' H' p'.1 ((e.trans (Ex.new hn)).trans p'.2))⟩⟩
theorem q_forSort {a : Addr} {kvs : List (Key × V)} {ks : List Str} {D : Ends} {tu tz : TS} {j : Nat} (h : Ev te σ H (.ref a)) (ha : Rd H a (.dK kvs)) (hk : kvs.map (·.1) = ks.map Sum.inr) (hz : ks.length < 64) (S : L2.St → Prop) (h0 : S σ)
    (hs : ∀ z ∈ ks, ∀ σ' H1, Ex H H1 → S σ' → ∀ E : Ends, (∀ σ2 H2, S σ2 → Ex H1 H2 → E.nx σ2 H2) → tu E (σ'.set j (some (.str z))) H1) (k : ∀ σ' H1, S σ' → Ex H H1 → tz D σ' H1) : tSeq (tFor (iList K (tCB rSortD (tCons te tNil))) (gName j) tu) tz D σ H :=
  s_forSort (D := { D with nx := tz D }) h ha hk hz S h0 hs k
end
section
variable {K : PySem.W.Frag} {σ : L2.St} {H H' : Hp} {ta tb tc te tv : TE} {t u : TT} {x y z v : V}
/-- without the object at x -/
def rmH (x : Addr) (H : Hp) : Hp := fun a => if a = x then none else H a
theorem rmH_at {x : Addr} : rmH x H x = none := if_pos rfl
theorem rmH_ne {x a : Addr} (h : a ≠ x) : rmH x H a = H a := if_neg h
theorem rmH_ex {x : Addr} : Ex (rmH x H) H := fun a o h => by
  by_cases e : a = x
  · subst e; rw [rmH_at] at h; cases h
  · rw [rmH_ne e] at h; exact h
theorem ex_rmH {x : Addr} {H0 : Hp} (hx : H0 x = none) (e : Ex H0 H) : Ex H0 (rmH x H) := fun a o h => by
  have hne : a ≠ x := fun z => by subst z; rw [hx] at h; cases h
  rw [rmH_ne hne]; exact e a o h
theorem rmH_put {x : Addr} {o : HO} : Ex (rmH x H) (upd H x o) := fun a u h => by
  by_cases e : a = x
  · subst e; rw [rmH_at] at h; cases h
  · rw [rmH_ne e] at h; rw [upd_ne e]; exact h
/-- a field of an object that is made, its value told -/
theorem q_fldR {D : Ends} {tz : TS} {x C dx : Addr} {fs : List (Str × V)} {f : Str} {H0 : Hp} (R : V → Hp → Prop) (hx : H0 x = none) (e0 : Ex H0 H) (ha : H x = some (.ins C dx fs)) (ho : σ[0]? = some (some (.ref x)))
    (h : ∀ Q : VK, (∀ v H1, Ex H H1 → R v H1 → Q v H1) → te σ H Q) (hR : ∀ v H1, H1 x = some (.ins C dx fs) → R v H1 → R v (rmH x H1)) (c : Cls K C) (n : NoAttr K C f) (hz : fs.length < 1000)
    (k : ∀ v B G, R v B → Ex H0 B → B x = none → Ex B G → G x = some (.ins C dx (putF f v fs)) → tz D σ G) : tSeq (sFld K (tVar 0) te f) tz D σ H :=
  h _ fun v H1 e1 r => ⟨_, ho, x, C, dx, fs, rfl, e1 _ _ ha, c, n, hz, k v _ _ (hR v H1 (e1 _ _ ha) r) (ex_rmH hx (e0.trans e1)) rmH_at rmH_put upd_same⟩
/-- the dict of a comprehension, as it stands at p -/
def DcAt (N : Addr → Prop) (H : Hp) (p : Addr) (U : Str → Option HO) (ks : List Str) : Prop := N p ∧ ∃ out, H p = some (.dK out) ∧ Paired (DcOut N H U) ks out
theorem DcAt.ex {N : Addr → Prop} {p : Addr} {U : Str → Option HO} {ks : List Str} (e : Ex H H') (h : DcAt N H p U ks) : DcAt N H' p U ks := by
  obtain ⟨hN, out, h1, h2⟩ := h
  exact ⟨hN, out, e _ _ h1, Paired.imp (fun _ _ r => DcOut.ex e r) h2⟩
def NoIns (u : HO) : Prop := ∀ C d f, u ≠ .ins C d f
theorem DcAt.rm {N : Addr → Prop} {p x C dx : Addr} {fs : List (Str × V)} {U : Str → Option HO} {ks : List Str} (hx : H x = some (.ins C dx fs)) (hU : ∀ n u, U n = some u → NoIns u) (h : DcAt N H p U ks) : DcAt N (rmH x H) p U ks := by
  obtain ⟨hN, out, h1, h2⟩ := h
  refine ⟨hN, out, by rw [rmH_ne (fun z => by subst z; rw [hx] at h1; cases h1)]; exact h1, Paired.imp (fun n kv r => ⟨r.1, fun u hu => ?_⟩) h2⟩
  obtain ⟨a, q1, qN, q2⟩ := r.2 u hu
  exact ⟨a, q1, qN, by rw [rmH_ne (fun z => by subst z; rw [hx] at q2; cases q2; exact hU n _ hu _ _ _ rfl)]; exact q2⟩
abbrev cnames (cs : List (Str × Cl)) : List Str := cs.map (·.1)
def RcD (N : Addr → Prop) (U : Str → Option HO) (ks : List Str) (v : V) (H : Hp) : Prop := ∃ p, v = .ref p ∧ DcAt N H p U ks
theorem RcD.rm {N : Addr → Prop} {x C dx : Addr} {fs : List (Str × V)} {U : Str → Option HO} {ks : List Str} (hU : ∀ n u, U n = some u → NoIns u) : ∀ v H, H x = some (.ins C dx fs) → RcD N U ks v H → RcD N U ks v (rmH x H) := fun v H hx ⟨p, e, d⟩ => ⟨p, e, d.rm hx hU⟩
def UF (cs : List (Str × Cl)) (n : Str) : Option HO := some (.tup ((allFields cs n).map V.str))
def UM (cs : List (Str × Cl)) (n : Str) : Option HO := some (.dK (allMs cs n))
theorem pairC_keys1 : ∀ {cs : List (Str × Cl)} {kvs : List (Key × V)}, Paired (RepC K H) cs kvs → kvs.map (·.1) = (cs.map (·.1)).map Sum.inr
  | [], [], .nil => rfl
  | c :: cs, p :: kvs, .cons h t => by
    rw [List.map_cons, List.map_cons, List.map_cons, pairC_keys1 t, h.1]
def SheetAt (N : Addr → Prop) (H : Hp) (fsx : List (Str × V)) (cs : List (Str × Cl)) : Prop := ∃ F M, fsx.lookup (Str.ofString "fields") = some (.ref F) ∧ fsx.lookup (Str.ofString "methods") = some (.ref M) ∧ DcAt N H F (UF cs) (cnames cs) ∧ DcAt N H M (UM cs) (cnames cs)
/-- the dict of shared names -/
def shK (ss : List (Str × Str)) : List (Key × V) := ss.map fun p => (Sum.inr p.1, V.str p.2)
structure RightSh (ss : List (Str × Str)) : Prop where
  nd : (ss.map (·.1)).Nodup
  four : ss.length ≤ 4
  nm : ∀ p ∈ ss, OkNm p.1 ∧ OkNm p.2
theorem shK_keys {ss : List (Str × Str)} : (shK ss).map (·.1) = (ss.map (·.1)).map Sum.inr := by unfold shK; rw [List.map_map, List.map_map]; rfl
theorem shK_val {ss : List (Str × Str)} {n : Str} (h : n ∈ ss.map (·.1)) : ∃ v, valV (shK ss) (Sum.inr n : Key) = some v := by
  have h1 := valV_keys (z := n) (shK_keys (ss := ss))
  rw [decide_eq_true h] at h1
  exact Option.isSome_iff_exists.mp h1
structure RightPl (fn : Fn) : Prop where
  wf : wfB 6 fn.blk = true
  sz : sizeD 6 fn.blk ≤ 80000
def sp_Sheet (K : PySem.W.Frag) (C : Addr) : Sp := fun vs H Q _ => ∃ x sh a b ss cs fs H0 dx, vs = [.ref x, .ref sh, .ref a, .ref b] ∧ H0 x = none ∧ Ex H0 H ∧ H x = some (.ins C dx []) ∧ H0 sh = some (.dK (shK ss)) ∧ RightSh ss ∧ RepD K H0 a cs ∧ Right cs ∧ RepFD K H0 b fs ∧ RightFs fs ∧ (∀ c ∈ fs, RightPl c.2) ∧
  ∀ H2 fsx, Ex H0 H2 → H2 x = some (.ins C dx fsx) → SheetAt (fun a => H0 a = none) H2 fsx cs → Q .non H2
/-- comprehensions over the classes, the functions -/
theorem q_dcC {a : Addr} {cs : List (Str × Cl)} {i j : Nat} {vs : List Nat} (hv : σ[i]? = some (some (.ref a))) (hc : RepD K H a cs) (hr : Right cs) (hw : ∀ x, wipe ((wipe σ vs).set j (some x)) vs = wipe σ vs) (hj : ∀ x, ((wipe σ vs).set j (some x))[j]? = some (some x))
    (U : Str → Option HO) (hU : ∀ n u, U n = some u → ∀ o x, u ≠ .frz o x) (N : Addr → Prop) (hN : ∀ a, H a = none → N a)
    (body : ∀ n, (look cs n).isSome = true → ∀ H1, RepCs K H1 a cs → ∀ Q : VK, (∀ v H2, Ex H1 H2 → (∀ u, U n = some u → ∃ a, v = .ref a ∧ H1 a = none ∧ H2 a = some u) → Q v H2) → tv ((wipe σ vs).set j (some (.str n))) H1 Q) :
    ∀ Q : VK, (∀ v H1, Ex H H1 → RcD N U (cnames cs) v H1 → Q v H1) → tLockE (tDc (iKeys (tVar i)) (gName j) tYes (tVar j) tv vs) σ H Q := fun Q q => by
  obtain ⟨kvs, h1, h2⟩ := hc
  exact q_dcKeys hv h1 (pairC_keys1 h2) hr.nd (by rw [List.length_map]; have := hr.six; omega) hw hj U hU N hN (fun od n hn H1 e1 Q k => body n (look_some hn) H1 (RepCs.ex e1 ⟨kvs, .inr ⟨od, upd_same⟩, repCs_lock h1 h2⟩) Q k) fun p H2 out hp e hp2 pr => q _ H2 e ⟨p, rfl, hN p hp, out, hp2, pr⟩
theorem q_dcF {b : Addr} {fs : List (Str × Fn)} {i j : Nat} {vs : List Nat} (hv : σ[i]? = some (some (.ref b))) (hc : RepFD K H b fs) (hr : RightFs fs) (hw : ∀ x, wipe ((wipe σ vs).set j (some x)) vs = wipe σ vs) (hj : ∀ x, ((wipe σ vs).set j (some x))[j]? = some (some x))
    (body : ∀ (n : Str) (fn : Fn) (t pt bt : Addr), lookA fs n = some fn → ∀ H1 kvs, Rd H1 b (.dK kvs) → valV kvs (Sum.inr n : Key) = some (.ref t) → SqT K H1 t [.ref pt, .int fn.lvl, .ref bt] → RepB K H1 bt fn.blk → EvN tv ((wipe σ vs).set j (some (.str n))) H1) : EvN (tLockE (tDc (iKeys (tVar i)) (gName j) tYes (tVar j) tv vs)) σ H := fun H0 e0 Q q => by
  obtain ⟨kvs, h1, h2⟩ := hc.ex e0
  refine q_dcKeys hv h1 (pairF_keys h2) hr.nd (by rw [List.length_map]; have := hr.len.2; omega) hw hj (fun _ => none) (fun _ _ h => nomatch h) (fun _ => True) (fun _ _ => trivial) (fun od n hn H1 e1 Q k => ?_) fun p H2 out _ e hp2 pr => q _ H2 e
  have h3 := pairA_mono (fun _ _ => RepF.le ((Le.lock h1 (od := od)).trans (Le.of e1))) h2
  rcases pairA_look keyF n h3 with ⟨z, _⟩ | ⟨fn, v, q1, q2, q3⟩
  · have := lookA_some hn
    rw [z] at this
    cases this
  · obtain ⟨_, t, pt, bt, rfl, r1, r2, r3⟩ := q3
    exact body n fn t pt bt q1 H1 kvs (.inr ⟨od, Lk.at e1⟩) q2 r1 r3 H1 (Ex.refl _) _ fun v H2 e2 => k v H2 e2 (fun _ h => nomatch h)
theorem EvN.dcC {a : Addr} {cs : List (Str × Cl)} {i j : Nat} {vs : List Nat} (hv : σ[i]? = some (some (.ref a))) (hc : RepD K H a cs) (hr : Right cs) (hw : ∀ x, wipe ((wipe σ vs).set j (some x)) vs = wipe σ vs) (hj : ∀ x, ((wipe σ vs).set j (some x))[j]? = some (some x))
    (body : ∀ n, (look cs n).isSome = true → ∀ H1, RepCs K H1 a cs → EvN tv ((wipe σ vs).set j (some (.str n))) H1) : EvN (tLockE (tDc (iKeys (tVar i)) (gName j) tYes (tVar j) tv vs)) σ H := fun H0 e0 Q q =>
  q_dcC hv (hc.ex e0) hr hw hj (fun _ => none) (fun _ _ h => nomatch h) (fun _ => True) (fun _ _ => trivial) (fun n hn H1 hr1 Q k => body n hn H1 hr1 H1 (Ex.refl _) _ fun v H2 e2 => k v H2 e2 (fun _ h => nomatch h)) Q fun v H1 e _ => q v H1 e
theorem n_tupOfL {xs : List V} (h : EvL te σ H xs) : EvN (tCB (fun xs H Q => ∃ p ys, xs = [.ref p] ∧ ((SqL K H p ys ∧ ∀ l, H l = none → Q (.ref l) (upd H l (.tup ys))) ∨ (SqT K H p ys ∧ Q (.ref p) H))) (tCons te tNil)) σ H := fun H1 e Q q =>
  h H1 e _ fun p H2 hp e2 h2 => ⟨p, xs, rfl, .inl ⟨sq_of h2, fun l hl => q _ _ (e2.trans (Ex.new hl))⟩⟩
theorem EvN.ofL {xs : List V} (h : EvL te σ H xs) : EvN te σ H := fun H1 e Q q => h H1 e _ fun p H2 _ e2 _ => q _ H2 e2
end
end EE
namespace EE
open PySem L2 Evl
open C8 (Cal Mak cal0 mak0 pe_c pe_mk pe_gc fnScope_by)
abbrev F_Sheet : List Str := ["shared_names", "first_words", "fields", "methods", "families", "class_levels", "parameters", "function_levels", "spots"]
structure TxtH (w : World) (K : PySem.W.Frag) (mg : Str → Option Value) extends TxtL w K mg where
  m_Sheet : ∃ C, MkC K mg "Sheet" "Sheet.__init__" s_Sheet_init P_Sheet_init F_Sheet C
section
variable {P : Program} {w : World} {K : PySem.W.Frag} {mg : Str → Option Value} {base : Heap} {sa : Addr} {rs : Str → Addr}
theorem sc_Sheet : FnScope N_Sheet_init P_Sheet_init (C8.fnScope s_Sheet_init) := fnScope_by (by decide +kernel)
theorem mk_Sheet (T : TxtH w K mg) (S : Shp w K mg sa rs) {C : Addr} (M : MkC K mg "Sheet" "Sheet.__init__" s_Sheet_init P_Sheet_init F_Sheet C) : Mak P w K mg base 32 "Sheet" C (sp_Sheet K C) [] := by
  refine mk_mak M sc_Sheet (fun vs H Q E h => ?_) (fun f cdv A outer s H vs Q E hr h => ?_)
  · obtain ⟨_, _, _, _, _, _, _, _, _, rfl, _⟩ := h
    rfl
  · obtain ⟨x, sh, a, b, ss, cs, fs, H0, dx, rfl, hx, e0, h0, hsh, hsr, hc, hcr, hf, hfr, hpl, k⟩ := h
    have nd := sc_Sheet.nd
    have hu := hu_of hr
    have bk : ∀ {scope : Scope}, True := trivial
    refine ⟨_, pss_cons (ps_fld (pv 0) (pe_callTy call_tuple_of (by rfl) T.tupT (by decide +kernel) (pa_cons (pe_callB (cr_sortD rfl) (by rfl) T.sortedT (by decide +kernel) (pa_cons (pv 1) pa_nil)) pa_nil)) (by rfl))
      (pss_cons (ps_fld (pv 0) (pe_callTy call_tuple_of (by rfl) T.tupT (by decide +kernel) (pa_cons (pe_lc (own := [("name", 4)]) (g := gName 4) (tt := tYes) rfl nd (pi_tup (pe_fld (pv 0) (by rfl))) (blkOk_by (N := N_Sheet_init) (sc := C8.fnScope s_Sheet_init) (by decide +kernel))
          (fun _ _ _ _ _ => pg_name (i := 4) nd rfl (Or.inl rfl)) (fun _ _ _ _ _ => pts_nil) (fun _ _ _ _ _ => pe_dget hu (pv 1) (pv 4) (fun _ _ => rfl))) pa_nil)) (by rfl))
      (pss_cons (ps_fld (pv 0) (pe_lock (pe_dc (own := [("name", 4)]) (g := gName 4) (tt := tYes) rfl nd (pi_keys (pv 2)) (blkOk_by (N := N_Sheet_init) (sc := C8.fnScope s_Sheet_init) (by decide +kernel)) (fun _ _ _ _ _ => pg_name (i := 4) nd rfl (Or.inl rfl)) (fun _ _ _ _ _ => pts_nil) (fun _ _ _ _ _ => pv 4)
          (fun _ _ _ _ _ => pe_c (ok_all_fields T.toTxtE.toTxtS.toTxtG.toTxt) hr (by decide) (by rfl) (pa_cons (pv 2) (pa_cons (pv 4) pa_nil))))) (by rfl))
      (pss_cons (ps_fld (pv 0) (pe_lock (pe_dc (own := [("name", 4)]) (g := gName 4) (tt := tYes) rfl nd (pi_keys (pv 2)) (blkOk_by (N := N_Sheet_init) (sc := C8.fnScope s_Sheet_init) (by decide +kernel)) (fun _ _ _ _ _ => pg_name (i := 4) nd rfl (Or.inl rfl)) (fun _ _ _ _ _ => pts_nil) (fun _ _ _ _ _ => pv 4)
          (fun _ _ _ _ _ => pe_c (ok_all_methods T.toTxtE.toTxtS.toTxtG.toTxt) hr (by decide) (by rfl) (pa_cons (pv 2) (pa_cons (pv 4) pa_nil))))) (by rfl))
      (pss_cons (ps_fld (pv 0) (pe_lock (pe_dc (own := [("name", 4)]) (g := gName 4) (tt := tYes) rfl nd (pi_keys (pv 2)) (blkOk_by (N := N_Sheet_init) (sc := C8.fnScope s_Sheet_init) (by decide +kernel)) (fun _ _ _ _ _ => pg_name (i := 4) nd rfl (Or.inl rfl)) (fun _ _ _ _ _ => pts_nil) (fun _ _ _ _ _ => pv 4)
          (fun _ _ _ _ _ => pe_c (ok_family_of T.toTxtE.toTxtS.toTxtG.toTxt) hr (by decide) (by rfl) (pa_cons (pv 2) (pa_cons (pv 4) pa_nil))))) (by rfl))
      (pss_cons (ps_fld (pv 0) (pe_lock (pe_dc (own := [("name", 4)]) (g := gName 4) (tt := tYes) rfl nd (pi_keys (pv 2)) (blkOk_by (N := N_Sheet_init) (sc := C8.fnScope s_Sheet_init) (by decide +kernel)) (fun _ _ _ _ _ => pg_name (i := 4) nd rfl (Or.inl rfl)) (fun _ _ _ _ _ => pts_nil) (fun _ _ _ _ _ => pv 4)
          (fun _ _ _ _ _ => pe_ix (show IxR _ (rIxT K) from ix_tup) (pe_dget hu (pv 2) (pv 4) (fun _ _ => rfl)) pe_int (fun _ _ => rfl)))) (by rfl))
      (pss_cons (ps_fld (pv 0) (pe_lock (pe_dc (own := [("name", 4)]) (g := gName 4) (tt := tYes) rfl nd (pi_keys (pv 3)) (blkOk_by (N := N_Sheet_init) (sc := C8.fnScope s_Sheet_init) (by decide +kernel)) (fun _ _ _ _ _ => pg_name (i := 4) nd rfl (Or.inl rfl)) (fun _ _ _ _ _ => pts_nil) (fun _ _ _ _ _ => pv 4)
          (fun _ _ _ _ _ => pe_ix (show IxR _ (rIxT K) from ix_tup) (pe_dget hu (pv 3) (pv 4) (fun _ _ => rfl)) pe_int (fun _ _ => rfl)))) (by rfl))
      (pss_cons (ps_fld (pv 0) (pe_lock (pe_dc (own := [("name", 4)]) (g := gName 4) (tt := tYes) rfl nd (pi_keys (pv 3)) (blkOk_by (N := N_Sheet_init) (sc := C8.fnScope s_Sheet_init) (by decide +kernel)) (fun _ _ _ _ _ => pg_name (i := 4) nd rfl (Or.inl rfl)) (fun _ _ _ _ _ => pts_nil) (fun _ _ _ _ _ => pv 4)
          (fun _ _ _ _ _ => pe_ix (show IxR _ (rIxT K) from ix_tup) (pe_dget hu (pv 3) (pv 4) (fun _ _ => rfl)) pe_int (fun _ _ => rfl)))) (by rfl))
      (pss_one (ps_fld (pv 0) (pe_lock (pe_dc (own := [("name", 4)]) (g := gName 4) (tt := tYes) rfl nd (pi_keys (pv 3)) (blkOk_by (N := N_Sheet_init) (sc := C8.fnScope s_Sheet_init) (by decide +kernel)) (fun _ _ _ _ _ => pg_name (i := 4) nd rfl (Or.inl rfl)) (fun _ _ _ _ _ => pts_nil) (fun _ _ _ _ _ => pv 4)
          (fun _ _ _ _ _ => pe_c (ok_spotsG T.toTxtL S) hr (by decide) (by rfl) (pa_cons (pe_ix (show IxR _ (rIxT K) from ix_tup) (pe_dget hu (pv 3) (pv 4) (fun _ _ => rfl)) pe_int (fun _ _ => rfl)) pa_nil)))) (by rfl)))))))))), ?_⟩
    have no : ∀ n ∈ F_Sheet, NoAttr K C n := M.no
    have lk : ∀ {n : Nat} {g : List (Str × V)}, g.length ≤ n → n < 1000 → g.length < 1000 := fun h1 h2 => Nat.lt_of_le_of_lt h1 h2
    have hkl : (shK ss).map (·.1) = (ss.map (·.1)).map Sum.inr := shK_keys
    refine q_fldR (fun v H => ∃ q ys, v = .ref q ∧ ys.Perm (ss.map (·.1)) ∧ SqT K H q (ys.map V.str)) hx e0 h0 rfl (fun Q q => ⟨_, rfl, sh, shK ss, ss.map (·.1), rfl, .inl (e0 _ _ hsh), hkl, (by rw [List.length_map]; have := hsr.four; omega), fun ys p hp _ hn =>
        ⟨p, ys.map V.str, rfl, .inl ⟨sq_of upd_same, fun l hl => q _ _ ((Ex.new hn).trans (Ex.new hl)) ⟨l, ys, rfl, hp, st_of upd_same⟩⟩⟩⟩) (fun v H1 hx1 ⟨q, ys, e, hp, h⟩ => ⟨q, ys, e, hp, by
        rcases h with (h | ⟨o, h⟩) | h
        · exact .inl (.inl (by rw [rmH_ne (fun z => by subst z; rw [hx1] at h; cases h)]; exact h))
        · exact .inl (.inr ⟨o, by rw [rmH_ne (fun z => by subst z; rw [hx1] at h; cases h)]; exact h⟩)
        · exact .inr h⟩) M.cls (no _ (by decide)) (by decide) fun v1 B1 G1 r1 b1 bx1 e1 g1 => ?_
    obtain ⟨q1, ys, rfl, hpm, hq1⟩ := r1
    refine q_fldO bx1 e1 g1 rfl (fun H1 e Q q => ?_) M.cls (no _ (by decide)) (lk (putF_le (Nat.le_refl 0)) (by decide)) fun v2 G2 e2 g2 => ?_
    · have hyl : ys.length ≤ 4 := by rw [hpm.length_eq, List.length_map]; exact hsr.four
      refine n_tupOfL (el_lcA (xs := ys.map V.str) (ys.map fun n => (valV (shK ss) (Sum.inr n : Key)).getD .non) (by rw [List.length_map, List.length_map]) (ei_tup (ev_fld (ev_var rfl) g1 M.cls (no _ (by decide)) (by rw [lookup_putF, if_pos rfl])) (ex_t e1 hq1)) (by rw [List.length_map]; omega) (fun _ => rfl) fun i x y H2 e2 hx2 hy2 => ?_) H1 e Q q
      obtain ⟨n, hn, rfl⟩ := map_get hx2
      obtain ⟨n', hn', rfl⟩ := map_get hy2
      rw [hn] at hn'
      cases hn'
      obtain ⟨v, hv⟩ := shK_val (hpm.mem_iff.mp (List.mem_of_getElem? hn))
      rw [hv]
      exact ev_dget (k := Sum.inr n) (ev_var rfl) (ev_var rfl) (.inl (e2 _ _ (e1 _ _ (b1 _ _ hsh)))) hv
    refine q_fldR (RcD (fun a => H0 a = none) (UF cs) (cnames cs)) bx1 e2 g2 rfl (q_dcC rfl (hc.ex (b1.trans e2)) hcr (fun _ => rfl) (fun _ => rfl) (UF cs) (fun n u hu o x z => by cases hu; cases z) _ (fun x hx => fresh_back (b1.trans e2) hx) fun n hn H1 hr1 Q q =>
        (eu_call (ea_cons (ev_var rfl) (ea_cons (ev_var rfl) ea_nil)) (u_all_fields hr1 hcr.small hn)) H1 (Ex.refl _) Q fun p H2 hp e2 h2 => q _ H2 e2 fun u hu => by cases hu; exact ⟨p, rfl, hp, h2⟩)
      (RcD.rm fun n u hu C d f z => by cases hu; cases z) M.cls (no _ (by decide)) (lk (putF_le (putF_le (Nat.le_refl 0))) (by decide)) fun v3 B3 G3 r3 b3 bx3 e3 g3 => ?_
    obtain ⟨F, rfl, hF⟩ := r3
    have c3 := b1.trans b3
    refine q_fldR (RcD (fun a => H0 a = none) (UM cs) (cnames cs)) bx3 e3 g3 rfl (q_dcC rfl (hc.ex (c3.trans e3)) hcr (fun _ => rfl) (fun _ => rfl) (UM cs) (fun n u hu o x z => by cases hu; cases z) _ (fun x hx => fresh_back (c3.trans e3) hx) fun n hn H1 hr1 Q q =>
        (ed_call (ea_cons (ev_var rfl) (ea_cons (ev_var rfl) ea_nil)) (d_all_methods hr1 hcr.small hn)) H1 (Ex.refl _) Q fun p H2 hp e2 h2 => q _ H2 e2 fun u hu => by cases hu; exact ⟨p, rfl, hp, h2⟩)
      (RcD.rm fun n u hu C d f z => by cases hu; cases z) M.cls (no _ (by decide)) (lk (putF_le (putF_le (putF_le (Nat.le_refl 0)))) (by decide)) fun v4 B4 G4 r4 b4 bx4 e4 g4 => ?_
    obtain ⟨Mm, rfl, hM⟩ := r4
    have c4 := c3.trans b4
    refine q_fldO bx4 e4 g4 rfl (.dcC rfl (hc.ex (c4.trans e4)) hcr (fun _ => rfl) (fun _ => rfl) fun n hn H1 hr1 => .ofL (el_call (ea_cons (ev_var rfl) (ea_cons (ev_var rfl) ea_nil)) (l_family_of hr1 hcr.small.toKnown hn))) M.cls (no _ (by decide)) (lk (putF_le (putF_le (putF_le (putF_le (Nat.le_refl 0))))) (by decide)) fun v5 G5 e5 g5 => ?_
    refine q_fldO bx4 e5 g5 rfl (.dcC rfl (hc.ex (c4.trans e5)) hcr (fun _ => rfl) (fun _ => rfl) fun n hn H1 hr1 => by
        obtain ⟨c, hco⟩ := Option.isSome_iff_exists.mp hn
        obtain ⟨kvs, v, h1, h2, h3⟩ := repC_at hr1 hco
        obtain ⟨_, t, f2, ms, rfl, g4, _⟩ := h3
        exact .of (ev_op (ev_dget (ev_var rfl) (ev_var rfl) h1 h2) ev_c (rv_ixT g4 (at_of (j := 1) rfl rfl)))) M.cls (no _ (by decide)) (lk (putF_le (putF_le (putF_le (putF_le (putF_le (Nat.le_refl 0)))))) (by decide)) fun v6 G6 e6 g6 => ?_
    refine q_fldO bx4 e6 g6 rfl (q_dcF rfl (hf.ex (c4.trans e6)) hfr (fun _ => rfl) (fun _ => rfl) fun n fn t pt bt hlk H1 kvs hd hv hs hb => .of (ev_op (ev_dget (k := Sum.inr n) (ev_var rfl) (ev_var rfl) hd hv) ev_c (rv_ixT hs (at_of (j := 0) rfl rfl)))) M.cls (no _ (by decide)) (lk (putF_le (putF_le (putF_le (putF_le (putF_le (putF_le (Nat.le_refl 0))))))) (by decide)) fun v7 G7 e7 g7 => ?_
    refine q_fldO bx4 e7 g7 rfl (q_dcF rfl (hf.ex (c4.trans e7)) hfr (fun _ => rfl) (fun _ => rfl) fun n fn t pt bt hlk H1 kvs hd hv hs hb => .of (ev_op (ev_dget (k := Sum.inr n) (ev_var rfl) (ev_var rfl) hd hv) ev_c (rv_ixT hs (at_of (j := 1) rfl rfl)))) M.cls (no _ (by decide)) (lk (putF_le (putF_le (putF_le (putF_le (putF_le (putF_le (putF_le (Nat.le_refl 0)))))))) (by decide)) fun v8 G8 e8 g8 => ?_
    refine s_fldO bx4 e8 g8 rfl (q_dcF rfl (hf.ex (c4.trans e8)) hfr (fun _ => rfl) (fun _ => rfl) fun n fn t pt bt hlk H1 kvs hd hv hs hb => n_spotsG (ev_op (ev_dget (k := Sum.inr n) (ev_var rfl) (ev_var rfl) hd hv) ev_c (rv_ixT hs (at_of (j := 2) rfl rfl))) hb (hpl _ (lookA_in hlk)).wf (hpl _ (lookA_in hlk)).sz) M.cls (no _ (by decide)) (lk (putF_le (putF_le (putF_le (putF_le (putF_le (putF_le (putF_le (putF_le (Nat.le_refl 0))))))))) (by decide)) fun v9 G9 e9 g9 => ?_
    refine k G9 _ (c4.trans e9) g9 ⟨F, Mm, ?_, ?_, hF.ex (b4.trans e9), hM.ex e9⟩
    · repeat rw [lookup_putF, if_neg (by decide)]
      rw [lookup_putF, if_pos rfl]
    · repeat rw [lookup_putF, if_neg (by decide)]
      rw [lookup_putF, if_pos rfl]
end
end EE
set_option Elab.async false
set_option linter.all false
set_option maxRecDepth 100000
set_option maxHeartbeats 4000000
namespace EE
open PySem L2 Evl
open C8 (Cal cal0 pe_c pe_gc fnScope_by)
section
variable {K : PySem.W.Frag} {σ : L2.St} {H H' : Hp} {ta tb tc te : TE} {t u : TT} {x y z v : V}
/-- for x in sorted(d): its index known, a body that may return -/
theorem q_forSortI {a : Addr} {kvs : List (Key × V)} {ks : List Str} {D : Ends} {tu tz : TS} {j : Nat} (h : Ev te σ H (.ref a)) (ha : Rd H a (.dK kvs)) (hk : kvs.map (·.1) = ks.map Sum.inr) (hz : ks.length < 64) (S : List Str → Nat → L2.St → Prop) (h0 : ∀ ys, S ys 0 σ)
    (hs : ∀ ys, ys.Perm ks → PyProof.Rows.sortedS ys = true → ∀ i z, ys[i]? = some z → ∀ σ' H1, Ex H H1 → S ys i σ' → ∀ E : Ends, (∀ σ2 H2, S ys (i + 1) σ2 → Ex H1 H2 → E.nx σ2 H2) → E.rt = D.rt → tu E (σ'.set j (some (.str z))) H1)
    (k : ∀ ys, ys.Perm ks → PyProof.Rows.sortedS ys = true → ∀ σ' H1, S ys ys.length σ' → Ex H H1 → tz D σ' H1) : tSeq (tFor (iList K (tCB rSortD (tCons te tNil))) (gName j) tu) tz D σ H :=
  h H (Ex.refl H) _ fun H1 e => ⟨a, kvs, ks, rfl, ex_rd e ha, hk, hz, fun ys p hp hsrt hn => ⟨p, rfl, ⟨_, sq_of upd_same⟩,
    for_list (xs := ys.map V.str) (fun i σ' H' => S ys i σ' ∧ Ex (upd H1 p (.lst (ys.map V.str))) H') ⟨h0 ys, Ex.refl _⟩ (fun i σ' H' _ p' => sq_of (p'.2 _ _ upd_same)) (fun i x σ' H' hx p' => by
      obtain ⟨z, hz, rfl⟩ := map_get hx
      have e' : Ex H H' := (e.trans (Ex.new hn)).trans p'.2
      exact hs ys hp hsrt i z hz σ' H' e' p'.1 _ (fun σ2 H2 q1 q2 => ⟨q1, p'.2.trans q2⟩) rfl) (fun σ' H' p' => by
      rw [List.length_map] at p'
      exact k ys hp hsrt σ' H' p'.1 ((e.trans (Ex.new hn)).trans p'.2))⟩⟩
end
section
variable {P : Program} {w : World} {K : PySem.W.Frag} {mg : Str → Option Value} {base : Heap} {sa : Addr} {rs : Str → Addr}
def blkOf (fs : List (Str × Fn)) (n : Str) : Dt := ((lookA fs n).map (·.blk)).getD .non
def firstBad (kn : Kn) (fs : List (Str × Fn)) (ys : List Str) : Option Str := ys.find? fun n => !okB kn 6 (blkOf fs n)
def badV : Option Str → V
  | none => .non
  | some n => .str ("block " ++ n)
abbrev knOf (ss : List (Str × Str)) (cs : List (Str × Cl)) (fs : List (Str × Fn)) : Kn := ⟨ss.map (·.1), cs.map (·.1), fs.map (·.1)⟩
/-- three dicts, right but for the blocks -/
structure PartsG (K : PySem.W.Frag) (H : Hp) (sh a b : Addr) (ss : List (Str × Str)) (cs : List (Str × Cl)) (fs : List (Str × Fn)) : Prop where
  hsh : H sh = some (.dK (shK ss))
  rsh : RightSh ss
  hcl : RepD K H a cs
  rcl : Right cs
  hfn : RepFD K H b fs
  rfn : RightFs fs
  ms : MethOk cs fs
  ne : a ≠ b
  nod : ∀ c ∈ fs, c.2.blk.nodes ≤ 39000
theorem PartsG.ex {H H' : Hp} {sh a b : Addr} {ss : List (Str × Str)} {cs : List (Str × Cl)} {fs : List (Str × Fn)} (e : Ex H H') (h : PartsG K H sh a b ss cs fs) : PartsG K H' sh a b ss cs fs := ⟨e _ _ h.hsh, h.rsh, h.hcl.ex e, h.rcl, h.hfn.ex e, h.rfn, h.ms, h.ne, h.nod⟩
def sp_fwG (K : PySem.W.Frag) : Sp := fun vs H Q _ => ∃ sh a b ss cs fs, vs = [.ref sh, .ref a, .ref b] ∧ PartsG K H sh a b ss cs fs ∧
  ∀ ys, ys.Perm (fs.map (·.1)) → PyProof.Rows.sortedS ys = true → ∀ H2, Ex H H2 → Q (badV (firstBad (knOf ss cs fs) fs ys)) H2
theorem v_shared {H : Hp} {sh : Addr} {ss : List (Str × Str)} (h : H sh = some (.dK (shK ss))) (hr : RightSh ss) : SpV (sp_is_dict_of_names K) [.ref sh] H (.bl true) := by
  have z := v_is_dict_of_names (K := K) (H := H) (v := .ref sh) (o := some (skv ss)) (ks := ss.map fun _ => true) (bs := ss.map fun _ => true) ⟨.inl ⟨sh, _, rfl, h, rfl⟩, fun kvs hk => by
    cases hk
    have a1 : ((skv ss).map fun p => kV p.1) = (ss.map (·.1)).map V.str := by unfold skv; rw [List.map_map, List.map_map]; rfl
    have a2 : ((skv ss).map fun p => p.2) = (ss.map (·.2)).map V.str := by unfold skv; rw [List.map_map, List.map_map]; rfl
    rw [a1, a2]
    have b1 := NmVs.ok (K := K) (H := H) (zs := ss.map (·.1)) fun z hz => by
      obtain ⟨p, hp, rfl⟩ := List.mem_map.mp hz
      exact (hr.nm p hp).1
    have b2 := NmVs.ok (K := K) (H := H) (zs := ss.map (·.2)) fun z hz => by
      obtain ⟨p, hp, rfl⟩ := List.mem_map.mp hz
      exact (hr.nm p hp).2
    have c1 : ((ss.map (·.1)).map fun _ => true) = ss.map fun _ => true := by rw [List.map_map]; rfl
    have c2 : ((ss.map (·.2)).map fun _ => true) = ss.map fun _ => true := by rw [List.map_map]; rfl
    rw [c1] at b1
    rw [c2] at b2
    exact ⟨b1, b2, by have := hr.four; simp [skv]; omega⟩⟩
  have er : dictNm (some (skv ss)) (ss.map fun _ => true) (ss.map fun _ => true) = true := by
    show (true && ((ss.map fun _ => true).all id && (ss.map fun _ => true).all id)) = true
    rw [all_true]; rfl
  rw [er] at z
  exact z
theorem blkOf_some {fs : List (Str × Fn)} {n : Str} {fn : Fn} (h : lookA fs n = some fn) : blkOf fs n = fn.blk := by unfold blkOf; rw [h]; rfl
theorem nm_short {z : Str} (h : OkNm z) : z.length ≤ 8 := by
  have h1 := h.1
  unfold isNm at h1
  simp only [Bool.and_eq_true, decide_eq_true_eq] at h1
  omega
theorem bad_at {kn : Kn} {fs : List (Str × Fn)} {ys : List Str} {i : Nat} {n : Str} (hi : ys[i]? = some n) (h0 : ∀ z ∈ ys.take i, okB kn 6 (blkOf fs z) = true) (hn : okB kn 6 (blkOf fs n) = false) : firstBad kn fs ys = some n := by
  unfold firstBad
  have e : ys = ys.take i ++ n :: ys.drop (i + 1) := by
    have hi' := (List.getElem?_eq_some_iff.mp hi).1
    have := List.take_append_drop i ys
    rw [List.drop_eq_getElem_cons hi', (List.getElem?_eq_some_iff.mp hi).2] at this
    exact this.symm
  rw [e, List.find?_append, List.find?_cons_of_pos (by simp [hn])]
  have : (ys.take i).find? (fun n => !okB kn 6 (blkOf fs n)) = none := List.find?_eq_none.mpr fun z hz => by simp [h0 z hz]
  rw [this]
  rfl
theorem bad_none {kn : Kn} {fs : List (Str × Fn)} {ys : List Str} (h0 : ∀ z ∈ ys, okB kn 6 (blkOf fs z) = true) : firstBad kn fs ys = none := List.find?_eq_none.mpr fun z hz => by simp [h0 z hz]
theorem sc_fwG : FnScope N_first_wrong_part P_first_wrong_part (C8.fnScope s_first_wrong_part) := fnScope_by (by decide +kernel)
theorem ok_fwG (T : TxtH w K mg) (S : Shp w K mg sa rs) : Cal P w K mg base 25 "first_wrong_part" (sp_fwG K) [] := by
  have T0 : Txt w K mg := T.toTxtE.toTxtS.toTxtG.toTxt
  refine mk_cal T.d_first_wrong_part sc_fwG (fun vs H Q E h => ?_) (fun f cdv A outer s H vs Q E hr h => ?_)
  · obtain ⟨_, _, _, _, _, _, rfl, _⟩ := h
    rfl
  · obtain ⟨sh, a, b, ss, cs, fs, rfl, hp, k⟩ := h
    have nd := sc_fwG.nd
    have hu := hu_of hr
    refine ⟨_, pss_cons (ps_if (PW.pt (pw_or (pt_not (pt_val (pe_c (ok_is_dict_of_names T0) hr (by decide) (by rfl) (pa_cons (pv 0) pa_nil)))) (pw_or1 (pt_cmpR op_gt (pe_callB call_lenD (by rfl) T.len (by decide +kernel) (pa_cons (pv 0) pa_nil)) (pe_gc (by rfl) T.c_MOST_SHARED) (nomark _))))) (pss_one ps_never) pss_nil)
      (pss_cons (ps_if (pt_not (pt_val (pe_c (ok_are_classes T0) hr (by decide) (by rfl) (pa_cons (pv 1) pa_nil)))) (pss_one ps_never) pss_nil)
      (pss_cons (ps_if (pt_not (pt_val (pe_c (ok_are_functions T0) hr (by decide) (by rfl) (pa_cons (pv 2) pa_nil)))) (pss_one ps_never) pss_nil)
      (pss_cons (ps_if (pt_not (pt_val (pe_c (ok_are_methods_of T0) hr (by decide) (by rfl) (pa_cons (pv 1) (pa_cons (pv 2) pa_nil))))) (pss_one ps_never) pss_nil)
      (pss_cons (ps_set (i := 3) nd rfl (Or.inl rfl) (pe_tup (pa_cons (pv 0) (pa_cons (pv 1) (pa_cons (pv 2) pa_nil)))))
      (pss_cons (ps_for PassesOwn.never rfl (pi_list (pe_callB (cr_sortD rfl) (by rfl) T.sortedT (by decide +kernel) (pa_cons (pv 2) pa_nil))) (pg_name (i := 4) nd rfl (Or.inl rfl))
        (pss_one (ps_if (pt_not (pt_val (pe_c (ok_blkG T.toTxtE.toTxtS S 6) hr (by decide) (by rfl) (pa_cons (pv 3) (pa_cons pe_int (pa_cons (pe_ix ix_tup (pe_dget hu (pv 2) (pv 4) (fun _ _ => rfl)) pe_int (fun _ _ => rfl)) pa_nil)))))) (pss_one (ps_ret (pe_joined (.cons pe_str (.cons (pe_fmt (pv 4)) .nil))))) pss_nil)))
      (pss_one (ps_ret pe_non))))))), ?_⟩
    refine q_no (et_orF (et_notT (et_B (ev_call (ea_cons (ev_var rfl) ea_nil) (v_shared hp.hsh hp.rsh)))) (et_test (ev_is (ev_op (ev_cb (ea_cons (ev_var rfl) ea_nil) (rc_lenD hp.hsh)) (ev_c (v := .int 4)) rv_I0) (by
      have := hp.rsh.four
      congr 1
      refine decide_eq_false ?_
      unfold shK
      rw [List.length_map]
      omega)))) fun H1 e1 => ?_
    refine q_no (et_notT (et_B (ev_call (ea_cons (ev_var rfl) ea_nil) (v_are_classes (hp.hcl.ex e1) hp.rcl)))) fun H2 e2 => ?_
    refine q_no (et_notT (et_B (ev_call (ea_cons (ev_var rfl) ea_nil) (v_are_functions (hp.hfn.ex (e1.trans e2)) hp.rfn)))) fun H3 e3 => ?_
    have e123 := (e1.trans e2).trans e3
    refine q_no (et_notT (et_B (ev_call (ea_cons (ev_var rfl) (ea_cons (ev_var rfl) ea_nil)) (v_are_methods_of (hp.hcl.ex e123) (hp.hfn.ex e123) hp.ms hp.ne)))) fun H4 e4 => ?_
    refine q_asgU (eu_tup (ea_cons (ev_var rfl) (ea_cons (ev_var rfl) (ea_cons (ev_var rfl) ea_nil))) (show 3 ≤ 100000 by decide)) fun pk H5 _ e5 h5 => ?_
    have e5' := (e123.trans e4).trans e5
    obtain ⟨kvs, f1, f2⟩ := hp.hfn
    obtain ⟨kvc, c1, c2⟩ := hp.hcl
    have kn5 : KnAt K H5 (.ref pk) (knOf ss cs fs) := ⟨pk, sh, a, b, rfl, st_of h5, ⟨_, .inl (e5' _ _ hp.hsh), shK_keys⟩, ⟨kvc, .inl (e5' _ _ c1), pairC_keys1 c2⟩, ⟨kvs, .inl (e5' _ _ f1), pairF_keys f2⟩⟩
    refine q_forSortI (ks := fs.map (·.1)) (ev_var rfl) (.inl (e5' _ _ f1)) (pairF_keys f2) (by rw [List.length_map]; have := hp.rfn.len.2; omega) (fun ys i σ' => (∃ v4, σ' = [some (.ref sh), some (.ref a), some (.ref b), some (.ref pk), v4]) ∧ ∀ z ∈ ys.take i, okB (knOf ss cs fs) 6 (blkOf fs z) = true) (fun ys => ⟨⟨_, rfl⟩, fun z hz => by rw [List.take_zero] at hz; cases hz⟩) ?_ ?_
    · rintro ys hperm hsrt i n hi σ' H6 e6 ⟨⟨v4, rfl⟩, h0⟩ D hD hrt
      have hn : n ∈ fs.map (·.1) := hperm.mem_iff.mp (List.mem_of_getElem? hi)
      have f2' := pairA_mono (fun _ _ => RepF.le (Le.of (e5'.trans e6))) f2
      rcases pairA_look keyF n f2' with ⟨q, _⟩ | ⟨fn, v, q1, q2, q3⟩
      · have := lookA_some hn
        rw [q] at this
        cases this
      · obtain ⟨_, t2, pt, bt, rfl, r1, r2, r3⟩ := q3
        have hnm : OkNm n := hp.rfn.nm _ (lookA_in q1)
        refine s_when (b := !okB (knOf ss cs fs) 6 fn.blk) (et_not (et_B (ev_call (ea_cons (ev_var rfl) (ea_cons ev_c (ea_cons (ev_op (ev_dget (k := Sum.inr n) (ev_var rfl) (ev_var rfl) (.inl ((e5'.trans e6) _ _ f1)) q2) ev_c (rv_ixT r1 (at_of (j := 2) rfl rfl))) ea_nil))) (v_blk (n := 6) (kn5.ex e6) r3 (hp.nod _ (lookA_in q1)))))) (fun hb H7 e7 => ?_) fun hb H7 e7 => hD _ _ ⟨⟨_, rfl⟩, fun z hz => ?_⟩ e7
        · have hbad : okB (knOf ss cs fs) 6 (blkOf fs n) = false := by rw [blkOf_some q1]; simpa using hb
          have hk := k ys hperm hsrt H7 ((e5'.trans e6).trans e7)
          rw [bad_at hi h0 hbad] at hk
          have hl := nm_short hnm
          have e1 : (Str.empty ++ ("block " : Str)) ++ n = ("block " : Str) ++ n := by
            rw [show Str.empty ++ ("block " : Str) = ("block " : Str) from by decide +kernel]
          refine ⟨_, rfl, by decide, _, rfl, .inl ⟨n, rfl, hnm.2, ⟨n, rfl, ?_, ?_⟩⟩⟩
          · rw [e1, Str.length_append, show ("block " : Str).length = 6 from by decide +kernel]
            have : 14 ≤ sizeLine := by decide
            omega
          · show D.rt _ H7
            rw [hrt]
            exact e1 ▸ hk
        · rw [List.take_add_one, hi, Option.toList_some] at hz
          rcases List.mem_append.mp hz with hz | hz
          · exact h0 z hz
          · rw [List.mem_singleton.mp hz, blkOf_some q1]
            simpa using hb
    · rintro ys hperm hsrt σ' H6 ⟨⟨v4, rfl⟩, h0⟩ e6
      rw [List.take_length] at h0
      have hk := fun H7 e7 => k ys hperm hsrt H7 ((e5'.trans e6).trans e7)
      rw [bad_none h0] at hk
      exact s_ret (v := .non) ev_c fun H7 e7 => hk H7 e7
end
end EE
set_option Elab.async false
set_option linter.all false
set_option maxRecDepth 100000
set_option maxHeartbeats 4000000
namespace EE
open PySem L2 Evl
open C8 (Cal Mak cal0 mak0 pe_c pe_mk pe_gc fnScope_by)
section
variable {P : Program} {w : World} {K : PySem.W.Frag} {mg : Str → Option Value} {base : Heap}
/-- as RepC, its dict of methods not at D -/
def RepCn (K : PySem.W.Frag) (D : Addr) (H : Hp) (c : Str × Cl) (p : Key × V) : Prop :=
  p.1 = Sum.inr c.1 ∧ ∃ t f m, p.2 = .ref t ∧ SqT K H t [optV c.2.par, .int c.2.lvl, .ref f, .ref m] ∧ SqT K H f (c.2.own.map V.str) ∧ H m = some (.dK (skv c.2.ms)) ∧ m ≠ D
theorem RepCn.ex {D : Addr} {H H' : Hp} {c : Str × Cl} {p : Key × V} (e : Ex H H') (h : RepCn K D H c p) : RepCn K D H' c p := by
  obtain ⟨h0, t, f, m, h1, h2, h3, h4, h5⟩ := h
  exact ⟨h0, t, f, m, h1, ex_t e h2, ex_t e h3, e _ _ h4, h5⟩
theorem RepCn.put {D : Addr} {H : Hp} {c : Str × Cl} {p : Key × V} {o o' : List (Key × V)} (hD : H D = some (.dK o)) (h : RepCn K D H c p) : RepCn K D (upd H D (.dK o')) c p := by
  obtain ⟨h0, t, f, m, h1, h2, h3, h4, h5⟩ := h
  exact ⟨h0, t, f, m, h1, sqT_put hD h2, sqT_put hD h3, by rw [upd_ne h5]; exact h4, h5⟩
theorem sqT_free {H : Hp} {a : Addr} {kvs : List (Key × V)} {od : Obj} (ha : H a = some (.frz od (.dK kvs))) {b : Addr} {xs : List V} (h : SqT K H b xs) : SqT K (upd H a (.dK kvs)) b xs := by
  rcases h with (h | ⟨o, h⟩) | h
  · exact .inl (.inl (by rw [upd_ne (fun z => by subst z; rw [ha] at h; cases h)]; exact h))
  · exact .inl (.inr ⟨o, by rw [upd_ne (fun z => by subst z; rw [ha] at h; cases h)]; exact h⟩)
  · exact .inr h
theorem RepCn.free {D a : Addr} {H : Hp} {kvs : List (Key × V)} {od : Obj} {c : Str × Cl} {p : Key × V} (ha : H a = some (.frz od (.dK kvs))) (h : RepCn K D H c p) : RepC K (upd H a (.dK kvs)) c p := by
  obtain ⟨h0, t, f, m, h1, h2, h3, h4, h5⟩ := h
  exact ⟨h0, t, f, m, h1, sqT_free ha h2, sqT_free ha h3, by rw [upd_ne (fun z => by subst z; rw [ha] at h4; cases h4)]; exact h4⟩
def sp_copy (K : PySem.W.Frag) : Sp := fun vs H Q _ => ∃ a cs, vs = [.ref a] ∧ RepD K H a cs ∧ Right cs ∧ ∀ p H2, H p = none → Ex H H2 → RepD K H2 p cs → Q (.ref p) H2
theorem sc_copy : FnScope N_copy_of_classes P_copy_of_classes (C8.fnScope s_copy_of_classes) := fnScope_by (by decide +kernel)
theorem ok_copy (T : Txt w K mg) : Cal P w K mg base 1 "copy_of_classes" (sp_copy K) [] := by
  refine mk_cal T.d_copy_of_classes sc_copy (fun vs H Q E h => ?_) (fun f cdv A outer s H vs Q E hr h => ?_)
  · obtain ⟨_, _, rfl, _⟩ := h
    rfl
  · obtain ⟨a, cs, rfl, hc, hcr, k⟩ := h
    have nd := sc_copy.nd
    refine ⟨_, pss_one (ps_ret (pe_lock (pe_dc (own := [("name", 1), ("parent", 2), ("rank", 3), ("fields", 4), ("methods", 5)]) (g := gTup K 2 (gCons (gName 1) (gCons (gTup K 4 (gCons (gName 2) (gCons (gName 3) (gCons (gName 4) (gCons (gName 5) gNil))))) gNil))) (tt := tYes) rfl nd
      (pi_items (pv 0)) (blkOk_by (N := N_copy_of_classes) (sc := C8.fnScope s_copy_of_classes) (by decide +kernel))
      (fun _ _ _ _ _ => pg_tup (by rfl) (pgs_cons (pg_name (i := 1) nd rfl (Or.inl rfl)) (pgs_cons (pg_tup (by rfl) (pgs_cons (pg_name (i := 2) nd rfl (Or.inl rfl)) (pgs_cons (pg_name (i := 3) nd rfl (Or.inl rfl)) (pgs_cons (pg_name (i := 4) nd rfl (Or.inl rfl)) (pgs_cons (pg_name (i := 5) nd rfl (Or.inl rfl)) pgs_nil))))) pgs_nil)))
      (fun _ _ _ _ _ => pts_nil) (fun _ _ _ _ _ => pv 1)
      (fun _ _ _ _ _ => pe_tup (pa_cons (pv 2) (pa_cons (pv 3) (pa_cons (pv 4) (pa_cons (pe_callTy cr_copyD (by rfl) T.dictT (by decide +kernel) (pa_cons (pv 5) pa_nil)) pa_nil)))))))), ?_⟩
    obtain ⟨kvs, h1, h2⟩ := hc
    have hlen : kvs.length = cs.length := (Paired.length h2).symm
    refine ⟨a, .dK kvs, h1, trivial, fun od => ⟨.ref a, rfl, a, od, kvs, rfl, upd_same, fun D hD => ?_⟩⟩
    have hDa : D ≠ a := fun z => by subst z; rw [upd_same] at hD; cases hD
    have hD0 : H D = none := by rw [upd_ne hDa] at hD; exact hD
    refine dc_it (walk_items (d := a) (o := od) (kvs := kvs)) (fun i H' => Ex (Lk H a kvs od) H' ∧ ∃ out, H' D = some (.dK out) ∧ Paired (RepCn K D H') (cs.take i) out)
      ⟨Ex.new hD, [], upd_same, .nil⟩ (fun i H' _ p => Lk.at p.1) (fun i x H' H'' hi p y => ?_) fun H' p => ?_
    · obtain ⟨p1, out, p2, p3⟩ := p
      obtain ⟨Tp, x1, y1, rfl, hT, rfl, g1, g2⟩ := y
      obtain ⟨kv, hkv, rfl, rfl⟩ : ∃ kv, kvs[i]? = some kv ∧ x1 = kV kv.1 ∧ y1 = kv.2 := by
        replace g1 : kvs[i]?.map (fun kv => kV kv.1) = some x1 := g1
        replace g2 : kvs[i]?.map Prod.snd = some y1 := g2
        cases hk : kvs[i]? with
        | none => rw [hk] at g1; cases g1
        | some kv => rw [hk] at g1 g2; cases g1; cases g2; exact ⟨kv, rfl, rfl, rfl⟩
      obtain ⟨c, hc, hrep⟩ : ∃ c, cs[i]? = some c ∧ RepC K (Lk H a kvs od) c kv := by
        have hv : (kvs.map fun p => p.2)[i]? = some kv.2 := by rw [List.getElem?_map, hkv]; rfl
        obtain ⟨c, h3, h4⟩ := pairC_get (repCs_lock (od := od) h1 h2) hv
        have hk2 : (kvs.map (·.1))[i]? = some kv.1 := by rw [List.getElem?_map, hkv]; rfl
        rw [pairC_keys1 h2, List.getElem?_map, List.getElem?_map, h3] at hk2
        have e : kv.1 = Sum.inr c.1 := (Option.some.inj hk2).symm
        exact ⟨c, h3, by rw [show kv = (Sum.inr c.1, kv.2) from Prod.ext e rfl]; exact h4⟩
      have e2 : Ex H' (upd H' Tp (.tup [kV kv.1, kv.2])) := Ex.new hT
      have hp0 : upd H' Tp (.tup [kV kv.1, kv.2]) Tp = some (.tup [kV kv.1, kv.2]) := upd_same
      have hrep2 := hrep.ex (p1.trans e2)
      generalize upd H' Tp (.tup [kV kv.1, kv.2]) = H2 at e2 hp0 hrep2
      obtain ⟨h0, t, fa, m, ht, r1, r2, r3⟩ := hrep2
      rw [h0, ht] at hp0
      refine ⟨Tp, _, rfl, st_of hp0, rfl, _, _, rfl, _, _, rfl, ⟨t, _, rfl, r1, rfl, _, _, rfl, _, _, rfl, _, _, rfl, _, _, rfl, rfl, rfl, ?_⟩⟩
      dsimp only [tYes]
      rw [if_pos rfl]
      refine ⟨rfl, _, rfl, _, rfl, _, rfl, _, rfl, _, rfl, m, _, rfl, .inl r3, fun q hq => ⟨(show 4 ≤ sizeLine by decide), fun tn htn => ?_⟩⟩
      have e3 : Ex H2 (upd H2 q (.dK (skv c.2.ms))) := Ex.new hq
      have e5 := e3.trans (Ex.new (o := .tup [optV c.2.par, .int c.2.lvl, .ref fa, .ref q]) htn)
      have hqD : q ≠ D := fun z => by subst z; rw [e2 _ _ p2] at hq; cases hq
      have hqn : q ≠ tn := fun z => by subst z; rw [upd_same] at htn; cases htn
      have p5 := e5 _ _ (e2 _ _ p2)
      have nf : valV out (Sum.inr c.1 : Key) = none := valV_fresh (fun _ _ r => r.1) p3 (take_fresh hcr.nd hc)
      have hol : out.length = (cs.take i).length := (Paired.length p3).symm
      have hol2 : (cs.take i).length ≤ 6 := by rw [List.length_take]; have := hcr.six; omega
      refine ⟨out, Sum.inr c.1, rfl, p5, sz_lt (by omega), ((p1.trans e2).trans e5).mut hD, _, upd_same, ?_⟩
      rw [putK_new _ nf, List.take_add_one, hc, Option.toList_some]
      exact paired_snoc (Paired.imp (fun _ _ r => (r.ex (e2.trans e5)).put p5) p3) (RepCn.put p5 ⟨rfl, tn, fa, q, rfl, st_of upd_same, ex_t e5 r2, by rw [upd_ne hqn]; exact upd_same, hqD⟩)
    · obtain ⟨p1, out, p2, p3⟩ := p
      rw [hlen, List.take_length] at p3
      refine ⟨Lk.at p1, k D _ hD0 (Lk.back h1 p1) ⟨out, by rw [upd_ne hDa]; exact p2, Paired.imp (fun c kv r => r.free (Lk.at p1)) p3⟩⟩
end
end EE
set_option Elab.async false
set_option linter.all false
set_option maxRecDepth 100000
set_option maxHeartbeats 4000000
namespace EE
open PySem L2 Evl
/-- C(e, ..), its __init__ may raise; what is raised may speak of the names that stand -/
def tMakeS (C : Addr) (sp : Sp) (E : L2.St → XK) (t : TA) : TE := fun σ H Q => tMake C sp [] (E σ) t σ H Q
theorem go_makeS {X : Cx} {CX : CXT} {k : Nat} {f C : Addr} {fd : FuncData} {ps : List Str} {sp : Sp} {E : XK} {pins : List (Addr × Obj)} {σ : L2.St} {H : Hp} {s : Shared} {Q : VK} {us : List Value} {vs : List V}
    (M : Mk X.K C f) (F : FnOk X.prog X.w X.K X.mg X.base CX k f fd ps sp) (hr : Room (k + 1) X.A) (hb : Binds X.K fd ps []) (hx : PassesAt CX X σ E) (I : L2.Inv X pins σ H s) (r : Vals vs us)
    (h : ∀ x dx : Addr, H x = none → H dx = none → dx ≠ x → sp (V.ref x :: vs) (upd (upd H dx (.own x)) x (.ins C dx [])) (fun v H2 => v = .non ∧ Q (.ref x) H2) E) : wpAny (model X.prog X.w) X.A (call (Value.ref C) us) (EP X pins σ Q) X.xe s := by
  have hq := h (s.heap.objs.size + 1) s.heap.objs.size (HOk.fresh I.hok (Nat.le_succ _)) (HOk.fresh I.hok (Nat.le_refl _)) (Nat.ne_of_lt (Nat.lt_succ_self _))
  have I2 := Inv.made (C := C) I
  have r2 : Vals (V.ref (s.heap.objs.size + 1) :: vs) (Value.ref (s.heap.objs.size + 1) :: us) := .cons rfl r
  have hl : (Value.ref (s.heap.objs.size + 1) :: us ++ []).length = ps.length := by
    have := Vals.length r2
    rw [List.append_nil, ← this]
    exact F.len _ _ _ _ hq
  have b := hb _ (Value.ref (s.heap.objs.size + 1) :: us) (Inv.kIn I2) hl
  rw [List.append_nil] at b
  refine wpAny_call (make_map (Inv.kIn I) M.makes M.init (beq_iff_eq.mp M.fn) (codeAny_mono (F.run _ X.stack _ _ _ _ _ _ _ (Room.make hr C us []) (Env0.make (Inv.env0 I2) C us []) b r2 hq) fun r s' hq' => ?_))
  cases r with
  | error e => exact hx pins _ _ e s' I2 hq'
  | ok fl =>
    cases fl with
    | ret u =>
      obtain ⟨v, H', I3, rv, ev, q3⟩ := Inv.after I2 hq'
      subst ev
      exact ⟨rv, V.ref (s.heap.objs.size + 1), H', I3, rfl, q3⟩
    | _ => exact hq'.elim
theorem pe_makeS {X : Cx} {CX : CXT} {k : Nat} {f C : Addr} {fd : FuncData} {ps : List Str} {sp : Sp} {E : L2.St → XK} {x : Str} {p pos : Pos} {e : Expr} {es : List Expr} {t : TA}
    (M : Mk X.K C f) (F : FnOk X.prog X.w X.K X.mg X.base CX k f fd ps sp) (hr : Room (k + 1) X.A) (hg : Gl X x) (hm : X.mg x = some (.ref C)) (hb : Binds X.K fd ps []) (hx : ∀ σ, PassesAt CX X σ (E σ)) (ha : PA X (e :: es) t)
    (hdb : (x == Str.ofString "__debug__") = false := by rfl) (he : starEach (e :: es) X.env = (false, eval e X.env) :: starEach es X.env := by rfl) (hpl : (backTo pos (starEach es X.env)).any (·.1) = false := by rfl) :
    PE X (.Call (.Name x p) (e :: es) [] pos) (tMakeS C sp E t) := by
  refine ⟨fun pins s σ H Q I h => wpAny_Call_Name_kw (ld_glob I hg hm (PySem.W.callWith_K I.ok.mod.kin M.kp (thn (ha.run pos pins s σ H _ I h) fun us s1 q => ?_) he hpl) hdb)⟩
  obtain ⟨vs, H1, I1, r, q⟩ := q
  refine ⟨Inv.kIn I1, go_makeS M F hr hb (hx σ) I1 r fun x dx h1 h2 h3 => ?_⟩
  have := q x dx h1 h2 h3
  rw [List.append_nil] at this
  exact this
end EE
set_option Elab.async false
set_option linter.all false
set_option maxRecDepth 100000
set_option maxHeartbeats 4000000
namespace EE
open PySem L2 Evl
open C8 (Cal Mak cal0 mak0 pe_c pe_mk pe_gc fnScope_by)
abbrev F_Program : List Str := ["_shared", "_classes", "_functions", "_plain", "sheet"]
/-- the error BadProgram -/
structure BpX (K : PySem.W.Frag) (mg : Str → Option Value) (C : Addr) : Prop where
  mgc : mg "BadProgram" = some (.ref C)
  ox : OexC K C
  xf : XfC K C
  no : PySem.W.findIn K (.ref C) "part" = some none
  te : PySem.W.exmOne K (.ref C) (.ref C) = some true
  ini : ∃ fI fd, PySem.W.findIn K (.ref C) "__init__" = some (some (.ref fI)) ∧ PySem.W.typeIn K (.ref fI) = some (.type "function") ∧ C8.Fun K "__init__" "BadProgram.__init__" s_BadProgram_init fI fd ∧ Binds K fd P_BadProgram_init []
structure TxtP (w : World) (K : PySem.W.Frag) (mg : Str → Option Value) extends TxtH w K mg where
  m_Program : ∃ C, MkC K mg "Program" "Program.__init__" s_Program_init P_Program_init F_Program C
  m_Bad : ∃ C, BpX K mg C
section
variable {K : PySem.W.Frag} {σ : L2.St} {H H' : Hp} {ta tb tc te tv : TE} {t u : TT} {x y z v : V}
theorem sqT_rm {x C dx : Addr} {fs : List (Str × V)} (hx : H x = some (.ins C dx fs)) {b : Addr} {xs : List V} (h : SqT K H b xs) : SqT K (rmH x H) b xs := by
  rcases h with (h | ⟨o, h⟩) | h
  · exact .inl (.inl (by rw [rmH_ne (fun z => by subst z; rw [hx] at h; cases h)]; exact h))
  · exact .inl (.inr ⟨o, by rw [rmH_ne (fun z => by subst z; rw [hx] at h; cases h)]; exact h⟩)
  · exact .inr h
theorem RepD.rm {x C dx : Addr} {fs : List (Str × V)} {a : Addr} {cs : List (Str × Cl)} (hx : H x = some (.ins C dx fs)) (h : RepD K H a cs) : RepD K (rmH x H) a cs := by
  obtain ⟨kvs, h1, h2⟩ := h
  refine ⟨kvs, by rw [rmH_ne (fun z => by subst z; rw [hx] at h1; cases h1)]; exact h1, Paired.imp (fun c p r => ?_) h2⟩
  obtain ⟨h0, t, f, m, g1, g2, g3, g4⟩ := r
  exact ⟨h0, t, f, m, g1, sqT_rm hx g2, sqT_rm hx g3, by rw [rmH_ne (fun z => by subst z; rw [hx] at g4; cases g4)]; exact g4⟩
mutual
theorem At.rm {x C dx : Addr} {fs : List (Str × V)} (hx : H x = some (.ins C dx fs)) : ∀ {v : V} {d : Dt}, At K H v d → At K (rmH x H) v d
  | _, _, .non => .non
  | _, _, .bl b => .bl b
  | _, _, .int i => .int i
  | _, _, .str z h => .str z h
  | _, _, .tup h r hz => .tup (sqT_rm hx h) (AtL.rm hx r) hz
  | _, _, .lst (a := a) h => .lst (by
      rcases h with (h | ⟨o, h⟩) | h
      · exact .inl (.inl (by rw [rmH_ne (fun z => by subst z; rw [hx] at h; cases h)]; exact h))
      · exact .inl (.inr ⟨o, by rw [rmH_ne (fun z => by subst z; rw [hx] at h; cases h)]; exact h⟩)
      · exact .inr h)
  | _, _, .dic (a := a) h => .dic (by
      rcases h with h | ⟨o, h⟩
      · exact .inl (by rw [rmH_ne (fun z => by subst z; rw [hx] at h; cases h)]; exact h)
      · exact .inr ⟨o, by rw [rmH_ne (fun z => by subst z; rw [hx] at h; cases h)]; exact h⟩)
  | _, _, .odd (a := a) h => .odd (by
      rcases h with h | ⟨o, h⟩
      · exact .inl (by rw [rmH_ne (fun z => by subst z; rw [hx] at h; cases h)]; exact h)
      · exact .inr ⟨o, by rw [rmH_ne (fun z => by subst z; rw [hx] at h; cases h)]; exact h⟩)
theorem AtL.rm {x C dx : Addr} {fs : List (Str × V)} (hx : H x = some (.ins C dx fs)) : ∀ {vs : List V} {ds : List Dt}, AtL K H vs ds → AtL K (rmH x H) vs ds
  | _, _, .nil => .nil
  | _, _, .cons h t => .cons (At.rm hx h) (AtL.rm hx t)
end
theorem RepFD.rm {x C dx : Addr} {fs : List (Str × V)} {a : Addr} {cs : List (Str × Fn)} (hx : H x = some (.ins C dx fs)) (h : RepFD K H a cs) : RepFD K (rmH x H) a cs := by
  obtain ⟨kvs, h1, h2⟩ := h
  refine ⟨kvs, by rw [rmH_ne (fun z => by subst z; rw [hx] at h1; cases h1)]; exact h1, Paired.imp (fun c p r => ?_) h2⟩
  obtain ⟨h0, t, pt, bt, g1, g2, g3, g4⟩ := r
  exact ⟨h0, t, pt, bt, g1, sqT_rm hx g2, sqT_rm hx g3, At.rm hx g4⟩
theorem SheetAt.ex {N : Addr → Prop} {fsx : List (Str × V)} {cs : List (Str × Cl)} (e : Ex H H') (h : SheetAt N H fsx cs) : SheetAt N H' fsx cs := by
  obtain ⟨F, M, h1, h2, h3, h4⟩ := h
  exact ⟨F, M, h1, h2, h3.ex e, h4.ex e⟩
theorem SheetAt.rm {N : Addr → Prop} {x C dx : Addr} {fs : List (Str × V)} {fsx : List (Str × V)} {cs : List (Str × Cl)} (hx : H x = some (.ins C dx fs)) (h : SheetAt N H fsx cs) : SheetAt N (rmH x H) fsx cs := by
  obtain ⟨F, M, h1, h2, h3, h4⟩ := h
  exact ⟨F, M, h1, h2, h3.rm hx (fun n u hu C d f z => by cases hu; cases z), h4.rm hx (fun n u hu C d f z => by cases hu; cases z)⟩
theorem DcOut.weak {N N' : Addr → Prop} {U : Str → Option HO} {n : Str} {kv : Key × V} (w : ∀ a, N a → N' a) (h : DcOut N H U n kv) : DcOut N' H U n kv := ⟨h.1, fun u hu => let ⟨a, h1, h3, h2⟩ := h.2 u hu; ⟨a, h1, w a h3, h2⟩⟩
theorem DcAt.weak {N N' : Addr → Prop} {p : Addr} {U : Str → Option HO} {ks : List Str} (w : ∀ a, N a → N' a) (h : DcAt N H p U ks) : DcAt N' H p U ks := ⟨w p h.1, let ⟨out, h1, h2⟩ := h.2; ⟨out, h1, Paired.imp (fun _ _ r => r.weak w) h2⟩⟩
theorem SheetAt.weak {N N' : Addr → Prop} {fsx : List (Str × V)} {cs : List (Str × Cl)} (w : ∀ a, N a → N' a) (h : SheetAt N H fsx cs) : SheetAt N' H fsx cs := by
  obtain ⟨F, M, h1, h2, h3, h4⟩ := h
  exact ⟨F, M, h1, h2, h3.weak w, h4.weak w⟩
def ProgAt (N : Addr → Prop) (CS : Addr) (H : Hp) (fsx : List (Str × V)) (cs : List (Str × Cl)) : Prop := ∃ s dxs fss, fsx.lookup (Str.ofString "sheet") = some (.ref s) ∧ N s ∧ H s = some (.ins CS dxs fss) ∧ SheetAt N H fss cs
/-- what a program tells of itself -/
structure ProgG (K : PySem.W.Frag) (N : Addr → Prop) (CS : Addr) (H : Hp) (fsx : List (Str × V)) (ss : List (Str × Str)) (cs : List (Str × Cl)) (fs : List (Str × Fn)) (kvs : List (Key × V)) : Prop where
  sheet : ProgAt N CS H fsx cs
  sh : ∃ p, FldIs fsx "_shared" (.ref p) ∧ N p ∧ H p = some (.dK (shK ss))
  cl : ∃ p, FldIs fsx "_classes" (.ref p) ∧ N p ∧ RepD K H p cs
  fn : ∃ p, FldIs fsx "_functions" (.ref p) ∧ N p ∧ H p = some (.dK kvs)
  pl : ∃ p, FldIs fsx "_plain" (.ref p) ∧ N p ∧ RepFD K H p (fs.map plF)
/-- BadProgram with this part -/
def BadX (CB : Addr) (z : Str) (H : Hp) (E : XK) : Prop := ∀ d H2, Ex H H2 → H d = none → H2 d = some (.xd [(Str.ofString "part", .str z)]) → E (.ref CB) (some d) H2
def sp_ProgG (K : PySem.W.Frag) (C CS CB : Addr) : Sp := fun vs H Q E => ∃ x sh a b ss cs fs H0 dx, vs = [.ref x, .ref sh, .ref a, .ref b] ∧ H0 x = none ∧ Ex H0 H ∧ H x = some (.ins C dx []) ∧ PartsG K H0 sh a b ss cs fs ∧
  ∀ ys, ys.Perm (fs.map (·.1)) → PyProof.Rows.sortedS ys = true →
    (∀ n, firstBad (knOf ss cs fs) fs ys = some n → BadX CB ("block " ++ n) H0 E) ∧
    (firstBad (knOf ss cs fs) fs ys = none → (∀ c ∈ fs, RightBk c.2 ∧ sizeD 6 (plF c).2.blk ≤ 80000) ∧ ∀ kvs, H0 b = some (.dK kvs) → ∀ H2 fsx, Ex H0 H2 → H2 x = some (.ins C dx fsx) → ProgG K (fun a => H0 a = none) CS H2 fsx ss cs fs kvs → Q .non H2)
theorem rightFs_pl {fs : List (Str × Fn)} (h : RightFs fs) : RightFs (fs.map plF) := by
  refine ⟨by rw [List.length_map]; exact h.len, fun c hc => ?_, fun c hc => ?_, ?_⟩
  · obtain ⟨c0, h0, rfl⟩ := List.mem_map.mp hc
    exact h.nm c0 h0
  · obtain ⟨c0, h0, rfl⟩ := List.mem_map.mp hc
    exact ⟨(h.fn c0 h0).lvl, (h.fn c0 h0).ps⟩
  · rw [List.map_map]
    exact h.nd
end
section
variable {P : Program} {w : World} {K : PySem.W.Frag} {mg : Str → Option Value} {base : Heap}
theorem fnX {x qual : Str} {st : Stmt} {f : Addr} {fd : FuncData} {N ps : List Str} {k : Nat} {sp : Sp} (F : C8.Fun K x qual st f fd) (S : FnScope N ps (C8.fnScope st)) (len : ∀ vs H Q E, sp vs H Q E → vs.length = ps.length)
    (hbody : ∀ (cdv : Value) (A : Around) (outer : List Env) (s : Shared) (H : Hp) (vs : List V) (Q : VK) (E : XK), Room k (A.deeper (PyProof.Rows.envOfC qual (C8.fnScope st) s.heap.objs.size f cdv)) → sp vs H Q E →
      ∃ t, PSs (cxOf (L2.CX P w) P w K mg base N qual (C8.fnScope st) f cdv A outer s H E) (C8.fnBody st) t ∧ t { nx := fun _ H' => Q .non H', rt := Q } (start N vs) H) : FnOk P w K mg base (L2.CX P w) (k + 1) f fd ps sp := by
  obtain ⟨oc, od, dV, kV, doc, pm, an, cdv, ct, osl, rfl, lk, hcd⟩ := F.ex
  exact fn_of lk hcd S len fun A outer s H vs Q E hr hsp => hbody cdv A outer s H vs Q E hr hsp
/-! BadProgram's own making -/
def sp_BP (C : Addr) : Sp := fun vs H Q _ => ∃ e v, vs = [.ref e, v] ∧ H e = some (exo e C none) ∧ ∀ dx, H dx = none → dx ≠ e → Q .non (upd (upd H dx (exd dx [(Str.ofString "part", v)])) e (exo e C (some dx)))
theorem sc_BP : FnScope N_BadProgram_init P_BadProgram_init (C8.fnScope s_BadProgram_init) := fnScope_by (by decide +kernel)
theorem ok_BP {C fI : Addr} {fd : FuncData} (M : BpX K mg C) (F : C8.Fun K "__init__" "BadProgram.__init__" s_BadProgram_init fI fd) : FnOk P w K mg base C8.CX0 1 fI fd P_BadProgram_init (sp_BP C) := by
  refine C8.fn0 F sc_BP (fun vs H Q E h => ?_) (fun cdv A outer s H vs Q E hr h => ?_)
  · obtain ⟨_, _, rfl, _⟩ := h
    rfl
  · obtain ⟨e, v, rfl, he, k⟩ := h
    refine ⟨_, pss_one (ps_ost (pv 0) (pv 1) (by rfl)), ?_⟩
    exact ⟨_, rfl, _, rfl, e, C, rfl, M.ox, M.no, .inl ⟨he, fun dx hdx hne => k dx hdx hne⟩⟩
theorem pmk_BP {X : Cx} {C fI : Addr} {fd : FuncData} {a : Expr} {ta : TA} {p pos : Pos} (M : BpX X.K X.mg C) (iC : PySem.W.findIn X.K (.ref C) "__init__" = some (some (.ref fI))) (tI : PySem.W.typeIn X.K (.ref fI) = some (.type "function"))
    (F : C8.Fun X.K "__init__" "BadProgram.__init__" s_BadProgram_init fI fd) (b : Binds X.K fd P_BadProgram_init []) (hr : Room 2 X.A) (hg : Gl X "BadProgram") (ha : PA X [a] ta) (he : starEach (a :: []) X.env = (false, eval a X.env) :: starEach [] X.env := by rfl) (hpl : (backTo pos (starEach [] X.env)).any (·.1) = false := by rfl) :
    PMk X (.Call (.Name "BadProgram" p) [a] [] pos) (tMkO C (sp_BP C) [] ta) :=
  pmk_oex M.ox iC tI (ok_BP M F) hr b .nil C8.pass0 hg M.mgc ha (by decide) he hpl
theorem mkO_BP {σ : L2.St} {H : Hp} {te : TE} {v : V} {C : Addr} {Q : XK} (h : Ev te σ H v) (k : ∀ d H1, Ex H H1 → H d = none → H1 d = some (.xd [(Str.ofString "part", v)]) → Q (.ref C) (some d) H1) : tMkO C (sp_BP C) [] (tCons te tNil) σ H Q :=
  h H (Ex.refl H) _ fun H1 e1 => ⟨show 1 ≤ 1000 by decide, fun a ha => ⟨a, v, rfl, upd_same, fun dx hdx hne => by
    rw [upd_ne hne] at hdx
    refine ⟨rfl, dx, _, upd_same, by rw [upd_ne hne, upd_same], hdx, k dx _ (e1.trans fun b o hb => ?_) (fresh_back e1 hdx) upd_same⟩
    have h1 : b ≠ a := fun z => by subst z; rw [ha] at hb; cases hb
    have h2 : b ≠ dx := fun z => by subst z; rw [hdx] at hb; cases hb
    rw [upd_ne h2, del_ne h1, upd_ne h1, upd_ne h2, upd_ne h1]
    exact hb⟩⟩
end
end EE
set_option Elab.async false
set_option linter.all false
set_option maxRecDepth 100000
set_option maxHeartbeats 4000000
namespace EE
open PySem L2 Evl
open C8 (Cal Mak cal0 mak0 pe_c pe_mk pe_gc fnScope_by)
section
variable {K : PySem.W.Frag} {σ : L2.St} {H : Hp}
theorem q_fw {D : Ends} {tz : TS} {i : Nat} {sh a b : Addr} {ss : List (Str × Str)} {cs : List (Str × Cl)} {fs : List (Str × Fn)} {E : XK} {t : TA} (h : EvA t σ H [.ref sh, .ref a, .ref b]) (hp : PartsG K H sh a b ss cs fs)
    (k : ∀ ys, ys.Perm (fs.map (·.1)) → PyProof.Rows.sortedS ys = true → ∀ H1, Ex H H1 → tz D (σ.set i (some (badV (firstBad (knOf ss cs fs) fs ys)))) H1) : tSeq (tAsg (tCall (sp_fwG K) [] E t) (gName i)) tz D σ H :=
  h H (Ex.refl H) _ fun H1 e1 => ⟨sh, a, b, ss, cs, fs, by rw [List.append_nil], hp.ex e1, fun ys h1 h2 H2 e2 => k ys h1 h2 H2 (e1.trans e2)⟩
end
section
variable {P : Program} {w : World} {K : PySem.W.Frag} {mg : Str → Option Value} {base : Heap} {sa : Addr} {rs : Str → Addr}
theorem sc_ProgG : FnScope N_Program_init P_Program_init (C8.fnScope s_Program_init) := fnScope_by (by decide +kernel)
theorem fn_ProgG (T : TxtP w K mg) (S : Shp w K mg sa rs) {C CS CB fP : Addr} {fdP : FuncData} (M : MkC K mg "Program" "Program.__init__" s_Program_init P_Program_init F_Program C) (MS : MkC K mg "Sheet" "Sheet.__init__" s_Sheet_init P_Sheet_init F_Sheet CS) (MB : BpX K mg CB)
    (FP : C8.Fun K "__init__" "Program.__init__" s_Program_init fP fdP) : FnOk P w K mg base (L2.CX P w) 34 fP fdP P_Program_init (sp_ProgG K C CS CB) := by
  have T0 : Txt w K mg := T.toTxtE.toTxtS.toTxtG.toTxt
  obtain ⟨fI, fd, iC, tI, F, bB⟩ := MB.ini
  refine fnX FP sc_ProgG (fun vs H Q E h => ?_) (fun cdv A outer s H vs Q E hr h => ?_)
  · obtain ⟨_, _, _, _, _, _, _, _, _, rfl, _⟩ := h
    rfl
  · obtain ⟨x, sh, a, b, ss, cs, fs, H0, dx, rfl, hx, e0, h0, hp, k⟩ := h
    have nd := sc_ProgG.nd
    have hu := hu_of hr
    have no : ∀ n ∈ F_Program, NoAttr K C n := M.no
    have lk : ∀ {n : Nat} {g : List (Str × V)}, g.length ≤ n → n < 1000 → g.length < 1000 := fun h1 h2 => Nat.lt_of_le_of_lt h1 h2
    refine ⟨_, pss_cons (ps_set (i := 4) nd rfl (Or.inl rfl) (pe_c (ok_fwG T.toTxtH S) hr (by decide) (by rfl) (pa_cons (pv 1) (pa_cons (pv 2) (pa_cons (pv 3) pa_nil)))))
      (pss_cons (ps_if (pt_cmpR op_notN (pv 4) pe_non (nomark _)) (pss_one (ps_raise rfl (takes_of rfl rfl rfl rfl) (pmk_BP MB iC tI F bB (hr.mono (by decide)) (by rfl) (pa_cons (pv 4) pa_nil)))) pss_nil)
      (pss_cons (ps_set (i := 5) nd rfl (Or.inl rfl) (pe_c (ok_plF T.toTxtE S) hr (by decide) (by rfl) (pa_cons (pv 3) pa_nil)))
      (pss_cons (ps_if (pt_cmpR op_isN (pv 5) pe_non (nomark _)) (pss_one ps_never) pss_nil)
      (pss_cons (ps_fld (pv 0) (pe_callTy cr_copyD (by rfl) T.dictT (by decide +kernel) (pa_cons (pv 1) pa_nil)) (by rfl))
      (pss_cons (ps_fld (pv 0) (pe_c (ok_copy T0) hr (by decide) (by rfl) (pa_cons (pv 2) pa_nil)) (by rfl))
      (pss_cons (ps_fld (pv 0) (pe_callTy cr_copyD (by rfl) T.dictT (by decide +kernel) (pa_cons (pv 3) pa_nil)) (by rfl))
      (pss_cons (ps_fld (pv 0) (pv 5) (by rfl))
      (pss_one (ps_fld (pv 0) (pe_mk (mk_Sheet T.toTxtH S MS) hr (by decide) (by rfl) (pa_cons (pe_fld (pv 0) (by rfl)) (pa_cons (pe_fld (pv 0) (by rfl)) (pa_cons (pv 5) pa_nil)))) (by rfl)))))))))), ?_⟩
    refine q_fw (ea_cons (ev_var rfl) (ea_cons (ev_var rfl) (ea_cons (ev_var rfl) ea_nil))) (hp.ex e0) fun ys hperm hsrt H1 e1 => ?_
    obtain ⟨kb, kg⟩ := k ys hperm hsrt
    generalize firstBad (knOf ss cs fs) fs ys = q at kb kg ⊢
    cases q with
    | some n =>
      refine q_when (b := true) (et_test (ev_is (ev_op (ev_var (v := .str ("block " ++ n)) rfl) ev_c rv_notN) rfl)) (fun _ H2 e2 => mkO_BP (ev_var (v := .str ("block " ++ n)) rfl) fun d H3 e3 hd h3 => ?_) (fun z => nomatch z)
      have f3 := (e0.trans e1).trans e2
      exact kb n rfl d H3 (f3.trans e3) (fresh_back f3 hd) h3
    | none =>
      obtain ⟨hbk, k⟩ := kg rfl
      refine q_no (et_test (ev_is (ev_op (ev_var (v := .non) rfl) ev_c rv_notN) rfl)) fun H2 e2 => ?_
      have f2 := (e0.trans e1).trans e2
      obtain ⟨kf, f1, hkf⟩ := hp.hfn
      refine ⟨_, rfl, b, fs, rfl, hp.hfn.ex f2, hp.rfn, fun c hc => (hbk c hc).1, fun pl H3 hpl e3 hpf => ?_⟩
      refine q_no (et_test (ev_is (ev_op (ev_var (v := .ref pl) rfl) ev_c rv_isN) rfl)) fun H4 e4 => ?_
      have f4 := (f2.trans e3).trans e4
      have g4 : H4 x = some (.ins C dx []) := e4 _ _ (e3 _ _ (e2 _ _ (e1 _ _ h0)))
      have b0 : Ex H0 (rmH x H4) := ex_rmH hx f4
      have hpf0 : RepFD K (rmH x H4) pl (fs.map plF) := (hpf.ex e4).rm g4
      have npl : H0 pl = none := fresh_back f2 hpl
      refine q_fldR (fun v H => ∃ q, v = .ref q ∧ H0 q = none ∧ H q = some (.dK (shK ss))) (H0 := rmH x H4) rmH_at rmH_ex g4 rfl (fun Q q => ⟨_, rfl, sh, shK ss, rfl, .inl (f4 _ _ hp.hsh), fun p hp => q _ _ (Ex.new hp) ⟨p, rfl, fresh_back f4 hp, upd_same⟩⟩)
        (fun v H1 hx1 ⟨q, e, h', h⟩ => ⟨q, e, h', by rw [rmH_ne (fun z => by subst z; rw [hx1] at h; cases h)]; exact h⟩) M.cls (no _ (by decide)) (by decide) fun v1 B1 G1 r1 b1 bx1 x1 g1 => ?_
      obtain ⟨sh2, rfl, nsh, hs2⟩ := r1
      refine q_fldR (fun v H => ∃ q, v = .ref q ∧ H0 q = none ∧ RepD K H q cs) bx1 x1 g1 rfl (fun Q q => ⟨_, rfl, a, cs, rfl, hp.hcl.ex ((b0.trans b1).trans x1), hp.rcl, fun p H2 hp e hd => q _ _ e ⟨p, rfl, fresh_back ((b0.trans b1).trans x1) hp, hd⟩⟩)
        (fun v H1 hx1 ⟨q, e, h', h⟩ => ⟨q, e, h', h.rm hx1⟩) M.cls (no _ (by decide)) (lk (putF_le (Nat.le_refl 0)) (by decide)) fun v2 B2 G2 r2 b2 bx2 x2 g2 => ?_
      obtain ⟨a2, rfl, na2, ha2⟩ := r2
      have c2 := (b0.trans b1).trans b2
      refine q_fldR (fun v H => ∃ q, v = .ref q ∧ H0 q = none ∧ H q = some (.dK kf)) bx2 x2 g2 rfl (fun Q q => ⟨_, rfl, b, kf, rfl, .inl ((c2.trans x2) _ _ f1), fun p hp => q _ _ (Ex.new hp) ⟨p, rfl, fresh_back (c2.trans x2) hp, upd_same⟩⟩)
        (fun v H1 hx1 ⟨q, e, h', h⟩ => ⟨q, e, h', by rw [rmH_ne (fun z => by subst z; rw [hx1] at h; cases h)]; exact h⟩) M.cls (no _ (by decide)) (lk (putF_le (putF_le (Nat.le_refl 0))) (by decide)) fun v3 B3 G3 r3 b3 bx3 x3 g3 => ?_
      obtain ⟨f3, rfl, nf3, hf3⟩ := r3
      refine q_fldV bx3 x3 g3 rfl (ev_var (v := .ref pl) rfl) M.cls (no _ (by decide)) (lk (putF_le (putF_le (putF_le (Nat.le_refl 0)))) (by decide)) fun G4 x4 g4 => ?_
      have hl : ∀ {n : Str}, n = "_shared" → (putF "_plain" (.ref pl) (putF "_functions" (.ref f3) (putF "_classes" (.ref a2) (putF "_shared" (.ref sh2) [])))).lookup n = some (.ref sh2) := fun e => by
        subst e
        repeat rw [lookup_putF, if_neg (by decide)]
        rw [lookup_putF, if_pos rfl]
      have hl2 : ∀ {n : Str}, n = "_classes" → (putF "_plain" (.ref pl) (putF "_functions" (.ref f3) (putF "_classes" (.ref a2) (putF "_shared" (.ref sh2) [])))).lookup n = some (.ref a2) := fun e => by
        subst e
        repeat rw [lookup_putF, if_neg (by decide)]
        rw [lookup_putF, if_pos rfl]
      have hl3 : ∀ {n : Str}, n = "_functions" → (putF "_plain" (.ref pl) (putF "_functions" (.ref f3) (putF "_classes" (.ref a2) (putF "_shared" (.ref sh2) [])))).lookup n = some (.ref f3) := fun e => by
        subst e
        rw [lookup_putF, if_neg (by decide), lookup_putF, if_pos rfl]
      have hl4 : ∀ {n : Str}, n = "_plain" → (putF "_plain" (.ref pl) (putF "_functions" (.ref f3) (putF "_classes" (.ref a2) (putF "_shared" (.ref sh2) [])))).lookup n = some (.ref pl) := fun e => by
        subst e
        rw [lookup_putF, if_pos rfl]
      have hlen : (putF "_plain" (.ref pl) (putF "_functions" (.ref f3) (putF "_classes" (.ref a2) (putF "_shared" (.ref sh2) [])))).length ≤ 4 := putF_le (putF_le (putF_le (putF_le (Nat.le_refl 0))))
      have cB3 := c2.trans b3
      have cG4 := cB3.trans x4
      have pG4 : RepFD K G4 pl (fs.map plF) := hpf0.ex (((b1.trans b2).trans b3).trans x4)
      have sG4 : G4 sh2 = some (.dK (shK ss)) := x4 _ _ (b3 _ _ (b2 _ _ hs2))
      have aG4 : RepD K G4 a2 cs := ha2.ex (b3.trans x4)
      have fG4 : G4 f3 = some (.dK kf) := x4 _ _ hf3
      generalize putF "_plain" (.ref pl) (putF "_functions" (.ref f3) (putF "_classes" (.ref a2) (putF "_shared" (.ref sh2) []))) = fz at g4 hl hl2 hl3 hl4 hlen
      refine ⟨_, rfl, _, _, _, _, _, rfl, g4, M.cls, no _ (by decide), hl rfl, _, rfl, _, _, _, _, _, rfl, g4, M.cls, no _ (by decide), hl2 rfl, _, rfl, fun xs dxs hxs hdxs hdn => ?_⟩
      refine ⟨xs, sh2, a2, pl, ss, cs, fs.map plF, G4, dxs, rfl, hxs, (Ex.new hdxs).mut hxs, upd_same, sG4, hp.rsh, aG4, hp.rcl, pG4, rightFs_pl hp.rfn, fun c hc => ?_, fun H6 fsx e6 h6 hsheet => ⟨rfl, ?_⟩⟩
      · obtain ⟨c0, hc0, rfl⟩ := List.mem_map.mp hc
        obtain ⟨q1, q2⟩ := hbk c0 hc0
        exact ⟨plB_wf q1.wf _, q2⟩
      · have g6 := e6 _ _ g4
        have hxx : xs ≠ x := fun z => by subst z; rw [g4] at hxs; cases hxs
        refine ⟨_, rfl, x, C, dx, _, rfl, g6, M.cls, no _ (by decide), lk hlen (by decide), ?_⟩
        have eF : Ex G4 H6 := e6
        have hup : ∀ {p : Addr} {o : HO}, G4 p = some o → (∀ d f, o ≠ .ins C d f) → upd H6 x (.ins C dx (putF "sheet" (.ref xs) fz)) p = some o := fun {p o} h1 h2 => by
          rw [upd_ne (fun z => by subst z; rw [g4] at h1; cases h1; exact h2 _ _ rfl)]
          exact e6 _ _ h1
        have hk3 : ∀ {n : Str} {v : V}, (n = "sheet" → False) → fz.lookup n = some v → FldIs (putF "sheet" (.ref xs) fz) n v := fun h1 h2 => by
          unfold FldIs
          rw [lookup_putF, if_neg (fun e => h1 e)]
          exact h2
        have exF : Ex B3 (upd H6 x (.ins C dx (putF "sheet" (.ref xs) fz))) := (x4.trans e6).mut bx3
        refine k kf f1 _ _ (cB3.trans exF) upd_same ⟨⟨xs, dxs, fsx, by rw [lookup_putF, if_pos rfl], fresh_back cG4 hxs, by rw [upd_ne hxx]; exact h6, ((hsheet.weak fun a ha => fresh_back cG4 ha).rm g6).ex rmH_put⟩, ⟨sh2, hk3 (by decide) (hl rfl), nsh, hup sG4 (fun _ _ z => by cases z)⟩, ⟨a2, hk3 (by decide) (hl2 rfl), na2, ha2.ex (b3.trans exF)⟩, ⟨f3, hk3 (by decide) (hl3 rfl), nf3, hup fG4 (fun _ _ z => by cases z)⟩, ⟨pl, hk3 (by decide) (hl4 rfl), npl, hpf0.ex (((b1.trans b2).trans b3).trans exF)⟩⟩
end
end EE
set_option Elab.async false
set_option linter.all false
set_option maxRecDepth 100000
set_option maxHeartbeats 4000000
namespace EE
open PySem L2 Evl
open C8 (Cal Mak cal0 mak0 pe_c pe_mk pe_gc fnScope_by)
/-- a property of a class: its getter -/
structure PropX (K : PySem.W.Frag) (C : Addr) (f qual : Str) (st : Stmt) : Prop where
  ex : ∃ p g fd, PropOf K C f p g ∧ C8.Fun K f qual st g fd ∧ Binds K fd ["self"] []
section
variable {P : Program} {w : World} {K : PySem.W.Frag} {mg : Str → Option Value} {base : Heap}
def sp_fnP (C : Addr) : Sp := fun vs H Q _ => ∃ p dx fsx f kvs, vs = [.ref p] ∧ H p = some (.ins C dx fsx) ∧ FldIs fsx "_functions" (.ref f) ∧ H f = some (.dK kvs) ∧ ∀ q H2, H q = none → Ex H H2 → H2 q = some (.dK kvs) → Q (.ref q) H2
theorem sc_fnP : FnScope ["self"] ["self"] (C8.fnScope s_Program_functions) := fnScope_by (by decide +kernel)
theorem ok_fnP (T : TxtP w K mg) {C g : Addr} {fd : FuncData} (M : MkC K mg "Program" "Program.__init__" s_Program_init P_Program_init F_Program C) (F : C8.Fun K "functions" "Program.functions" s_Program_functions g fd) : FnOk P w K mg base C8.CX0 2 g fd ["self"] (sp_fnP C) := by
  refine C8.fn0 F sc_fnP (fun vs H Q E h => ?_) (fun cdv A outer s H vs Q E hr h => ?_)
  · obtain ⟨_, _, _, _, _, rfl, _⟩ := h
    rfl
  · obtain ⟨p, dx, fsx, f, kvs, rfl, hp, hl, hf, k⟩ := h
    refine ⟨_, pss_one (ps_ret (pe_callTy cr_copyD (by rfl) T.dictT (by decide +kernel) (pa_cons (pe_fld (pv 0) (by rfl)) pa_nil))), ?_⟩
    exact ⟨_, rfl, p, C, dx, fsx, _, rfl, hp, M.cls, M.no _ (by decide), hl, f, kvs, rfl, .inl hf, fun q hq => k q _ hq (Ex.new hq) upd_same⟩
end
end EE
set_option Elab.async false
set_option linter.all false
set_option maxRecDepth 100000
set_option maxHeartbeats 4000000
namespace EE
open PySem L2 Evl
open C8 (Cal Mak cal0 mak0 pe_c pe_mk pe_gc fnScope_by)
structure TxtK (w : World) (K : PySem.W.Frag) (mg : Str → Option Value) extends TxtP w K mg where
  absT : mg "abs" = none
  d_pot : DefX K mg "_law_pot" s__law_pot P__law_pot
  d_take : DefX K mg "_law_take" s__law_take P__law_take
  d_name : DefX K mg "_law_name" s__law_name P__law_name
  d_named : DefX K mg "_law_named" s__law_named P__law_named
  d_expressed : DefX K mg "_law_expressed" s__law_expressed P__law_expressed
  d_tested : DefX K mg "_law_tested" s__law_tested P__law_tested
  d_odd : DefX K mg "_law_odd" s__law_odd P__law_odd
  d_key : DefX K mg "_law_key" s__law_key P__law_key
  d_spoiled_dict : DefX K mg "_law_spoiled_dict" s__law_spoiled_dict P__law_spoiled_dict
  d_spoiled : DefX K mg "_law_spoiled" s__law_spoiled P__law_spoiled
  d_drawn_expression : DefX K mg "_law_drawn_expression" s__law_drawn_expression P__law_drawn_expression
  d_drawn_test : DefX K mg "_law_drawn_test" s__law_drawn_test P__law_drawn_test
  d_at_expressions : DefX K mg "_law_at_expressions" s__law_at_expressions P__law_at_expressions
  d_at_names : DefX K mg "_law_at_names" s__law_at_names P__law_at_names
  d_right : DefX K mg "_law_right" s__law_right P__law_right
  d_law : DefX K mg "law" s_law P_law
section
variable {K : PySem.W.Frag} {σ : L2.St} {B H H' : Hp} {ta tb tc te tv : TE} {t u : TT} {x y z v : V}
/-- the pot at p, its great ones at g: apart from all that B has -/
structure PotAt (B H : Hp) (p g : Addr) : Prop where
  bp : B p = none
  bg : B g = none
  ne : p ≠ g
  ex : Ex B H
  at_ : ∃ (xs : List Int) (seed cnt most : Int), H p = some (.lst [.ref g, .int seed, .int cnt, .int most]) ∧ H g = some (.lst (xs.map V.int))
theorem PotAt.mono {p g : Addr} (e : Ex H H') (h : PotAt B H p g) : PotAt B H' p g := ⟨h.bp, h.bg, h.ne, h.ex.trans e, let ⟨xs, s, c, m, h1, h2⟩ := h.at_; ⟨xs, s, c, m, e _ _ h1, e _ _ h2⟩⟩
/-- a draw: 0 <= r < many -/
def sp_take : Sp := fun vs H Q _ => ∃ p g many B, vs = [.ref p, .int many] ∧ (1 : Int) ≤ many ∧ many ≤ 1000 ∧ PotAt B H p g ∧ ∀ r : Int, ∀ H2, 0 ≤ r → r < many → PotAt B H2 p g → Q (.int r) H2
theorem rc_int {i : Int} : RC (fun xs H Q => (∃ i, xs = [.int i] ∧ Q (.int i) H) ∨ ∃ k, xs = [.bl k] ∧ Q (.int (if k then 1 else 0)) H) [.int i] H (.int i) := fun H1 e Q q => .inl ⟨i, rfl, q H1 (Ex.refl H1)⟩
end
section
variable {P : Program} {w : World} {K : PySem.W.Frag} {mg : Str → Option Value} {base : Heap}
theorem sc_take : FnScope N__law_take P__law_take (C8.fnScope s__law_take) := fnScope_by (by decide +kernel)
theorem ok_take (T : TxtK w K mg) : Cal P w K mg base 1 "_law_take" sp_take [] := by
  refine mk_cal T.d_take sc_take (fun vs H Q E h => ?_) (fun f cdv A outer s H vs Q E hr h => ?_)
  · obtain ⟨_, _, _, _, rfl, _⟩ := h
    rfl
  · obtain ⟨p, g, many, B, rfl, hm1, hm2, hp, k⟩ := h
    have nd := sc_take.nd
    refine ⟨_, pss_cons (ps_set (i := 2) nd rfl (Or.inl rfl) (pe_ix ix_list (pv 0) pe_int (fun _ _ => rfl)))
      (pss_cons (ps_if (pt_cmpR op_gt (pe_callB call_len_seq (by rfl) T.len (by decide +kernel) (pa_cons (pv 2) pa_nil)) pe_int (nomark _))
        (pss_cons (ps_set (i := 3) nd rfl (Or.inl rfl) (pe_callTy call_int1 (by rfl) T.intT (by decide +kernel) (pa_cons (pe_ix ix_list (pv 2) pe_int (fun _ _ => rfl)) pa_nil)))
        (pss_cons (ps_asg (pe_op op_fdiv (pv 3) (pv 1)) (pg_sub (pv 2) pe_int set_list))
        (pss_cons (ps_if (pt_cmpR op_eq (pe_ix ix_list (pv 2) pe_int (fun _ _ => rfl)) pe_int (nomark _)) (pss_one (ps_expr (pe_bm PySem.F.plainAttrs_list PySem.F.slot_list_pop PySem.F.type_list_pop mt_popAt (pv 2) (pa_cons pe_int pa_nil)))) pss_nil)
        (pss_one (ps_ret (pe_op op_mod (pe_callTy call_int1 (by rfl) T.intT (by decide +kernel) (pa_cons (pv 3) pa_nil)) (pv 1))))))) pss_nil)
      (pss_cons (ps_asg (pe_op op_add (pe_ix ix_list (pv 0) pe_int (fun _ _ => rfl)) pe_int) (pg_sub (pv 0) pe_int set_list))
      (pss_cons (ps_set (i := 3) nd rfl (Or.inl rfl) (pe_op op_mod (pe_callTy call_int1 (by rfl) T.intT (by decide +kernel) (pa_cons (pe_op op_mul (pe_op op_add (pe_op op_add (pe_ix ix_list (pv 0) pe_int (fun _ _ => rfl)) (pe_op op_mul (pe_ix ix_list (pv 0) pe_int (fun _ _ => rfl)) pe_int)) pe_int) pe_int) pa_nil)) pe_int))
      (pss_cons (ps_set (i := 3) nd rfl (Or.inl rfl) (pe_op op_mod (pe_callTy call_int1 (by rfl) T.intT (by decide +kernel) (pa_cons (pe_op op_mul (pv 3) (pe_op op_add (pe_op op_fdiv (pv 3) pe_int) pe_int)) pa_nil)) pe_int))
      (pss_cons (ps_set (i := 3) nd rfl (Or.inl rfl) (pe_op op_mod (pe_callTy call_int1 (by rfl) T.intT (by decide +kernel) (pa_cons (pe_op op_mul (pv 3) (pe_op op_add (pe_op op_add (pe_op op_fdiv (pv 3) pe_int) pe_int) (pe_ix ix_list (pv 0) pe_int (fun _ _ => rfl)))) pa_nil)) pe_int))
      (pss_one (ps_ret (pe_op op_mod (pe_callTy call_int1 (by rfl) T.intT (by decide +kernel) (pa_cons (pe_op op_fdiv (pv 3) pe_int) pa_nil)) (pv 1))))))))), ?_⟩
    obtain ⟨xs, sd, ct, mo, h1, h2⟩ := hp.at_
    refine q_asg (v := .ref g) (ev_op (ev_var rfl) ev_c (rv_ixL (sq_of h1) (at_of (j := 0) rfl rfl))) fun H1 e1 => ?_
    have p1 := hp.mono e1
    replace h1 := e1 _ _ h1
    replace h2 := e1 _ _ h2
    cases xs with
    | cons n r =>
      refine q_when (b := true) (et_test (ev_is (ev_op (ev_cb (ea_cons (ev_var (v := .ref g) rfl) ea_nil) (rc_lenS (.inl (sq_of h2)))) (ev_c (v := .int 0)) rv_I0) (by congr 1; simp))) (fun _ H2 e2 => ?_) (fun z => nomatch z)
      replace h1 := e2 _ _ h1
      replace h2 := e2 _ _ h2
      refine q_asg (v := .int n) (ev_cb (ea_cons (ev_op (ev_var (v := .ref g) rfl) ev_c (rv_ixL (sq_of h2) (at_of (j := 0) rfl rfl))) ea_nil) rc_int) fun H3 e3 => ?_
      replace h1 := e3 _ _ h1
      replace h2 := e3 _ _ h2
      refine q_setL (v := .int (n / many)) (j := 0) h2 (ev_op (ev_var (v := .int n) rfl) (ev_var (v := .int many) rfl) (rv_I (C := CDiv) ⟨by omega, by omega⟩)) (ev_var (v := .ref g) rfl) ev_c (by simp) fun H4 e4 => ?_
      have p4 : PotAt B (upd H4 g (.lst (((n :: r).map V.int).set 0 (.int (n / many))))) p g :=
        ⟨p1.bp, p1.bg, p1.ne, (((p1.ex.trans e2).trans e3).trans e4).mut p1.bg, (n / many) :: r, sd, ct, mo, by rw [upd_ne p1.ne]; exact e4 _ _ h1, by rw [upd_same]; rfl⟩
      have g4 : upd H4 g (.lst (((n :: r).map V.int).set 0 (.int (n / many)))) g = some (.lst (((n / many) :: r).map V.int)) := by rw [upd_same]; rfl
      generalize upd H4 g (.lst (((n :: r).map V.int).set 0 (.int (n / many)))) = G4 at p4 g4
      have fin : ∀ G, PotAt B G p g → tRet (tOp (rI (fun _ j => 0 < j) fun i j => .int (i % j)) (tCB (fun xs H Q => (∃ i, xs = [.int i] ∧ Q (.int i) H) ∨ ∃ k, xs = [.bl k] ∧ Q (.int (if k then 1 else 0)) H) (tCons (tVar 3) tNil)) (tVar 1)) { nx := fun _ H' => Q .non H', rt := Q } [some (.ref p), some (.int many), some (.ref g), some (.int n)] G := fun G hG =>
        s_ret (v := .int (n % many)) (ev_op (ev_cb (ea_cons (ev_var (v := .int n) rfl) ea_nil) rc_int) (ev_var (v := .int many) rfl) (rv_I (C := fun _ j => 0 < j) (by omega))) fun H5 e5 => k _ _ (Int.emod_nonneg _ (by omega)) (Int.emod_lt_of_pos _ (by omega)) (hG.mono e5)
      refine q_when (b := decide (V.int (n / many) = V.int 0)) (et_test (ev_op (ev_op (ev_var (v := .ref g) rfl) ev_c (rv_ixL (v := .int (n / many)) (sq_of g4) (at_of (j := 0) rfl rfl))) ev_c (rv_eq rfl))) (fun _ H5 e5 => ?_) (fun _ H5 e5 => fin _ (p4.mono e5))
      have p5 := p4.mono e5
      have g5 := e5 _ _ g4
      obtain ⟨_, s5, c5, m5, q1, _⟩ := p5.at_
      refine ⟨_, rfl, Or.inl ⟨rfl, _, sq_of g5⟩, g, _, 0, 0, _, rfl, rfl, g5, by decide, by decide, by simp [seqIndex?], rfl, fin _ ⟨p5.bp, p5.bg, p5.ne, p5.ex.mut p5.bg, r, s5, c5, m5, by rw [upd_ne p5.ne]; exact q1, by rw [upd_same]; rfl⟩⟩
    | nil =>
      refine q_when (b := false) (et_test (ev_is (ev_op (ev_cb (ea_cons (ev_var (v := .ref g) rfl) ea_nil) (rc_lenS (xs := []) (.inl (sq_of h2)))) (ev_c (v := .int 0)) rv_I0) rfl)) (fun z => nomatch z) fun _ H2 e2 => ?_
      replace h1 := e2 _ _ h1
      refine q_setL (v := .int (ct + 1)) (j := 2) h1 (ev_op (ev_op (ev_var (v := .ref p) rfl) ev_c (rv_ixL (v := .int ct) (sq_of h1) (at_of (j := 2) rfl rfl))) ev_c rv_I0) (ev_var (v := .ref p) rfl) ev_c (show 2 < 4 by decide) fun H3 e3 => ?_
      have g3 : upd H3 p (.lst ([V.ref g, .int sd, .int ct, .int mo].set 2 (.int (ct + 1)))) p = some (.lst [.ref g, .int sd, .int (ct + 1), .int mo]) := upd_same
      have p3 : PotAt B (upd H3 p (.lst ([V.ref g, .int sd, .int ct, .int mo].set 2 (.int (ct + 1))))) p g :=
        ⟨p1.bp, p1.bg, p1.ne, ((p1.ex.trans e2).trans e3).mut p1.bp, [], sd, ct + 1, mo, g3, by rw [upd_ne (Ne.symm p1.ne)]; exact e3 _ _ (e2 _ _ h2)⟩
      generalize upd H3 p (.lst ([V.ref g, .int sd, .int ct, .int mo].set 2 (.int (ct + 1)))) = G3 at p3 g3
      have cm : ∀ {i j : Int}, j < 2147483647 → 0 ≤ j → CMul i j := fun h h2 => .inr ⟨by omega, by omega⟩
      have cm2 : ∀ {i j : Int}, i < 2147483647 → 0 ≤ i → CMul i j := fun h h2 => .inl ⟨by omega, by omega⟩
      refine q_asg (v := .int (((sd + (ct + 1) * 7919 + 1) * 48271) % 2147483647)) (ev_op (ev_cb (ea_cons (ev_op (ev_op (ev_op (ev_op (ev_var (v := .ref p) rfl) ev_c (rv_ixL (v := .int sd) (sq_of g3) (at_of (j := 1) rfl rfl))) (ev_op (ev_op (ev_var (v := .ref p) rfl) ev_c (rv_ixL (v := .int (ct + 1)) (sq_of g3) (at_of (j := 2) rfl rfl))) ev_c (rv_I (C := CMul) (cm (by omega) (by omega)))) rv_I0) ev_c rv_I0) ev_c (rv_I (C := CMul) (cm (by omega) (by omega)))) ea_nil) rc_int) ev_c (rv_I (C := fun _ j => 0 < j) (by omega))) fun H4 e4 => ?_
      have b1 : 0 ≤ ((sd + (ct + 1) * 7919 + 1) * 48271) % 2147483647 ∧ ((sd + (ct + 1) * 7919 + 1) * 48271) % 2147483647 < 2147483647 := ⟨Int.emod_nonneg _ (by omega), Int.emod_lt_of_pos _ (by omega)⟩
      generalize ((sd + (ct + 1) * 7919 + 1) * 48271) % 2147483647 = n1 at b1
      refine q_asg (v := .int ((n1 * (n1 / 1009 + 69621)) % 2147483647)) (ev_op (ev_cb (ea_cons (ev_op (ev_var (v := .int n1) rfl) (ev_op (ev_op (ev_var (v := .int n1) rfl) ev_c (rv_I (C := CDiv) ⟨by omega, by omega⟩)) ev_c rv_I0) (rv_I (C := CMul) (cm2 b1.2 b1.1))) ea_nil) rc_int) ev_c (rv_I (C := fun _ j => 0 < j) (by omega))) fun H5 e5 => ?_
      have b2 : 0 ≤ (n1 * (n1 / 1009 + 69621)) % 2147483647 ∧ (n1 * (n1 / 1009 + 69621)) % 2147483647 < 2147483647 := ⟨Int.emod_nonneg _ (by omega), Int.emod_lt_of_pos _ (by omega)⟩
      generalize (n1 * (n1 / 1009 + 69621)) % 2147483647 = n2 at b2
      have g5 := e5 _ _ (e4 _ _ g3)
      refine q_asg (v := .int ((n2 * (n2 / 2003 + 40692 + (ct + 1))) % 2147483399)) (ev_op (ev_cb (ea_cons (ev_op (ev_var (v := .int n2) rfl) (ev_op (ev_op (ev_op (ev_var (v := .int n2) rfl) ev_c (rv_I (C := CDiv) ⟨by omega, by omega⟩)) ev_c rv_I0) (ev_op (ev_var (v := .ref p) rfl) ev_c (rv_ixL (v := .int (ct + 1)) (sq_of g5) (at_of (j := 2) rfl rfl))) rv_I0) (rv_I (C := CMul) (cm2 b2.2 b2.1))) ea_nil) rc_int) ev_c (rv_I (C := fun _ j => 0 < j) (by omega))) fun H6 e6 => ?_
      generalize (n2 * (n2 / 2003 + 40692 + (ct + 1))) % 2147483399 = n3
      exact s_ret (v := .int (n3 / 16 % many)) (ev_op (ev_cb (ea_cons (ev_op (ev_var (v := .int n3) rfl) ev_c (rv_I (C := CDiv) ⟨by omega, by omega⟩)) ea_nil) rc_int) (ev_var (v := .int many) rfl) (rv_I (C := fun _ j => 0 < j) (by omega))) fun H7 e7 => k _ _ (Int.emod_nonneg _ (by omega)) (Int.emod_lt_of_pos _ (by omega)) ((((p3.mono e4).mono e5).mono e6).mono e7)
end
end EE
set_option Elab.async false
set_option linter.all false
set_option maxRecDepth 100000
set_option maxHeartbeats 4000000
namespace EE
open PySem L2 Evl
open C8 (Cal Mak cal0 mak0 pe_c pe_mk pe_gc fnScope_by)
section
variable {K : PySem.W.Frag} {σ : L2.St} {B H H' : Hp} {ta tb tc te tv : TE} {t u : TT} {x y z v : V}
def absI (i : Int) : Int := if i < 0 then -i else i
theorem rc_abs {i : Int} : RC (fun xs H Q => ∃ i, xs = [V.int i] ∧ Q (.int (if i < 0 then -i else i)) H) [.int i] H (.int (absI i)) := fun H1 e Q q => ⟨i, rfl, q H1 (Ex.refl H1)⟩
def sp_pot (K : PySem.W.Frag) : Sp := fun vs H Q _ => ∃ (a : Addr) (ns : List Int) (most : Int), vs = [.ref a, .int most] ∧ SqL K H a (ns.map V.int) ∧ ns.length ≤ 63 ∧ ∀ p g H2, PotAt H H2 p g → Q (.ref p) H2
end
section
variable {P : Program} {w : World} {K : PySem.W.Frag} {mg : Str → Option Value} {base : Heap}
theorem sc_pot : FnScope N__law_pot P__law_pot (C8.fnScope s__law_pot) := fnScope_by (by decide +kernel)
theorem ok_pot (T : TxtK w K mg) : Cal P w K mg base 1 "_law_pot" (sp_pot K) [] := by
  refine mk_cal T.d_pot sc_pot (fun vs H Q E h => ?_) (fun f cdv A outer s H vs Q E hr h => ?_)
  · obtain ⟨_, _, _, rfl, _⟩ := h
    rfl
  · obtain ⟨a, ns, most, rfl, hs, hz, k⟩ := h
    have nd := sc_pot.nd
    refine ⟨_, pss_cons (ps_setLc (i := 2) (own := [("cell", 4)]) (g := gName 4) rfl nd rfl rfl (by rfl) (pi_list (pv 0)) (blkOk_by (N := N__law_pot) (sc := C8.fnScope s__law_pot) (by decide +kernel))
          (fun _ _ _ _ _ => pg_name (i := 4) nd rfl (Or.inl rfl)) (fun _ _ _ _ _ => pts_one (pt_cmpR op_ge (pe_callB call_abs (by rfl) T.absT (by decide +kernel) (pa_cons (pv 4) pa_nil)) (pe_op op_pow pe_int pe_int) (nomark _)))
          (fun _ _ _ _ _ => pe_callB call_abs (by rfl) T.absT (by decide +kernel) (pa_cons (pv 4) pa_nil)))
      (pss_cons (ps_set (i := 3) nd rfl (Or.inl rfl) pe_int)
      (pss_cons (ps_for PassesOwn.never rfl (pi_list (pv 0)) (pg_name (i := 4) nd rfl (Or.inl rfl))
        (pss_one (ps_if (pt_cmpR op_lt (pe_callB call_abs (by rfl) T.absT (by decide +kernel) (pa_cons (pv 4) pa_nil)) (pe_op op_pow pe_int pe_int) (nomark _))
          (pss_one (ps_set (i := 3) nd rfl (Or.inl rfl) (pe_op op_mod (pe_callTy call_int1 (by rfl) T.intT (by decide +kernel) (pa_cons (pe_op op_add (pe_op op_add (pe_op op_mul (pv 3) pe_int) (pe_op op_mul (pv 4) pe_int)) pe_int) pa_nil)) pe_int))) pss_nil)))
      (pss_one (ps_ret (pe_lst (pa_cons (pv 2) (pa_cons (pv 3) (pa_cons pe_int (pa_cons (pv 1) pa_nil))))))))), ?_⟩
    have hp10 : ∀ {σ : L2.St} {H : Hp}, Ev (tOp (rI CPow fun i j => .int (i ^ j.toNat)) (tC (.int 10)) (tC (.int 18))) σ H (.int (10 ^ 18)) := ev_op ev_c ev_c (rv_I (C := CPow) ⟨by decide, by decide, by decide⟩)
    have getn : ∀ {i : Nat} {x : V}, (ns.map V.int)[i]? = some x → ∃ n, ns[i]? = some n ∧ x = .int n := fun {i x} h => by
      rw [List.getElem?_map] at h
      cases hh : ns[i]? with
      | none => rw [hh] at h; cases h
      | some n => rw [hh] at h; cases h; exact ⟨n, rfl, rfl⟩
    refine q_asgL (el_lcW (fun i => decide (absI (ns.getD i 0) ≥ 10 ^ 18)) (fun i => .int (absI (ns.getD i 0))) (ei_list (ev_var rfl) hs) (by rw [List.length_map]; omega) (fun _ => rfl) (fun i x H1 e1 hx => ?_) (fun i x H1 e1 hx _ => ?_)) fun g H1 hg e1 h1 => ?_
    · obtain ⟨n, hn, rfl⟩ := getn hx
      have hd : ns.getD i 0 = n := by rw [List.getD_eq_getElem?_getD, hn]; rfl
      rw [hd]
      exact et_test (ev_op (ev_cb (ea_cons (ev_var (v := .int n) rfl) ea_nil) rc_abs) hp10 rv_I0)
    · obtain ⟨n, hn, rfl⟩ := getn hx
      have hd : ns.getD i 0 = n := by rw [List.getD_eq_getElem?_getD, hn]; rfl
      rw [hd]
      exact ev_cb (ea_cons (ev_var (v := .int n) rfl) ea_nil) rc_abs
    · have hgs : ∃ xs : List Int, given (ns.map V.int).length (fun i => decide (absI (ns.getD i 0) ≥ 10 ^ 18)) (fun i => V.int (absI (ns.getD i 0))) = xs.map V.int := by
        unfold given
        exact ⟨((List.range (ns.map V.int).length).filter fun i => decide (absI (ns.getD i 0) ≥ 10 ^ 18)).map fun i => absI (ns.getD i 0), by rw [List.map_map]; rfl⟩
      obtain ⟨xs, hxs⟩ := hgs
      rw [hxs] at h1
      refine q_asg (v := .int 17) ev_c fun H2 e2 => ?_
      refine q_forL (ev_var rfl) (ex_l (e1.trans e2) hs) (fun _ σ' H' => (∃ sd v4, σ' = [some (.ref a), some (.int most), some (.ref g), some (.int sd), v4]) ∧ Ex H1 H') (fun H3 e3 => ⟨⟨_, _, rfl⟩, e2.trans e3⟩) (fun i σ' H' _ p => ex_l (e1.trans p.2) hs) (fun i x σ' H' hx p => ?_) fun σ' H' p => ?_
      · obtain ⟨⟨sd, v4, rfl⟩, p⟩ := p
        obtain ⟨n, hn, rfl⟩ := getn hx
        have cm : ∀ {i j : Int}, j < 2147483647 → 0 ≤ j → CMul i j := fun h h2 => .inr ⟨by omega, by omega⟩
        refine s_when (b := decide (absI n < 10 ^ 18)) (et_test (ev_op (ev_cb (ea_cons (ev_var (v := .int n) rfl) ea_nil) rc_abs) hp10 rv_I0)) (fun _ H4 e4 => ?_) (fun _ H4 e4 => ⟨⟨sd, _, rfl⟩, p.trans e4⟩)
        exact s_asg (v := .int ((sd * 31 + n * 48271 + 11) % 2147483629)) (ev_op (ev_cb (ea_cons (ev_op (ev_op (ev_op (ev_var (v := .int sd) rfl) ev_c (rv_I (C := CMul) (cm (by omega) (by omega)))) (ev_op (ev_var (v := .int n) rfl) ev_c (rv_I (C := CMul) (cm (by omega) (by omega)))) rv_I0) ev_c rv_I0) ea_nil) rc_int) ev_c (rv_I (C := fun _ j => 0 < j) (by omega))) fun H5 e5 => ⟨⟨_, _, rfl⟩, (p.trans e4).trans e5⟩
      · obtain ⟨⟨sd, v4, rfl⟩, p⟩ := p
        refine s_retL (el_lst (ea_cons (ev_var rfl) (ea_cons (ev_var (v := .int sd) rfl) (ea_cons ev_c (ea_cons (ev_var (v := .int most) rfl) ea_nil)))) (show 4 ≤ 100000 by decide)) fun p' H3 hp' e3 h3 => k p' g H3 ⟨fresh_back (e1.trans p) hp', hg, fun z => (by subst z; rw [p _ _ h1] at hp'; cases hp'), (e1.trans p).trans e3, xs, sd, 0, most, h3, e3 _ _ (p _ _ h1)⟩
end
end EE
set_option Elab.async false
set_option linter.all false
set_option maxRecDepth 100000
set_option maxHeartbeats 4000000
namespace EE
open PySem L2 Evl
open C8 (Cal Mak cal0 mak0 pe_c pe_mk pe_gc fnScope_by)
/-! texts of letters -/
def Lt (c : Nat) : Prop := 97 ≤ c ∧ c ≤ 122
theorem lt_facts : ∀ j, j < 26 → (Unicode.isAlpha (97 + j) && Unicode.isLower (97 + j) && !(Unicode.isUpper (97 + j) || Unicode.isTitle (97 + j))) = true := by decide +kernel
theorem lt_fact {c : Nat} (h : Lt c) : Unicode.isAlpha c = true ∧ Unicode.isLower c = true ∧ (Unicode.isUpper c || Unicode.isTitle c) = false := by
  have z := lt_facts (c - 97) (by have := h.1; have := h.2; omega)
  rw [show 97 + (c - 97) = c by have := h.1; omega] at z
  simp only [Bool.and_eq_true, Bool.not_eq_true'] at z
  exact ⟨z.1.1, z.1.2, z.2⟩
theorem okNm_lt {z : Str} (h : ∀ c ∈ z.cps, Lt c) (h1 : 1 ≤ z.cps.size) (h2 : z.cps.size ≤ 8) : OkNm z := by
  have hl : z.length = z.cps.size := rfl
  refine ⟨?_, by rw [hl]; exact sz_of (by omega)⟩
  have a1 : Txt.isascii z = true := Array.all_eq_true_iff_forall_mem.mpr fun c hc => decide_eq_true (by have := (h c hc).2; omega)
  have a2 : Txt.isalpha z = true := by
    show (decide (z.length > 0) && z.cps.all Unicode.isAlpha) = true
    rw [Bool.and_eq_true]
    exact ⟨decide_eq_true (by rw [hl]; omega), Array.all_eq_true_iff_forall_mem.mpr fun c hc => (lt_fact (h c hc)).1⟩
  have a3 : Txt.islower z = true := by
    show (z.cps.any Unicode.isLower && !z.cps.any fun c => Unicode.isUpper c || Unicode.isTitle c) = true
    rw [Bool.and_eq_true]
    refine ⟨?_, ?_⟩
    · rw [Array.any_eq_true]
      exact ⟨0, by omega, (lt_fact (h _ (Array.getElem_mem (by omega)))).2.1⟩
    · rw [Bool.not_eq_true', Bool.eq_false_iff]
      intro q
      rw [Array.any_eq_true] at q
      obtain ⟨i, hi, q⟩ := q
      rw [(lt_fact (h _ (Array.getElem_mem hi))).2.2] at q
      cases q
  show ((decide ((1 : Int) ≤ z.length) && decide ((z.length : Int) ≤ 8)) && (Txt.isascii z && (Txt.isalpha z && Txt.islower z))) = true
  rw [a1, a2, a3, hl]
  simp
  omega
def OneLt (y : Str) : Prop := ∃ c, Lt c ∧ y = ⟨#[c]⟩
theorem fold_lt : ∀ (l : List Str) (acc : Array Nat), (∀ y ∈ l, OneLt y) → (∀ c ∈ acc, Lt c) →
    (∀ c ∈ l.foldl (fun acc p => acc ++ (Str.ofString "").cps ++ p.cps) acc, Lt c) ∧ (l.foldl (fun acc p => acc ++ (Str.ofString "").cps ++ p.cps) acc).size = acc.size + l.length
  | [], acc, _, ha => ⟨ha, rfl⟩
  | y :: l, acc, hl, ha => by
    obtain ⟨c, hc, rfl⟩ := hl y (List.mem_cons_self ..)
    have e0 : (Str.ofString "").cps = #[] := rfl
    have := fold_lt l (acc ++ (Str.ofString "").cps ++ #[c]) (fun z hz => hl z (List.mem_cons_of_mem _ hz)) (fun d hd => by
      rw [e0] at hd
      simp at hd
      rcases hd with hd | rfl
      · exact ha d hd
      · exact hc)
    refine ⟨this.1, this.2.trans ?_⟩
    rw [e0]
    simp
    omega
theorem join_lt {ys : List Str} (h : ∀ y ∈ ys, OneLt y) : (∀ c ∈ (Txt.join "" ys).cps, Lt c) ∧ (Txt.join "" ys).cps.size = ys.length := by
  cases ys with
  | nil => exact ⟨fun c hc => absurd hc (by show c ∉ (#[] : Array Nat); simp), rfl⟩
  | cons y l =>
    obtain ⟨c, hc, rfl⟩ := h y (List.mem_cons_self ..)
    have := fold_lt l #[c] (fun z hz => h z (List.mem_cons_of_mem _ hz)) (fun d hd => by simp at hd; subst hd; exact hc)
    exact ⟨this.1, this.2.trans (by simp; omega)⟩
section
variable {K : PySem.W.Frag} {σ : L2.St} {B H H' : Hp} {ta tb tc te tv : TE} {t u : TT} {x y z v : V}
theorem PotAt.wide {p g : Addr} (h : PotAt B H p g) : PotAt (hid p g H) H p g := ⟨if_pos (.inl rfl), if_pos (.inr rfl), h.ne, hid_ex, h.at_⟩
theorem PotAt.sub {p g : Addr} (h : PotAt B H p g) : Ex B (hid p g H) := fun a o ha => by
  rw [hid_ne (fun z => by subst z; rw [h.bp] at ha; cases ha) (fun z => by subst z; rw [h.bg] at ha; cases ha)]
  exact h.ex a o ha
theorem PotAt.back {B' : Hp} {p g : Addr} (e : Ex B B') (h : PotAt B' H p g) : PotAt B H p g := ⟨fresh_back e h.bp, fresh_back e h.bg, h.ne, e.trans h.ex, h.at_⟩
theorem PotAt.upd {p g a : Addr} {o : HO} (h : PotAt B H p g) (ha : B a = none) (h1 : a ≠ p) (h2 : a ≠ g) : PotAt B (upd H a o) p g :=
  ⟨h.bp, h.bg, h.ne, h.ex.mut ha, let ⟨xs, s, c, m, q1, q2⟩ := h.at_; ⟨xs, s, c, m, by rw [upd_ne (Ne.symm h1)]; exact q1, by rw [upd_ne (Ne.symm h2)]; exact q2⟩⟩
theorem PotAt.new {p g a : Addr} (h : PotAt B H p g) (ha : H a = none) : a ≠ p ∧ a ≠ g := by
  obtain ⟨xs, s, c, m, q1, q2⟩ := h.at_
  exact ⟨fun z => (by subst z; rw [q1] at ha; cases ha), fun z => (by subst z; rw [q2] at ha; cases ha)⟩
theorem q_asgOp {i : Nat} {r : R2} {D : Ends} {tz : TS} {xs : List V} (h : EvL ta σ H xs) (k : ∀ ls H1, H ls = none → Ex H H1 → H1 ls = some (.lst xs) → tb σ H1 fun y H2 => r (.ref ls) y H2 fun v H3 => tz D (σ.set i (some v)) H3) : tSeq (tAsg (tOp r ta tb) (gName i)) tz D σ H :=
  h H (Ex.refl H) _ fun ls H1 hl e1 h1 => k ls H1 hl e1 h1
/-- a draw; what is told of all but the pot stays -/
theorem r_take {i : Nat} {p g : Addr} {m : Int} {E : XK} {Q : VK} (hv : σ[i]? = some (some (.ref p))) (hp : PotAt B H p g) (h1 : 1 ≤ m) (h2 : m ≤ 1000) (k : ∀ r H2, 0 ≤ r → r < m → PotAt B H2 p g → Ex (hid p g H) H2 → Q (.int r) H2) :
    tCall sp_take [] E (tCons (tVar i) (tCons (tC (.int m)) tNil)) σ H Q := ⟨_, hv, p, g, m, hid p g H, rfl, h1, h2, hp.wide, fun r H2 r1 r2 q => k r H2 r1 r2 (q.back hp.sub) q.ex⟩
end
section
variable {P : Program} {w : World} {K : PySem.W.Frag} {mg : Str → Option Value} {base : Heap}
/-- a name is drawn -/
def sp_name : Sp := fun vs H Q _ => ∃ p g B, vs = [.ref p] ∧ PotAt B H p g ∧ ∀ z H2, OkNm z → PotAt B H2 p g → Q (.str z) H2
abbrev menuS : List Str := ["a", "b", "x", "y", "za", "zb", "none", "word", "row", "kept", "not", "last"]
theorem menu_ok : ∀ z ∈ menuS, OkNm z := by
  have e : (menuS.all fun z => isNm z && decide (z.length ≤ 100000)) = true := by decide +kernel
  intro z hz
  have := List.all_eq_true.mp e z hz
  rw [Bool.and_eq_true, decide_eq_true_eq] at this
  exact ⟨this.1, sz_of this.2⟩
theorem letter_at : ∀ j : Nat, j < 26 → (match atI lettersS.cps.toList (j : Int) with | some c => decide (97 ≤ c ∧ c ≤ 122) | none => false) = true := by decide +kernel
theorem letter_of {r : Int} (h0 : 0 ≤ r) (h1 : r < 26) : ∃ c, atI lettersS.cps.toList r = some c ∧ Lt c := by
  have z := letter_at r.toNat (by omega)
  rw [show ((r.toNat : Nat) : Int) = r by omega] at z
  cases h : atI lettersS.cps.toList r with
  | none => rw [h] at z; cases z
  | some c => rw [h] at z; exact ⟨c, rfl, (of_decide_eq_true z : 97 ≤ c ∧ c ≤ 122)⟩
abbrev sizesI : List Int := [1, 3, 4, 5, 6, 7, 8, 8]
theorem sizes_at : ∀ j : Nat, j < 8 → (match sizesI[j]? with | some c => decide (1 ≤ c ∧ c ≤ 8) | none => false) = true := by decide
theorem size_of {r : Int} (h0 : 0 ≤ r) (h1 : r < 8) : ∃ c : Int, atI (sizesI.map V.int) r = some (.int c) ∧ 1 ≤ c ∧ c ≤ 8 := by
  have z := sizes_at r.toNat (by omega)
  cases h : sizesI[r.toNat]? with
  | none => rw [h] at z; cases z
  | some c => rw [h] at z; exact ⟨c, L2.at_of (j := r.toNat) (by omega) (by rw [List.getElem?_map, h]; rfl), (of_decide_eq_true z : 1 ≤ c ∧ c ≤ 8)⟩
theorem menu_at {r : Int} (h0 : 0 ≤ r) (h1 : r < 12) : ∃ z, atI (menuS.map V.str) r = some (.str z) ∧ OkNm z := by
  have hl : r.toNat < menuS.length := by show r.toNat < 12; omega
  exact ⟨menuS[r.toNat], L2.at_of (j := r.toNat) (by omega) (by rw [List.getElem?_map, List.getElem?_eq_getElem hl]; rfl), menu_ok _ (List.getElem_mem hl)⟩
theorem sc_name : FnScope N__law_name P__law_name (C8.fnScope s__law_name) := fnScope_by (by decide +kernel)
theorem ok_name (T : TxtK w K mg) : Cal P w K mg base 2 "_law_name" sp_name [] := by
  refine mk_cal T.d_name sc_name (fun vs H Q E h => ?_) (fun f cdv A outer s H vs Q E hr h => ?_)
  · obtain ⟨_, _, _, rfl, _⟩ := h
    rfl
  · obtain ⟨p, g, B, rfl, hp, k⟩ := h
    have nd := sc_name.nd
    refine ⟨_, pss_cons (ps_set (i := 1) nd rfl (Or.inl rfl) (pe_lst (pa_cons pe_str (pa_cons pe_str (pa_cons pe_str (pa_cons pe_str (pa_cons pe_str (pa_cons pe_str (pa_cons pe_str (pa_cons pe_str (pa_cons pe_str (pa_cons pe_str (pa_cons pe_str (pa_cons pe_str pa_nil))))))))))))))
      (pss_cons (ps_set (i := 2) nd rfl (Or.inl rfl) (pe_c (ok_take T) hr (by decide) (by rfl) (pa_cons (pv 0) (pa_cons pe_int pa_nil))))
      (pss_cons (ps_if (pt_cmpR op_lt (pv 2) pe_int (nomark _)) (pss_one (ps_ret (pe_ix ix_list (pv 1) (pv 2) (fun _ _ => rfl)))) pss_nil)
      (pss_cons (ps_set (i := 3) nd rfl (Or.inl rfl) (pe_ix ix_list (pe_lst (pa_cons pe_int (pa_cons pe_int (pa_cons pe_int (pa_cons pe_int (pa_cons pe_int (pa_cons pe_int (pa_cons pe_int (pa_cons pe_int pa_nil))))))))) (pe_c (ok_take T) hr (by decide) (by rfl) (pa_cons (pv 0) (pa_cons pe_int pa_nil))) (fun _ _ => rfl)))
      (pss_one (ps_ret (pe_join pe_str (pe_lc (own := [("k", 4)]) (g := gName 4) (tt := tYes) rfl nd (pi_range1 (by rfl) T.rangeG (pa_cons (pv 3) pa_nil)) (blkOk_by (N := N__law_name) (sc := C8.fnScope s__law_name) (by decide +kernel))
        (fun _ _ _ _ _ => pg_name (i := 4) nd rfl (Or.inl rfl)) (fun _ _ _ _ _ => pts_nil) (fun _ _ _ _ _ => pe_ix ix_str pe_str (pe_c (ok_take T) hr (by decide) (by rfl) (pa_cons (pv 0) (pa_cons pe_int pa_nil))) (fun _ _ => rfl))))))))), ?_⟩
    refine q_asgL (el_lst (ea_cons ev_c (ea_cons ev_c (ea_cons ev_c (ea_cons ev_c (ea_cons ev_c (ea_cons ev_c (ea_cons ev_c (ea_cons ev_c (ea_cons ev_c (ea_cons ev_c (ea_cons ev_c (ea_cons ev_c ea_nil)))))))))))) (show 12 ≤ 100000 by decide)) fun l H1 hl e1 h1 => ?_
    have p1 := hp.mono e1
    have hlp := hp.new hl
    refine r_take rfl p1 (by decide) (by decide) fun r H2 r0 r1 p2 x2 => ?_
    have h2 : H2 l = some (.lst (menuS.map V.str)) := x2 l _ (by rw [hid_ne hlp.1 hlp.2]; exact h1)
    refine q_when (b := decide (r < 12)) (et_test (ev_op (ev_var (v := .int r) rfl) ev_c rv_I0)) (fun hb H3 e3 => ?_) (fun _ H3 e3 => ?_)
    · obtain ⟨z, hz, ok⟩ := menu_at r0 (of_decide_eq_true hb)
      exact s_ret (v := .str z) (ev_op (ev_var (v := .ref l) rfl) (ev_var (v := .int r) rfl) (rv_ixL (sq_of (e3 _ _ h2)) hz)) fun H4 e4 => k z H4 ok ((p2.mono e3).mono e4)
    · have p3 := p2.mono e3
      refine q_asgOp (el_lst (ea_cons ev_c (ea_cons ev_c (ea_cons ev_c (ea_cons ev_c (ea_cons ev_c (ea_cons ev_c (ea_cons ev_c (ea_cons ev_c ea_nil)))))))) (show 8 ≤ 100000 by decide)) fun ls H4 hls e4 h4 => ?_
      have hn := p3.new hls
      refine r_take rfl (p3.mono e4) (by decide) (by decide) fun r2 H5 s0 s1 p5 x5 => ?_
      have h5 : H5 ls = some (.lst (sizesI.map V.int)) := x5 ls _ (by rw [hid_ne hn.1 hn.2]; exact h4)
      obtain ⟨c, hc, c1, c2⟩ := size_of s0 s1
      refine ⟨ls, _, r2, .int c, rfl, rfl, sq_of h5, hc, ?_⟩
      refine ⟨⟨_, rfl⟩, _, rfl, c, rfl, by omega, by omega, fun Dl hD => ?_⟩
      have hDn := p5.new hD
      have hDB : B Dl = none := fresh_back p5.ex hD
      refine lc_range (lo := 0) (n := c.toNat) (fun i H' => PotAt B H' p g ∧ ∃ ys : List Str, H' Dl = some (.lst (ys.map V.str)) ∧ ys.length = i ∧ ∀ y ∈ ys, OneLt y) ⟨p5.upd hDB hDn.1 hDn.2, [], upd_same, rfl, fun _ h => absurd h List.not_mem_nil⟩ (fun i H' hi q => ?_) fun H' q => ?_
      · obtain ⟨q1, ys, q2, q3, q4⟩ := q
        refine ⟨rfl, ?_⟩
        dsimp only [tYes]
        rw [if_pos rfl]
        refine r_take rfl q1 (by decide) (by decide) fun r3 H6 t0 t1 p6 x6 => ?_
        obtain ⟨ch, hch, hlt⟩ := letter_of t0 t1
        have h6 : H6 Dl = some (.lst (ys.map V.str)) := x6 Dl _ (by rw [hid_ne hDn.1 hDn.2]; exact q2)
        refine ⟨lettersS, r3, ch, rfl, rfl, sz_of (by decide +kernel), hch, ys.map V.str, h6, sz_lt (by rw [List.length_map]; omega), p6.upd hDB hDn.1 hDn.2, ys ++ [⟨#[ch]⟩], by rw [upd_same, List.map_append]; rfl, by rw [List.length_append, q3]; rfl, fun y hy => ?_⟩
        rcases List.mem_append.mp hy with hy | hy
        · exact q4 y hy
        · exact ⟨ch, hlt, List.mem_singleton.mp hy⟩
      · obtain ⟨q1, ys, q2, q3, q4⟩ := q
        obtain ⟨j1, j2⟩ := join_lt q4
        have hsum : ∀ zs : List Str, (∀ y ∈ zs, OneLt y) → (zs.map (·.length)).sum = zs.length := fun zs => by
          induction zs with
          | nil => exact fun _ => rfl
          | cons z zs ih =>
            intro h
            obtain ⟨c, _, rfl⟩ := h z (List.mem_cons_self ..)
            rw [List.map_cons, List.sum_cons, ih (fun y hy => h y (List.mem_cons_of_mem _ hy)), List.length_cons]
            show 1 + zs.length = zs.length + 1
            omega
        refine ⟨_, Dl, ys, rfl, rfl, .inl (sq_of q2), ?_, k _ H' (okNm_lt j1 (by omega) (by omega)) q1⟩
        rw [hsum ys q4]
        show ys.length + ys.length * 0 ≤ 16777216
        omega
end
end EE
set_option Elab.async false
set_option linter.all false
set_option maxRecDepth 100000
set_option maxHeartbeats 4000000
namespace EE
open PySem L2 Evl
open C8 (Cal Mak cal0 mak0 pe_c pe_mk pe_gc fnScope_by)
/-! ### what the law calls a name is one -/
theorem letters_eq : lettersS.cps.toList = (List.range 26).map (97 + ·) := by decide +kernel
theorem letters_mem {c : Nat} : c ∈ lettersS.cps.toList ↔ Lt c := by
  rw [letters_eq, List.mem_map]
  constructor
  · rintro ⟨j, hj, rfl⟩
    have := List.mem_range.mp hj
    exact ⟨by omega, by omega⟩
  · rintro ⟨h1, h2⟩
    exact ⟨c - 97, List.mem_range.mpr (by omega), by omega⟩
theorem ascii_alpha : ∀ c : Nat, c < 128 → (Unicode.isAlpha c && !(Unicode.isUpper c || Unicode.isTitle c)) = true → (decide (97 ≤ c) && decide (c ≤ 122)) = true := by decide +kernel
theorem nm_letters {z : Str} (h1 : 1 ≤ z.cps.size) : (z.cps.toList.map fun c => decide (c ∈ lettersS.cps.toList)).all id = (Txt.isascii z && (Txt.isalpha z && Txt.islower z)) := by
  have hl : z.length = z.cps.size := rfl
  rw [Bool.eq_iff_iff, all_map]
  constructor
  · intro h
    have h : ∀ c ∈ z.cps, Lt c := fun c hc => letters_mem.mp (of_decide_eq_true (h c (by simpa using hc)))
    have a1 : Txt.isascii z = true := Array.all_eq_true_iff_forall_mem.mpr fun c hc => decide_eq_true (by have := (h c hc).2; omega)
    have a2 : Txt.isalpha z = true := by
      show (decide (z.length > 0) && z.cps.all Unicode.isAlpha) = true
      rw [Bool.and_eq_true]
      exact ⟨decide_eq_true (by rw [hl]; omega), Array.all_eq_true_iff_forall_mem.mpr fun c hc => (lt_fact (h c hc)).1⟩
    have a3 : Txt.islower z = true := by
      show (z.cps.any Unicode.isLower && !z.cps.any fun c => Unicode.isUpper c || Unicode.isTitle c) = true
      rw [Bool.and_eq_true]
      refine ⟨?_, ?_⟩
      · rw [Array.any_eq_true]
        exact ⟨0, by omega, (lt_fact (h _ (Array.getElem_mem (by omega)))).2.1⟩
      · rw [Bool.not_eq_true', Bool.eq_false_iff]
        intro q
        rw [Array.any_eq_true] at q
        obtain ⟨i, hi, q⟩ := q
        rw [(lt_fact (h _ (Array.getElem_mem hi))).2.2] at q
        cases q
    rw [a1, a2, a3]
    rfl
  · intro h c hc
    rw [Bool.and_eq_true, Bool.and_eq_true] at h
    obtain ⟨a1, a2, a3⟩ := h
    have hc' : c ∈ z.cps := by simpa using hc
    have b1 : c < 128 := of_decide_eq_true ((Array.all_eq_true_iff_forall_mem.mp a1) c hc')
    have a2' : (decide (z.length > 0) && z.cps.all Unicode.isAlpha) = true := a2
    rw [Bool.and_eq_true] at a2'
    have b2 := (Array.all_eq_true_iff_forall_mem.mp a2'.2) c hc'
    have a3' : (z.cps.any Unicode.isLower && !z.cps.any fun c => Unicode.isUpper c || Unicode.isTitle c) = true := a3
    rw [Bool.and_eq_true, Bool.not_eq_true', Bool.eq_false_iff] at a3'
    have b3 : (Unicode.isUpper c || Unicode.isTitle c) = false := by
      rw [Bool.eq_false_iff]
      intro q
      obtain ⟨i, hi, e⟩ := Array.getElem_of_mem hc'
      refine a3'.2 ?_
      rw [Array.any_eq_true]
      exact ⟨i, hi, by rw [e]; exact q⟩
    have := ascii_alpha c b1 (by rw [b2, b3]; rfl)
    rw [Bool.and_eq_true, decide_eq_true_eq, decide_eq_true_eq] at this
    exact decide_eq_true (letters_mem.mpr ⟨this.1, this.2⟩)
section
variable {P : Program} {w : World} {K : PySem.W.Frag} {mg : Str → Option Value} {base : Heap}
/-- a question about data -/
def sp_ask (K : PySem.W.Frag) (f : Dt → Bool) : Sp := PuV fun vs H z => ∃ v d, vs = [v] ∧ At K H v d ∧ z = .bl (f d)
theorem v_ask {f : Dt → Bool} {H : Hp} {v : V} {d : Dt} (h : At K H v d) : SpV (sp_ask K f) [v] H (.bl (f d)) := spv fun H1 e => ⟨v, d, rfl, h.ex e, rfl⟩
theorem rv_sign {H : Hp} {c : Nat} {z : Str} : RV (fun x y H Q => ∃ (c : Nat) (z : Str), x = V.str ⟨#[c]⟩ ∧ y = V.str z ∧ Q (.bl (decide (c ∈ z.cps.toList))) H) (.str ⟨#[c]⟩) (.str z) H (.bl (decide (c ∈ z.cps.toList))) := fun H1 _ Q q => ⟨c, z, rfl, rfl, q H1 (Ex.refl H1)⟩
theorem sc_named : FnScope N__law_named P__law_named (C8.fnScope s__law_named) := fnScope_by (by decide +kernel)
theorem ok_named (T : TxtK w K mg) : Cal P w K mg base 1 "_law_named" (sp_ask K nmD) [] := by
  refine mk_cal T.d_named sc_named (fun vs H Q E h => ?_) (fun f cdv A outer s H vs Q E hr h => ?_)
  · obtain ⟨_, ⟨_, _, rfl, _⟩, _⟩ := h
    rfl
  · obtain ⟨_, ⟨v, d, rfl, hv, rfl⟩, k⟩ := h
    have nd := sc_named.nd
    refine ⟨_, pss_cons (ps_if (PW.pt (pw_or (pt_not (pt_val (pe_callB call_isi (by rfl) T.isi (by decide +kernel) (pa_cons (pv 0) (pa_cons (pe_bltn (v := .ty "str") (by rfl) T.strT (u := .type "str") (by decide +kernel) (by rfl)) pa_nil)))))
        (pw_or (pt_cmpR op_lt (pe_callB call_len_str (by rfl) T.len (by decide +kernel) (pa_cons (pv 0) pa_nil)) pe_int (nomark _)) (pw_or1 (pt_cmpR op_gt (pe_callB call_len_str (by rfl) T.len (by decide +kernel) (pa_cons (pv 0) pa_nil)) pe_int (nomark _)))))) (pss_one (ps_ret pe_bl)) pss_nil)
      (pss_one (ps_ret (pe_callB (cr_all rfl) (by rfl) T.all (by decide +kernel) (pa_cons (pe_lc (own := [("sign", 1)]) (g := gName 1) (tt := tYes) rfl nd (pi_str (pv 0)) (blkOk_by (N := N__law_named) (sc := C8.fnScope s__law_named) (by decide +kernel))
        (fun _ _ _ _ _ => pg_name (i := 1) nd rfl (Or.inl rfl)) (fun _ _ _ _ _ => pts_nil) (fun _ _ _ _ _ => pe_cmpR op_in_sign (pv 1) pe_str (by rfl))) pa_nil)))), ?_⟩
    cases hs : d.isStr with
    | false =>
      have e0 : nmD d = false := by cases d <;> first | rfl | cases hs
      rw [e0] at k
      exact q_when (b := true) (et_orT (et_is (et_not (et_isStr hv (ev_var rfl))) (by rw [hs]; rfl))) (fun _ H1 e1 => s_ret (v := .bl false) ev_c fun H2 e2 => k H2 (e1.trans e2)) (fun z => nomatch z)
    | true =>
      obtain ⟨z, rfl⟩ : ∃ z, d = .str z := by cases d <;> first | exact ⟨_, rfl⟩ | cases hs
      cases hv with
      | str z hz =>
        replace k : RetV (.bl (isNm z)) H Q := k
        have tl : ∀ {f : Int → Int → Bool} {j : Int}, EvT (tTest (tOp (rI0 fun a b => V.bl (f a b)) (tCB (fun xs H Q => ∃ z, xs = [V.str z] ∧ z.length ≤ sizeLine ∧ Q (.int z.length) H) (tCons (tVar 0) tNil)) (tC (.int j)))) (start N__law_named [V.str z]) H (f z.length j) := fun {f j} => et_test (ev_op (ev_cb (ea_cons (ev_var rfl) ea_nil) (rc_lenstr hz)) ev_c rv_I0)
        refine q_when (b := decide ((z.length : Int) < 1) || decide ((z.length : Int) > 8)) (et_is (et_or (a := false) (b := decide ((z.length : Int) < 1) || decide ((z.length : Int) > 8)) (et_notT (et_isStr (.str z hz) (ev_var rfl))) fun _ => et_or tl fun _ => tl) rfl) (fun hb H1 e1 => ?_) (fun hb H1 e1 => ?_)
        · have e0 : isNm z = false := by
            rw [Bool.or_eq_true, decide_eq_true_eq, decide_eq_true_eq] at hb
            have : (decide ((1 : Int) ≤ z.length) && decide ((z.length : Int) ≤ 8)) = false := by
              rw [Bool.and_eq_false_iff, decide_eq_false_iff_not, decide_eq_false_iff_not]
              omega
            unfold isNm
            rw [this]
            rfl
          rw [e0] at k
          exact s_ret (v := .bl false) ev_c fun H2 e2 => k H2 (e1.trans e2)
        · rw [Bool.or_eq_false_iff, decide_eq_false_iff_not, decide_eq_false_iff_not] at hb
          have hsz : 1 ≤ z.cps.size := by have : z.length = z.cps.size := rfl; omega
          have e0 : isNm z = (z.cps.toList.map fun c => decide (c ∈ lettersS.cps.toList)).all id := by
            rw [nm_letters hsz]
            unfold isNm
            rw [show (decide ((1 : Int) ≤ z.length) && decide ((z.length : Int) ≤ 8)) = true by
              rw [Bool.and_eq_true, decide_eq_true_eq, decide_eq_true_eq]; omega]
            rfl
          rw [e0] at k
          refine s_ret (v := .bl ((z.cps.toList.map fun c => decide (c ∈ lettersS.cps.toList)).all id)) ?_ fun H2 e2 => k H2 (e1.trans e2)
          refine ev_cbL (el_lcA (xs := lets z) ((z.cps.toList.map fun c => decide (c ∈ lettersS.cps.toList)).map V.bl) (by unfold lets; rw [List.length_map, List.length_map, List.length_map]) (ei_str (ev_var rfl)) (by unfold lets; rw [List.length_map, Array.length_toList]; have : z.length = z.cps.size := rfl; omega) (fun _ => rfl) fun i x y H2 e2 hx hy => ?_) fun p H2 _ hp => rc_all (sq_of hp)
          obtain ⟨c, hc, rfl⟩ := map_get hx
          obtain ⟨b, hb2, rfl⟩ := map_get hy
          obtain ⟨c', hc', rfl⟩ := map_get hb2
          rw [hc] at hc'
          cases hc'
          exact ev_op (ev_var rfl) ev_c rv_sign
end
end EE
set_option Elab.async false
set_option linter.all false
set_option maxRecDepth 100000
set_option maxHeartbeats 4000000
namespace EE
open PySem L2 Evl
open C8 (Cal Mak cal0 mak0 pe_c pe_mk pe_gc fnScope_by)
section
variable {P : Program} {w : World} {K : PySem.W.Frag} {mg : Str → Option Value} {base : Heap}
theorem sc_expressed : FnScope N__law_expressed P__law_expressed (C8.fnScope s__law_expressed) := fnScope_by (by decide +kernel)
theorem ok_expressed (T : TxtK w K mg) : Cal P w K mg base 2 "_law_expressed" (sp_ask K exprD) [] := by
  refine mk_cal T.d_expressed sc_expressed (fun vs H Q E h => ?_) (fun f cdv A outer s H vs Q E hr h => ?_)
  · obtain ⟨_, ⟨_, _, rfl, _⟩, _⟩ := h
    rfl
  · obtain ⟨_, ⟨v, d, rfl, hv, rfl⟩, k⟩ := h
    have nd := sc_expressed.nd
    refine ⟨_, pss_cons (ps_if (PW.pt (pw_and (pt_val (pe_callB call_isi (by rfl) T.isi (by decide +kernel) (pa_cons (pv 0) (pa_cons (pe_bltn (v := .ty "tuple") (by rfl) T.tupT (u := .type "tuple") (by decide +kernel) (by rfl)) pa_nil))))
        (pw_and1 (pt_cmpR op_eq (pe_callB call_len_seq (by rfl) T.len (by decide +kernel) (pa_cons (pv 0) pa_nil)) pe_int (nomark _)))))
        (pss_one (ps_ret (pe_c (ok_named T) hr (by decide) (by rfl) (pa_cons (pe_ix ix_tup (pv 0) pe_int (fun _ _ => rfl)) pa_nil)))) pss_nil)
      (pss_one (ps_ret (pe_c (ok_named T) hr (by decide) (by rfl) (pa_cons (pv 0) pa_nil)))), ?_⟩
    cases hd : d.isTup with
    | false =>
      have e0 : exprD d = nmD d := by cases d <;> first | rfl | cases hd
      rw [e0] at k
      exact q_no (et_is (et_and (a := false) (b := false) (et_is (et_isTup hv (ev_var rfl)) hd) fun z => nomatch z) rfl) fun H1 e1 => s_ret (v := .bl (nmD d)) (ev_call (ea_cons (ev_var rfl) ea_nil) (v_ask (hv.ex e1))) fun H2 e2 => k H2 (e1.trans e2)
    | true =>
      cases hv with
      | @tup a vs xs h r hz =>
        refine q_when (b := decide (xs.length = 1)) (et_is (et_and (a := true) (b := decide (xs.length = 1)) (et_isTup (.tup h r hz) (ev_var rfl)) fun _ => et_test (ev_is (ev_op (ev_lenA (ev_var rfl) h r) (ev_c (v := .int 1)) (rv_eq rfl)) (congrArg V.bl (dec_intc (m := 1) 1 rfl)))) rfl) (fun hb H1 e1 => ?_) (fun hb H1 e1 => ?_)
        · match xs, of_decide_eq_true hb with
          | [x], _ =>
            obtain ⟨w0, a1, a2, a3⟩ := ev_ixA (σ := [some (.ref a)]) (te := tVar 0) (i := 0) (ev_var rfl) (ex_t e1 h) (r.ex e1) (d := x) rfl
            exact s_ret (v := .bl (nmD x)) (ev_call (ea_cons a3 ea_nil) (v_ask a1)) fun H2 e2 => k H2 (e1.trans e2)
        · have e0 : exprD (.tup xs) = false := by show (decide (xs.length = 1) && nmD (xs.headD .non)) = false; rw [hb]; rfl
          rw [e0] at k
          exact s_ret (v := .bl false) (ev_is (ev_call (ea_cons (ev_var rfl) ea_nil) (v_ask (f := nmD) (At.ex e1 (.tup h r hz)))) rfl) fun H2 e2 => k H2 (e1.trans e2)
      | _ => cases hd
/-! tests, as the law has them -/
def tstC (kn : Kn) : Dt → Bool
  | .tup [a, b, c] => if isS "same" a then exprD b && exprD c else (isS "kind" a && (exprD b && nmD c)) && (inS kinds3 c || nmIn kn.cl c)
  | _ => false
def tstD (kn : Kn) : Nat → Dt → Bool
  | n, .tup [a, b] => isS "not" a && (match n with | 0 => false | m + 1 => tstD kn m b)
  | _, d => tstC kn d
theorem kinds_nm {c : Dt} (h : inS kinds3 c = true) : nmD c = true := by
  cases c with
  | str z =>
    have : z ∈ kinds3 := of_decide_eq_true h
    have e : (kinds3.all isNm) = true := by decide +kernel
    exact List.all_eq_true.mp e z this
  | _ => cases h
theorem tstC_eq {kn : Kn} {d : Dt} : tstC kn d = coreD kn d := by
  cases d with
  | tup xs =>
    by_cases hl : xs.length = 3
    · obtain ⟨a, b, c, rfl⟩ := len3 hl
      show (if isS "same" a then exprD b && exprD c else (isS "kind" a && (exprD b && nmD c)) && (inS kinds3 c || nmIn kn.cl c)) = (decide (3 = 3) && (if isS "same" a then exprD b && exprD c else isS "kind" a && (exprD b && kindD kn c)))
      unfold kindD
      have hc : (nmD c && (inS kinds3 c || nmIn kn.cl c)) = (inS kinds3 c || nmIn kn.cl c) := by
        cases hq : (inS kinds3 c || nmIn kn.cl c) with
        | false => rw [Bool.and_false]
        | true =>
          rw [Bool.and_true]
          rw [Bool.or_eq_true] at hq
          rcases hq with hq | hq
          · exact kinds_nm hq
          · cases c with
            | str z =>
              have hq' : (isNm z && decide (z ∈ kn.cl)) = true := hq
              rw [Bool.and_eq_true] at hq'
              exact hq'.1
            | _ => cases hq
      rw [Bool.and_assoc, Bool.and_assoc, hc]
      simp
    · have e1 : coreD kn (.tup xs) = false := by
        show (decide (xs.length = 3) && _) = false
        rw [decide_eq_false hl]; rfl
      rw [e1]
      match xs, hl with
      | [], _ => rfl
      | [_], _ => rfl
      | [_, _], _ => rfl
      | [_, _, _], h => exact absurd rfl h
      | _ :: _ :: _ :: _ :: _, _ => rfl
  | _ => rfl
theorem strips_in (d : Dt) : ∀ n, strips (n + 1) d = strips n (strip1 d)
  | 0 => rfl
  | n + 1 => by
    show strip1 (strips (n + 1) d) = strip1 (strips n (strip1 d))
    rw [strips_in d n]
theorem core_two {kn : Kn} {a b : Dt} : coreD kn (.tup [a, b]) = false := rfl
theorem strip_fix {d : Dt} (h : isNot d = false) : ∀ n, strips n d = d
  | 0 => rfl
  | n + 1 => by
    rw [strips_in, show strip1 d = d from if_neg (by rw [h]; decide), strip_fix h n]
theorem tst_eq {kn : Kn} : ∀ (n : Nat) (d : Dt), tstD kn n d = coreD kn (strips n d)
  | n, d => by
    by_cases h2 : ∃ a b, d = .tup [a, b]
    · obtain ⟨a, b, rfl⟩ := h2
      cases hn : isS "not" a with
      | false =>
        have h0 : isNot (.tup [a, b]) = false := by show (decide (2 = 2) && isS "not" a) = false; rw [hn]; rfl
        rw [strip_fix h0, core_two]
        unfold tstD
        rw [hn]; rfl
      | true =>
        have h0 : isNot (.tup [a, b]) = true := by show (decide (2 = 2) && isS "not" a) = true; rw [hn]; rfl
        cases n with
        | zero =>
          show (isS "not" a && false) = coreD kn (.tup [a, b])
          rw [Bool.and_false, core_two]
        | succ m =>
          rw [strips_in, show strip1 (.tup [a, b]) = b from if_pos h0]
          show (isS "not" a && tstD kn m b) = _
          rw [hn, Bool.true_and]
          exact tst_eq m b
    · have h0 : isNot d = false := by
        rw [Bool.eq_false_iff]
        intro q
        exact h2 (isNot_snd q)
      rw [strip_fix h0, ← tstC_eq]
      cases d with
      | tup xs =>
        match xs, h2 with
        | [], _ => cases n <;> rfl
        | [_], _ => cases n <;> rfl
        | [a, b], h => exact absurd ⟨a, b, rfl⟩ h
        | _ :: _ :: _ :: _, _ => cases n <;> rfl
      | _ => cases n <;> rfl
end
end EE
set_option Elab.async false
set_option linter.all false
set_option maxRecDepth 100000
set_option maxHeartbeats 1000000
namespace PySem.SeqAt
open PySem PySem.W PySem.Calls PyProof.Rows PySem.Spec MeetsSeq
section
variable {A : Around} {s : Shared}
theorem dict_ne_declines_str {prog : Program} {w : World} {E : Value → Shared → Prop} {a : Addr} (b : Str) (u : Tok) (ty : s.TypeIs (.ref a) "dict") (Q : Value → Shared → Prop) (h : Q .notImplemented s) :
    wpAny (model prog w) A (call (.builtin "dict.__ne__") [.ref a, .str b u]) Q E s := by
  refine wpAny_call_entry PySem.F.slot_dict_ne ty PySem.F.entry_dict_ne ?_ (PySem.F.args_dict_ne_2 _ _)
  show wpAny _ _ (Builtin.Dict.dictSlotArgs "__ne__" ⟨[.ref a, .str b u], []⟩ >>= _) _ _ s
  refine wpAny_bind ?_
  unfold Builtin.Dict.dictSlotArgs
  refine wpAny_bind (wpAny_notOrdered_dict ty ?_)
  show wpAny _ _ (pure (Value.ref a, Value.str b u)) _ _ s
  refine wpAny_pure ?_
  refine wpAny_bind (wpAny_isInstance (T := "str") (typeIs_str s b u) PySem.F.sub_str_dict ?_)
  simp only [Bool.not_false, if_true]
  refine wpAny_bind (wpAny_rule ?_)
  exact wpAny_pure ⟨_, rfl, h⟩
theorem str_ne_declines_dict (b : Str) (u : Tok) (l : Addr) (c : Value) (es : Array DictEntry) (n : Nat) (dd : Option Addr) (sl : Array (Option Value)) :
    Meets (Builtin.«str.__ne__» ⟨[.str b u, .ref l], []⟩) (fun _ R s => s.heap.get? l = some { cls := c, dict := dd, data := .dict es n, slots := sl } ∧ R (.ok (.ret .notImplemented)) s) :=
  .of_wp fun prog w A R s h => by obtain ⟨hp, g, d, tk, os⟩ := s; obtain ⟨hl, h⟩ := h; wp_walk using wpAny_loadPart' hl, wpAny_load hl; exact ⟨_, rfl, h⟩
theorem RcNeAt.dict_str {a : Addr} (b : Str) (u : Tok) (da : DictAt s a) (hu : A.units < cLine) : RcNeAt A s (.ref a) (.str b u) true := fun prog w E Q h => by
  obtain ⟨ty, cls, es, ep, dd, sl, ho⟩ := da
  exact rc_ne_decline_or (k := false) ty (typeIs_str s b u) (by decide) F.sub_str_dict F.slot_dict_ne F.slot_str_ne_refl
    (fun Q' hq => dict_ne_declines_str b u ty Q' hq)
    (fun _ hq => call_meets F.slot_str_ne_refl (typeIs_str s b u) F.entry_str_ne (F.args_str_ne_2 _ _) (str_ne_declines_dict b u a cls es ep dd sl) ⟨ho, hq⟩)
    (fun _ hq => wpAny_of_eq (rfl : isSame (.ref a) (.str b u) = pure false) hq) (.inr hu) h
end
end PySem.SeqAt
namespace EE
open PySem L2 Evl
section
variable {K : PySem.W.Frag} {H : Hp} {v : V} {d : Dt}
def rNeS (K : PySem.W.Frag) : R2 := fun x y H Q => ∃ z d, y = .str z ∧ At K H x d ∧ Q (.bl (!isS z d)) H
theorem rv_neS {s : Str} (h : At K H v d) : RV (rNeS K) v (.str s) H (.bl (!isS s d)) := fun H1 e _ q => ⟨s, d, rfl, h.ex e, q H1 (Ex.refl H1)⟩
end
theorem op_neS {X : Cx} (hu : X.A.units + 1 < cLine) : OpR X (compareOp .NotEq) (rNeS X.K) := by
  intro pins s σ H x y v u Q I rx ry h
  obtain ⟨z, d, rfl, hx, q⟩ := h
  have flat : scal x (.str z) = true → isS z d = decide (x = .str z) → wpAny (model X.prog X.w) X.A (compareOp .NotEq v u) (EP X pins σ Q) X.xe s := fun h1 h2 => op_ne pins s σ H x (.str z) v u Q I rx ry ⟨h1, by rw [← h2]; exact q⟩
  cases hx with
  | non => exact flat rfl (by simp [isS])
  | bl b => exact flat rfl (by simp [isS])
  | int i => exact flat rfl (by simp [isS])
  | str y h => exact flat rfl (by simp [isS])
  | tup h r hz0 =>
    cases (show v = Value.ref _ from rx)
    obtain ⟨t, rfl⟩ := ry
    obtain ⟨its, r, pl, hz⟩ := I.tuple h
    exact SeqAt.RcNeAt.tuple_str z t pl (by omega) X.prog X.w _ _ ⟨.bl true, H, I, rfl, q⟩
  | lst h =>
    cases (show v = Value.ref _ from rx)
    obtain ⟨t, rfl⟩ := ry
    obtain ⟨its, r, pl, hz⟩ := I.list h
    exact SeqAt.RcNeAt.list_str z t pl.isList (by omega) X.prog X.w _ _ ⟨.bl true, H, I, rfl, q⟩
  | @dic a kvs h =>
    cases (show v = Value.ref _ from rx)
    obtain ⟨t, rfl⟩ := ry
    obtain ⟨_, ya, va, ra, da⟩ := (show ObjOk X.prog X.w H s.heap a (.dK kvs) from h.ok I.hok)
    exact SeqAt.RcNeAt.dict_str z t (SeqAt.dictAt_of da) (by omega) X.prog X.w _ _ ⟨.bl true, H, I, rfl, q⟩
  | @odd a h =>
    cases (show v = Value.ref _ from rx)
    obtain ⟨t, rfl⟩ := ry
    exact SeqAt.RcNeAt.dict_str z t (odd_at I h) (by omega) X.prog X.w _ _ ⟨.bl true, H, I, rfl, q⟩
end EE
set_option Elab.async false
set_option linter.all false
set_option maxRecDepth 100000
set_option maxHeartbeats 4000000
namespace EE
open PySem L2 Evl
open C8 (Cal Mak cal0 mak0 pe_c pe_mk pe_gc fnScope_by)
section
variable {P : Program} {w : World} {K : PySem.W.Frag} {mg : Str → Option Value} {base : Heap}
theorem not_t {b : Bool} (h : (!b) = true) : b = false := by cases b <;> first | rfl | cases h
theorem not_f {b : Bool} (h : (!b) = false) : b = true := by cases b <;> first | rfl | cases h
theorem ev_inL {σ : L2.St} {H : Hp} {ta tb : TE} {v : V} {d : Dt} {zs : List Str} (ha : Ev ta σ H v) (hv : At K H v d) (hb : EvL tb σ H (zs.map V.str)) : Ev (tOp (rInS K) ta tb) σ H (.bl (inS zs d)) := fun H1 e Q q =>
  ha H1 e _ fun H2 e2 => hb H2 (e.trans e2) _ fun p H3 _ e3 h3 => ⟨p, zs, d, rfl, .inl (sq_of h3), hv.ex ((e.trans e2).trans e3), q H3 (e2.trans e3)⟩
abbrev knC (zs : List Str) : Kn := ⟨[], zs, []⟩
def sp_tst (K : PySem.W.Frag) (n : Nat) : Sp := PuV fun vs H z => ∃ c zs v d, vs = [.ref c, v, .int (n : Nat)] ∧ KeysOf H c zs ∧ At K H v d ∧ z = .bl (tstD (knC zs) n d)
theorem v_tst {H : Hp} {c : Addr} {zs : List Str} {v : V} {d : Dt} {n : Nat} (hc : KeysOf H c zs) (h : At K H v d) : SpV (sp_tst K n) [.ref c, v, .int (n : Nat)] H (.bl (tstD (knC zs) n d)) := spv fun H1 e => ⟨c, zs, v, d, rfl, hc.ex e, h.ex e, rfl⟩
theorem sc_tested : FnScope N__law_tested P__law_tested (C8.fnScope s__law_tested) := fnScope_by (by decide +kernel)
theorem ok_tested (T : TxtK w K mg) : ∀ n : Nat, Cal P w K mg base (n + 3) "_law_tested" (sp_tst K n) []
  | 0 => by
    refine mk_cal T.d_tested sc_tested (fun vs H Q E h => ?_) (fun f cdv A outer s H vs Q E hr h => ?_)
    · obtain ⟨_, ⟨_, _, _, _, rfl, _⟩, _⟩ := h
      rfl
    · obtain ⟨_, ⟨c, zs, v, d, rfl, hc, hv, rfl⟩, k⟩ := h
      have nd := sc_tested.nd
      have hu := hu_of hr
      have hu1 : (A.deeper (PyProof.Rows.envOfC "_law_tested" (C8.fnScope s__law_tested) s.heap.objs.size f cdv)).units + 1 < cLine := hu
      have hu2 : (A.deeper (PyProof.Rows.envOfC "_law_tested" (C8.fnScope s__law_tested) s.heap.objs.size f cdv)).units + 2 < cLine := by have := hr.un; omega
      refine ⟨_, pss_cons (ps_if (PW.pt (pw_or (pt_not (pt_val (pe_callB call_isi (by rfl) T.isi (by decide +kernel) (pa_cons (pv 1) (pa_cons (pe_bltn (v := .ty "tuple") (by rfl) T.tupT (u := .type "tuple") (by decide +kernel) (by rfl)) pa_nil)))))
          (pw_or (pt_cmpR op_lt (pe_callB call_len_seq (by rfl) T.len (by decide +kernel) (pa_cons (pv 1) pa_nil)) pe_int (nomark _)) (pw_or1 (pt_cmpR op_gt (pe_callB call_len_seq (by rfl) T.len (by decide +kernel) (pa_cons (pv 1) pa_nil)) pe_int (nomark _)))))) (pss_one (ps_ret pe_bl)) pss_nil)
        (pss_cons (ps_if (pt_cmpR op_eq (pe_callB call_len_seq (by rfl) T.len (by decide +kernel) (pa_cons (pv 1) pa_nil)) pe_int (nomark _))
          (pss_one (ps_ret (pe_and (pe_cmpR (op_eqS hu1) (pe_ix ix_tup (pv 1) pe_int (fun _ _ => rfl)) pe_str (nomark _)) (pe_and (pe_cmpR op_gt (pv 2) pe_int (nomark _)) (pe_one pe_no))))) pss_nil)
        (pss_cons (ps_if (pt_cmpR (op_eqS hu1) (pe_ix ix_tup (pv 1) pe_int (fun _ _ => rfl)) pe_str (nomark _))
          (pss_one (ps_ret (pe_and (pe_c (ok_expressed T) hr (by decide) (by rfl) (pa_cons (pe_ix ix_tup (pv 1) pe_int (fun _ _ => rfl)) pa_nil)) (pe_one (pe_c (ok_expressed T) hr (by decide) (by rfl) (pa_cons (pe_ix ix_tup (pv 1) pe_int (fun _ _ => rfl)) pa_nil)))))) pss_nil)
        (pss_cons (ps_if (PW.pt (pw_or (pt_cmpR (op_neS hu1) (pe_ix ix_tup (pv 1) pe_int (fun _ _ => rfl)) pe_str (nomark _)) (pw_or (pt_not (pt_val (pe_c (ok_expressed T) hr (by decide) (by rfl) (pa_cons (pe_ix ix_tup (pv 1) pe_int (fun _ _ => rfl)) pa_nil)))) (pw_or1 (pt_not (pt_val (pe_c (ok_named T) hr (by decide) (by rfl) (pa_cons (pe_ix ix_tup (pv 1) pe_int (fun _ _ => rfl)) pa_nil)))))))) (pss_one (ps_ret pe_bl)) pss_nil)
        (pss_one (ps_ret (pe_or (pe_cmpR (op_inS hu2) (pe_ix ix_tup (pv 1) pe_int (fun _ _ => rfl)) (pe_lst (pa_cons pe_str (pa_cons pe_str (pa_cons pe_str pa_nil)))) (by rfl)) (pe_one (pe_cmp (pc_din hu (pe_ix ix_tup (pv 1) pe_int (fun _ _ => rfl)) (pv 0)))))))))), ?_⟩
      replace k : RetV (.bl (tstD (knC zs) 0 d)) H Q := k
      cases hd : d.isTup with
      | false =>
        have e0 : tstD (knC zs) 0 d = false := by cases d <;> first | rfl | cases hd
        rw [e0] at k
        exact q_when (b := true) (et_orT (et_is (et_not (et_isTup hv (ev_var rfl))) (by rw [hd]; rfl))) (fun _ H1 e1 => s_ret (v := .bl false) ev_c fun H2 e2 => k H2 (e1.trans e2)) (fun z => nomatch z)
      | true =>
        cases hv with
        | @tup a vs xs h r hz =>
          refine q_when (b := decide ((xs.length : Int) < 2) || decide ((xs.length : Int) > 3)) (et_is (et_or (a := false) (b := decide ((xs.length : Int) < 2) || decide ((xs.length : Int) > 3)) (et_notT (et_isTup (.tup h r hz) (ev_var rfl))) fun _ => et_or (et_test (ev_op (ev_lenA (ev_var rfl) h r) ev_c rv_I0)) fun _ => et_test (ev_op (ev_lenA (ev_var rfl) h r) ev_c rv_I0)) rfl) (fun hb H1 e1 => ?_) (fun hb H1 e1 => ?_)
          · have e0 : tstD (knC zs) 0 (.tup xs) = false := by
              rw [Bool.or_eq_true, decide_eq_true_eq, decide_eq_true_eq] at hb
              match xs, hb with
              | [], _ => rfl
              | [_], _ => rfl
              | [_, _], h => exfalso; simp at h
              | [_, _, _], h => exfalso; simp at h
              | _ :: _ :: _ :: _ :: _, _ => rfl
            rw [e0] at k
            exact s_ret (v := .bl false) ev_c fun H2 e2 => k H2 (e1.trans e2)
          · rw [Bool.or_eq_false_iff, decide_eq_false_iff_not, decide_eq_false_iff_not] at hb
            have ix : ∀ {i : Nat} {x : Dt} {σ' : L2.St} {G : Hp}, σ'[1]? = some (some (.ref a)) → Ex H G → xs[i]? = some x → ∃ w, At K G w x ∧ Ev (tOp (rIxT K) (tVar 1) (tC (.int (i : Nat)))) σ' G w := fun {i x σ' G} h1 eG hx => by
              obtain ⟨w0, a1, a2, a3⟩ := ev_ixA (σ := σ') (te := tVar 1) (i := i) (ev_var h1) (ex_t eG h) (r.ex eG) (d := x) hx
              exact ⟨w0, a1, a3⟩
            refine q_when (b := decide (xs.length = 2)) (et_test (ev_is (ev_op (ev_lenA (ev_var rfl) (ex_t e1 h) (r.ex e1)) (ev_c (v := .int 2)) (rv_eq rfl)) (congrArg V.bl (dec_intc (m := 2) 2 rfl)))) (fun h2 H2 e2 => ?_) (fun h2 H2 e2 => ?_)
            · obtain ⟨x0, x1, rfl⟩ := len2 (of_decide_eq_true h2)
              have e12 := e1.trans e2
              obtain ⟨w0, a1, a3⟩ := ix (σ' := [some (.ref c), some (.ref a), some (.int (0 : Nat))]) rfl e12 (i := 0) (x := x0) rfl
              refine s_ret (v := .bl (isS "not" x0 && (false && false))) (ev_andV (ev_op a3 ev_c (rv_eqS a1)) fun _ => ev_andV (a := false) (ev_is (ev_op (ev_var (v := .int ((0 : Nat) : Int)) rfl) (ev_c (v := .int 0)) rv_I0) (by decide)) fun z => nomatch z) fun H3 e3 => k H3 (e12.trans e3)
            · have h3 : xs.length = 3 := by
                have := of_decide_eq_false h2
                omega
              obtain ⟨x0, x1, x2, rfl⟩ := len3 h3
              have e12 := e1.trans e2
              replace k : RetV (.bl (if isS "same" x0 then exprD x1 && exprD x2 else (isS "kind" x0 && (exprD x1 && nmD x2)) && (inS kinds3 x2 || nmIn zs x2))) H Q := k
              obtain ⟨w0, a1, a3⟩ := ix (σ' := [some (.ref c), some (.ref a), some (.int (0 : Nat))]) rfl e12 (i := 0) (x := x0) rfl
              have ce : ∀ {i : Nat} {x : Dt} {G : Hp} {E' : XK} {f : Dt → Bool}, Ex H2 G → [x0, x1, x2][i]? = some x → Ev (tCall (sp_ask K f) [] E' (tCons (tOp (rIxT K) (tVar 1) (tC (.int (i : Nat)))) tNil)) [some (.ref c), some (.ref a), some (.int (0 : Nat))] G (.bl (f x)) := fun {i x G E' f} eG hx => by
                obtain ⟨w1, b1, b3⟩ := ix (σ' := [some (.ref c), some (.ref a), some (.int (0 : Nat))]) rfl (e12.trans eG) hx
                exact ev_call (ea_cons b3 ea_nil) (v_ask b1)
              refine q_when (b := isS "same" x0) (et_test (ev_op a3 ev_c (rv_eqS a1))) (fun hs H3 e3 => ?_) (fun hs H3 e3 => ?_)
              · rw [if_pos hs] at k
                exact s_ret (v := .bl (exprD x1 && exprD x2)) (ev_andV (ce (i := 1) e3 rfl) fun _ => ce (i := 2) e3 rfl) fun H4 e4 => k H4 ((e12.trans e3).trans e4)
              · rw [if_neg (by rw [hs]; decide)] at k
                obtain ⟨w0, a1, a3⟩ := ix (σ' := [some (.ref c), some (.ref a), some (.int (0 : Nat))]) rfl (e12.trans e3) (i := 0) (x := x0) rfl
                refine q_when (b := !(isS "kind" x0 && (exprD x1 && nmD x2))) (et_is (et_or (a := !isS "kind" x0) (b := !(exprD x1 && nmD x2)) (et_test (ev_op a3 ev_c (rv_neS a1))) fun _ => et_is (et_or (et_not (et_B (ce (i := 1) e3 rfl))) fun _ => et_not (et_B (ce (i := 2) e3 rfl))) (by rw [Bool.not_and])) (by rw [← Bool.not_and])) (fun hq H4 e4 => ?_) (fun hq H4 e4 => ?_)
                · rw [show (isS "kind" x0 && (exprD x1 && nmD x2)) = false from not_t hq, Bool.false_and] at k
                  exact s_ret (v := .bl false) ev_c fun H5 e5 => k H5 (((e12.trans e3).trans e4).trans e5)
                · have hq' : (isS "kind" x0 && (exprD x1 && nmD x2)) = true := not_f hq
                  rw [hq', Bool.true_and] at k
                  rw [Bool.and_eq_true, Bool.and_eq_true] at hq'
                  obtain ⟨w2, b1, b3⟩ := ix (σ' := [some (.ref c), some (.ref a), some (.int (0 : Nat))]) rfl ((e12.trans e3).trans e4) (i := 2) (x := x2) rfl
                  refine s_ret (v := .bl (inS kinds3 x2 || nmIn zs x2)) (ev_orV (ev_inL b3 b1 (el_lst (ea_cons ev_c (ea_cons ev_c (ea_cons ev_c ea_nil))) (show 3 ≤ 100000 by decide))) fun _ => ?_) fun H5 e5 => k H5 (((e12.trans e3).trans e4).trans e5)
                  obtain ⟨z, rfl⟩ := nm_strD hq'.2.2
                  cases b1
                  refine ev_is (et_keys b3 (ev_var rfl) (hc.ex ((e12.trans e3).trans e4))) ?_
                  show V.bl (decide (z ∈ zs)) = V.bl (isNm z && decide (z ∈ zs))
                  rw [show isNm z = true from hq'.2.2, Bool.true_and]
        | _ => cases hd
  | n + 1 => by
    have IH := ok_tested T n
    refine mk_cal T.d_tested sc_tested (fun vs H Q E h => ?_) (fun f cdv A outer s H vs Q E hr h => ?_)
    · obtain ⟨_, ⟨_, _, _, _, rfl, _⟩, _⟩ := h
      rfl
    · obtain ⟨_, ⟨c, zs, v, d, rfl, hc, hv, rfl⟩, k⟩ := h
      have nd := sc_tested.nd
      have hu := hu_of hr
      have hu1 : (A.deeper (PyProof.Rows.envOfC "_law_tested" (C8.fnScope s__law_tested) s.heap.objs.size f cdv)).units + 1 < cLine := hu
      have hu2 : (A.deeper (PyProof.Rows.envOfC "_law_tested" (C8.fnScope s__law_tested) s.heap.objs.size f cdv)).units + 2 < cLine := by have := hr.un; omega
      refine ⟨_, pss_cons (ps_if (PW.pt (pw_or (pt_not (pt_val (pe_callB call_isi (by rfl) T.isi (by decide +kernel) (pa_cons (pv 1) (pa_cons (pe_bltn (v := .ty "tuple") (by rfl) T.tupT (u := .type "tuple") (by decide +kernel) (by rfl)) pa_nil)))))
          (pw_or (pt_cmpR op_lt (pe_callB call_len_seq (by rfl) T.len (by decide +kernel) (pa_cons (pv 1) pa_nil)) pe_int (nomark _)) (pw_or1 (pt_cmpR op_gt (pe_callB call_len_seq (by rfl) T.len (by decide +kernel) (pa_cons (pv 1) pa_nil)) pe_int (nomark _)))))) (pss_one (ps_ret pe_bl)) pss_nil)
        (pss_cons (ps_if (pt_cmpR op_eq (pe_callB call_len_seq (by rfl) T.len (by decide +kernel) (pa_cons (pv 1) pa_nil)) pe_int (nomark _))
          (pss_one (ps_ret (pe_and (pe_cmpR (op_eqS hu1) (pe_ix ix_tup (pv 1) pe_int (fun _ _ => rfl)) pe_str (nomark _)) (pe_and (pe_cmpR op_gt (pv 2) pe_int (nomark _)) (pe_one (pe_c IH hr (by omega) (by rfl) (pa_cons (pv 0) (pa_cons (pe_ix ix_tup (pv 1) pe_int (fun _ _ => rfl)) (pa_cons (pe_op op_sub (pv 2) pe_int) pa_nil))))))))) pss_nil)
        (pss_cons (ps_if (pt_cmpR (op_eqS hu1) (pe_ix ix_tup (pv 1) pe_int (fun _ _ => rfl)) pe_str (nomark _))
          (pss_one (ps_ret (pe_and (pe_c (ok_expressed T) hr (by omega) (by rfl) (pa_cons (pe_ix ix_tup (pv 1) pe_int (fun _ _ => rfl)) pa_nil)) (pe_one (pe_c (ok_expressed T) hr (by omega) (by rfl) (pa_cons (pe_ix ix_tup (pv 1) pe_int (fun _ _ => rfl)) pa_nil)))))) pss_nil)
        (pss_cons (ps_if (PW.pt (pw_or (pt_cmpR (op_neS hu1) (pe_ix ix_tup (pv 1) pe_int (fun _ _ => rfl)) pe_str (nomark _)) (pw_or (pt_not (pt_val (pe_c (ok_expressed T) hr (by omega) (by rfl) (pa_cons (pe_ix ix_tup (pv 1) pe_int (fun _ _ => rfl)) pa_nil)))) (pw_or1 (pt_not (pt_val (pe_c (ok_named T) hr (by omega) (by rfl) (pa_cons (pe_ix ix_tup (pv 1) pe_int (fun _ _ => rfl)) pa_nil)))))))) (pss_one (ps_ret pe_bl)) pss_nil)
        (pss_one (ps_ret (pe_or (pe_cmpR (op_inS hu2) (pe_ix ix_tup (pv 1) pe_int (fun _ _ => rfl)) (pe_lst (pa_cons pe_str (pa_cons pe_str (pa_cons pe_str pa_nil)))) (by rfl)) (pe_one (pe_cmp (pc_din hu (pe_ix ix_tup (pv 1) pe_int (fun _ _ => rfl)) (pv 0)))))))))), ?_⟩
      replace k : RetV (.bl (tstD (knC zs) (n + 1) d)) H Q := k
      cases hd : d.isTup with
      | false =>
        have e0 : tstD (knC zs) (n + 1) d = false := by cases d <;> first | rfl | cases hd
        rw [e0] at k
        exact q_when (b := true) (et_orT (et_is (et_not (et_isTup hv (ev_var rfl))) (by rw [hd]; rfl))) (fun _ H1 e1 => s_ret (v := .bl false) ev_c fun H2 e2 => k H2 (e1.trans e2)) (fun z => nomatch z)
      | true =>
        cases hv with
        | @tup a vs xs h r hz =>
          refine q_when (b := decide ((xs.length : Int) < 2) || decide ((xs.length : Int) > 3)) (et_is (et_or (a := false) (b := decide ((xs.length : Int) < 2) || decide ((xs.length : Int) > 3)) (et_notT (et_isTup (.tup h r hz) (ev_var rfl))) fun _ => et_or (et_test (ev_op (ev_lenA (ev_var rfl) h r) ev_c rv_I0)) fun _ => et_test (ev_op (ev_lenA (ev_var rfl) h r) ev_c rv_I0)) rfl) (fun hb H1 e1 => ?_) (fun hb H1 e1 => ?_)
          · have e0 : tstD (knC zs) (n + 1) (.tup xs) = false := by
              rw [Bool.or_eq_true, decide_eq_true_eq, decide_eq_true_eq] at hb
              match xs, hb with
              | [], _ => rfl
              | [_], _ => rfl
              | [_, _], h => exfalso; simp at h
              | [_, _, _], h => exfalso; simp at h
              | _ :: _ :: _ :: _ :: _, _ => rfl
            rw [e0] at k
            exact s_ret (v := .bl false) ev_c fun H2 e2 => k H2 (e1.trans e2)
          · rw [Bool.or_eq_false_iff, decide_eq_false_iff_not, decide_eq_false_iff_not] at hb
            have ix : ∀ {i : Nat} {x : Dt} {σ' : L2.St} {G : Hp}, σ'[1]? = some (some (.ref a)) → Ex H G → xs[i]? = some x → ∃ w, At K G w x ∧ Ev (tOp (rIxT K) (tVar 1) (tC (.int (i : Nat)))) σ' G w := fun {i x σ' G} h1 eG hx => by
              obtain ⟨w0, a1, a2, a3⟩ := ev_ixA (σ := σ') (te := tVar 1) (i := i) (ev_var h1) (ex_t eG h) (r.ex eG) (d := x) hx
              exact ⟨w0, a1, a3⟩
            refine q_when (b := decide (xs.length = 2)) (et_test (ev_is (ev_op (ev_lenA (ev_var rfl) (ex_t e1 h) (r.ex e1)) (ev_c (v := .int 2)) (rv_eq rfl)) (congrArg V.bl (dec_intc (m := 2) 2 rfl)))) (fun h2 H2 e2 => ?_) (fun h2 H2 e2 => ?_)
            · obtain ⟨x0, x1, rfl⟩ := len2 (of_decide_eq_true h2)
              have e12 := e1.trans e2
              obtain ⟨w0, a1, a3⟩ := ix (σ' := [some (.ref c), some (.ref a), some (.int ((n + 1) : Nat))]) rfl e12 (i := 0) (x := x0) rfl
              obtain ⟨w1, b1, b3⟩ := ix (σ' := [some (.ref c), some (.ref a), some (.int ((n + 1 : Nat) : Nat))]) rfl e12 (i := 1) (x := x1) rfl
              refine s_ret (v := .bl (isS "not" x0 && (true && tstD (knC zs) n x1))) (ev_andV (ev_op a3 ev_c (rv_eqS a1)) fun _ => ev_andV (a := true) (ev_is (ev_op (ev_var (v := .int ((n + 1 : Nat) : Int)) rfl) (ev_c (v := .int 0)) rv_I0) (by congr 1; exact decide_eq_true (by omega))) fun _ => ev_call (ea_cons (ev_var rfl) (ea_cons b3 (ea_cons (show Ev _ _ _ (V.int (n : Nat)) from ev_is (ev_op (ev_var (v := .int ((n + 1 : Nat) : Int)) rfl) (ev_c (v := .int 1)) rv_I0) (by congr 1; omega)) ea_nil))) (v_tst (hc.ex e12) b1)) fun H3 e3 => k H3 (e12.trans e3)
            · have h3 : xs.length = 3 := by
                have := of_decide_eq_false h2
                omega
              obtain ⟨x0, x1, x2, rfl⟩ := len3 h3
              have e12 := e1.trans e2
              replace k : RetV (.bl (if isS "same" x0 then exprD x1 && exprD x2 else (isS "kind" x0 && (exprD x1 && nmD x2)) && (inS kinds3 x2 || nmIn zs x2))) H Q := k
              obtain ⟨w0, a1, a3⟩ := ix (σ' := [some (.ref c), some (.ref a), some (.int ((n + 1) : Nat))]) rfl e12 (i := 0) (x := x0) rfl
              have ce : ∀ {i : Nat} {x : Dt} {G : Hp} {E' : XK} {f : Dt → Bool}, Ex H2 G → [x0, x1, x2][i]? = some x → Ev (tCall (sp_ask K f) [] E' (tCons (tOp (rIxT K) (tVar 1) (tC (.int (i : Nat)))) tNil)) [some (.ref c), some (.ref a), some (.int ((n + 1) : Nat))] G (.bl (f x)) := fun {i x G E' f} eG hx => by
                obtain ⟨w1, b1, b3⟩ := ix (σ' := [some (.ref c), some (.ref a), some (.int ((n + 1) : Nat))]) rfl (e12.trans eG) hx
                exact ev_call (ea_cons b3 ea_nil) (v_ask b1)
              refine q_when (b := isS "same" x0) (et_test (ev_op a3 ev_c (rv_eqS a1))) (fun hs H3 e3 => ?_) (fun hs H3 e3 => ?_)
              · rw [if_pos hs] at k
                exact s_ret (v := .bl (exprD x1 && exprD x2)) (ev_andV (ce (i := 1) e3 rfl) fun _ => ce (i := 2) e3 rfl) fun H4 e4 => k H4 ((e12.trans e3).trans e4)
              · rw [if_neg (by rw [hs]; decide)] at k
                obtain ⟨w0, a1, a3⟩ := ix (σ' := [some (.ref c), some (.ref a), some (.int ((n + 1) : Nat))]) rfl (e12.trans e3) (i := 0) (x := x0) rfl
                refine q_when (b := !(isS "kind" x0 && (exprD x1 && nmD x2))) (et_is (et_or (a := !isS "kind" x0) (b := !(exprD x1 && nmD x2)) (et_test (ev_op a3 ev_c (rv_neS a1))) fun _ => et_is (et_or (et_not (et_B (ce (i := 1) e3 rfl))) fun _ => et_not (et_B (ce (i := 2) e3 rfl))) (by rw [Bool.not_and])) (by rw [← Bool.not_and])) (fun hq H4 e4 => ?_) (fun hq H4 e4 => ?_)
                · rw [show (isS "kind" x0 && (exprD x1 && nmD x2)) = false from not_t hq, Bool.false_and] at k
                  exact s_ret (v := .bl false) ev_c fun H5 e5 => k H5 (((e12.trans e3).trans e4).trans e5)
                · have hq' : (isS "kind" x0 && (exprD x1 && nmD x2)) = true := not_f hq
                  rw [hq', Bool.true_and] at k
                  rw [Bool.and_eq_true, Bool.and_eq_true] at hq'
                  obtain ⟨w2, b1, b3⟩ := ix (σ' := [some (.ref c), some (.ref a), some (.int ((n + 1) : Nat))]) rfl ((e12.trans e3).trans e4) (i := 2) (x := x2) rfl
                  refine s_ret (v := .bl (inS kinds3 x2 || nmIn zs x2)) (ev_orV (ev_inL b3 b1 (el_lst (ea_cons ev_c (ea_cons ev_c (ea_cons ev_c ea_nil))) (show 3 ≤ 100000 by decide))) fun _ => ?_) fun H5 e5 => k H5 (((e12.trans e3).trans e4).trans e5)
                  obtain ⟨z, rfl⟩ := nm_strD hq'.2.2
                  cases b1
                  refine ev_is (et_keys b3 (ev_var rfl) (hc.ex ((e12.trans e3).trans e4))) ?_
                  show V.bl (decide (z ∈ zs)) = V.bl (isNm z && decide (z ∈ zs))
                  rw [show isNm z = true from hq'.2.2, Bool.true_and]
        | _ => cases hd
end
end EE
set_option Elab.async false
set_option linter.all false
set_option maxRecDepth 100000
set_option maxHeartbeats 4000000
namespace EE
open PySem L2 Evl
/-! ### the law's rows: right exactly if what is put in is right -/
section
variable {B R : Dt → Bool} {kn : Kn} {d e : Dt}

theorem pt_name : partD B R kn (Str.ofString "name") d = nmD d := by
  unfold partD leafD
  rw [if_neg (by decide +kernel), if_neg (by decide +kernel), if_pos (by decide +kernel)]
theorem pt_local : partD B R kn (Str.ofString "local") d = nmD d := by
  unfold partD leafD
  rw [if_neg (by decide +kernel), if_neg (by decide +kernel), if_neg (by decide +kernel), if_pos (by decide +kernel)]
theorem pt_shared : partD B R kn (Str.ofString "shared") d = nmIn kn.sh d := by
  unfold partD leafD
  rw [if_neg (by decide +kernel), if_neg (by decide +kernel), if_neg (by decide +kernel), if_neg (by decide +kernel), if_pos (by decide +kernel)]
theorem pt_class : partD B R kn (Str.ofString "class") d = nmIn kn.cl d := by
  unfold partD leafD
  rw [if_neg (by decide +kernel), if_neg (by decide +kernel), if_neg (by decide +kernel), if_neg (by decide +kernel), if_neg (by decide +kernel), if_pos (by decide +kernel)]
theorem pt_function : partD B R kn (Str.ofString "function") d = nmIn kn.fn d := by
  unfold partD leafD
  rw [if_neg (by decide +kernel), if_neg (by decide +kernel), if_neg (by decide +kernel), if_neg (by decide +kernel), if_neg (by decide +kernel), if_neg (by decide +kernel), if_pos (by decide +kernel)]
theorem pt_price : partD B R kn (Str.ofString "price") d = priceD d := by
  unfold partD leafD
  rw [if_neg (by decide +kernel), if_neg (by decide +kernel), if_neg (by decide +kernel), if_neg (by decide +kernel), if_neg (by decide +kernel), if_neg (by decide +kernel), if_neg (by decide +kernel), if_pos (by decide +kernel)]
theorem pt_words : partD B R kn (Str.ofString "words") d = wordsD d := by
  unfold partD leafD
  rw [if_neg (by decide +kernel), if_neg (by decide +kernel), if_neg (by decide +kernel), if_neg (by decide +kernel), if_neg (by decide +kernel), if_neg (by decide +kernel), if_neg (by decide +kernel), if_neg (by decide +kernel), if_pos (by decide +kernel)]
theorem pt_expression : partD B R kn (Str.ofString "expression") d = exprD d := by
  unfold partD leafD
  rw [if_neg (by decide +kernel), if_neg (by decide +kernel), if_neg (by decide +kernel), if_neg (by decide +kernel), if_neg (by decide +kernel), if_neg (by decide +kernel), if_neg (by decide +kernel), if_neg (by decide +kernel), if_neg (by decide +kernel), if_pos (by decide +kernel)]
theorem pt_expressions : partD B R kn (Str.ofString "expressions") d = exprsD d := by
  unfold partD leafD
  rw [if_neg (by decide +kernel), if_neg (by decide +kernel), if_neg (by decide +kernel), if_neg (by decide +kernel), if_neg (by decide +kernel), if_neg (by decide +kernel), if_neg (by decide +kernel), if_neg (by decide +kernel), if_neg (by decide +kernel), if_neg (by decide +kernel), if_pos (by decide +kernel)]
theorem pt_test : partD B R kn (Str.ofString "test") d = testD kn d := by
  unfold partD leafD
  rw [if_neg (by decide +kernel), if_neg (by decide +kernel), if_neg (by decide +kernel), if_neg (by decide +kernel), if_neg (by decide +kernel), if_neg (by decide +kernel), if_neg (by decide +kernel), if_neg (by decide +kernel), if_neg (by decide +kernel), if_neg (by decide +kernel), if_neg (by decide +kernel)]
theorem pt_block : partD B R kn (Str.ofString "block") d = B d := if_pos (by decide +kernel)
theorem pt_bare : partD B R kn (Str.ofString "bare") d = (B d && !R d) := by
  unfold partD
  rw [if_neg (by decide +kernel), if_pos (by decide +kernel)]
theorem sh_set : shapeOf (Str.ofString "set") = some ([Str.ofString "local", Str.ofString "expression"] : List Str) := by decide +kernel
theorem st_set {d0 d1 : Dt} : stmtD B R kn (.tup [.str (Str.ofString "set"), d0, d1]) = (nmD d0 && exprD d1) := by
  show (isNm (Str.ofString "set") && (match shapeOf (Str.ofString "set") with | none => false | some ks => decide (([d0, d1] : List Dt).length = ks.length) && (List.zipWith (partD B R kn) ks [d0, d1]).all id)) = _
  rw [show isNm (Str.ofString "set") = true from by decide +kernel, sh_set, Bool.true_and]
  show (decide (2 = 2) && (partD B R kn (Str.ofString "local") d0 && (partD B R kn (Str.ofString "expression") d1 && true))) = _
  rw [decide_eq_true rfl, Bool.true_and, Bool.and_true]
  simp only [pt_local, pt_expression]
theorem sh_share : shapeOf (Str.ofString "share") = some ([Str.ofString "shared", Str.ofString "expression"] : List Str) := by decide +kernel
theorem st_share {d0 d1 : Dt} : stmtD B R kn (.tup [.str (Str.ofString "share"), d0, d1]) = (nmIn kn.sh d0 && exprD d1) := by
  show (isNm (Str.ofString "share") && (match shapeOf (Str.ofString "share") with | none => false | some ks => decide (([d0, d1] : List Dt).length = ks.length) && (List.zipWith (partD B R kn) ks [d0, d1]).all id)) = _
  rw [show isNm (Str.ofString "share") = true from by decide +kernel, sh_share, Bool.true_and]
  show (decide (2 = 2) && (partD B R kn (Str.ofString "shared") d0 && (partD B R kn (Str.ofString "expression") d1 && true))) = _
  rw [decide_eq_true rfl, Bool.true_and, Bool.and_true]
  simp only [pt_shared, pt_expression]
theorem sh_pay : shapeOf (Str.ofString "pay") = some ([Str.ofString "price"] : List Str) := by decide +kernel
theorem st_pay {d0 : Dt} : stmtD B R kn (.tup [.str (Str.ofString "pay"), d0]) = priceD d0 := by
  show (isNm (Str.ofString "pay") && (match shapeOf (Str.ofString "pay") with | none => false | some ks => decide (([d0] : List Dt).length = ks.length) && (List.zipWith (partD B R kn) ks [d0]).all id)) = _
  rw [show isNm (Str.ofString "pay") = true from by decide +kernel, sh_pay, Bool.true_and]
  show (decide (1 = 1) && (partD B R kn (Str.ofString "price") d0 && true)) = _
  rw [decide_eq_true rfl, Bool.true_and, Bool.and_true]
  simp only [pt_price]
theorem sh_ask : shapeOf (Str.ofString "ask") = some ([Str.ofString "local", Str.ofString "words"] : List Str) := by decide +kernel
theorem st_ask {d0 d1 : Dt} : stmtD B R kn (.tup [.str (Str.ofString "ask"), d0, d1]) = (nmD d0 && wordsD d1) := by
  show (isNm (Str.ofString "ask") && (match shapeOf (Str.ofString "ask") with | none => false | some ks => decide (([d0, d1] : List Dt).length = ks.length) && (List.zipWith (partD B R kn) ks [d0, d1]).all id)) = _
  rw [show isNm (Str.ofString "ask") = true from by decide +kernel, sh_ask, Bool.true_and]
  show (decide (2 = 2) && (partD B R kn (Str.ofString "local") d0 && (partD B R kn (Str.ofString "words") d1 && true))) = _
  rw [decide_eq_true rfl, Bool.true_and, Bool.and_true]
  simp only [pt_local, pt_words]
theorem sh_if : shapeOf (Str.ofString "if") = some ([Str.ofString "test", Str.ofString "block", Str.ofString "block"] : List Str) := by decide +kernel
theorem st_if {d0 d1 d2 : Dt} : stmtD B R kn (.tup [.str (Str.ofString "if"), d0, d1, d2]) = (testD kn d0 && (B d1 && B d2)) := by
  show (isNm (Str.ofString "if") && (match shapeOf (Str.ofString "if") with | none => false | some ks => decide (([d0, d1, d2] : List Dt).length = ks.length) && (List.zipWith (partD B R kn) ks [d0, d1, d2]).all id)) = _
  rw [show isNm (Str.ofString "if") = true from by decide +kernel, sh_if, Bool.true_and]
  show (decide (3 = 3) && (partD B R kn (Str.ofString "test") d0 && (partD B R kn (Str.ofString "block") d1 && (partD B R kn (Str.ofString "block") d2 && true)))) = _
  rw [decide_eq_true rfl, Bool.true_and, Bool.and_true]
  simp only [pt_test, pt_block]
theorem sh_loop : shapeOf (Str.ofString "loop") = some ([Str.ofString "test", Str.ofString "block"] : List Str) := by decide +kernel
theorem st_loop {d0 d1 : Dt} : stmtD B R kn (.tup [.str (Str.ofString "loop"), d0, d1]) = (testD kn d0 && B d1) := by
  show (isNm (Str.ofString "loop") && (match shapeOf (Str.ofString "loop") with | none => false | some ks => decide (([d0, d1] : List Dt).length = ks.length) && (List.zipWith (partD B R kn) ks [d0, d1]).all id)) = _
  rw [show isNm (Str.ofString "loop") = true from by decide +kernel, sh_loop, Bool.true_and]
  show (decide (2 = 2) && (partD B R kn (Str.ofString "test") d0 && (partD B R kn (Str.ofString "block") d1 && true))) = _
  rw [decide_eq_true rfl, Bool.true_and, Bool.and_true]
  simp only [pt_test, pt_block]
theorem sh_return : shapeOf (Str.ofString "return") = some ([Str.ofString "expression"] : List Str) := by decide +kernel
theorem st_return {d0 : Dt} : stmtD B R kn (.tup [.str (Str.ofString "return"), d0]) = exprD d0 := by
  show (isNm (Str.ofString "return") && (match shapeOf (Str.ofString "return") with | none => false | some ks => decide (([d0] : List Dt).length = ks.length) && (List.zipWith (partD B R kn) ks [d0]).all id)) = _
  rw [show isNm (Str.ofString "return") = true from by decide +kernel, sh_return, Bool.true_and]
  show (decide (1 = 1) && (partD B R kn (Str.ofString "expression") d0 && true)) = _
  rw [decide_eq_true rfl, Bool.true_and, Bool.and_true]
  simp only [pt_expression]
theorem sh_raise : shapeOf (Str.ofString "raise") = some ([Str.ofString "expression"] : List Str) := by decide +kernel
theorem st_raise {d0 : Dt} : stmtD B R kn (.tup [.str (Str.ofString "raise"), d0]) = exprD d0 := by
  show (isNm (Str.ofString "raise") && (match shapeOf (Str.ofString "raise") with | none => false | some ks => decide (([d0] : List Dt).length = ks.length) && (List.zipWith (partD B R kn) ks [d0]).all id)) = _
  rw [show isNm (Str.ofString "raise") = true from by decide +kernel, sh_raise, Bool.true_and]
  show (decide (1 = 1) && (partD B R kn (Str.ofString "expression") d0 && true)) = _
  rw [decide_eq_true rfl, Bool.true_and, Bool.and_true]
  simp only [pt_expression]
theorem sh_try : shapeOf (Str.ofString "try") = some ([Str.ofString "block", Str.ofString "local", Str.ofString "block"] : List Str) := by decide +kernel
theorem st_try {d0 d1 d2 : Dt} : stmtD B R kn (.tup [.str (Str.ofString "try"), d0, d1, d2]) = (B d0 && (nmD d1 && B d2)) := by
  show (isNm (Str.ofString "try") && (match shapeOf (Str.ofString "try") with | none => false | some ks => decide (([d0, d1, d2] : List Dt).length = ks.length) && (List.zipWith (partD B R kn) ks [d0, d1, d2]).all id)) = _
  rw [show isNm (Str.ofString "try") = true from by decide +kernel, sh_try, Bool.true_and]
  show (decide (3 = 3) && (partD B R kn (Str.ofString "block") d0 && (partD B R kn (Str.ofString "local") d1 && (partD B R kn (Str.ofString "block") d2 && true)))) = _
  rw [decide_eq_true rfl, Bool.true_and, Bool.and_true]
  simp only [pt_block, pt_local]
theorem sh_last : shapeOf (Str.ofString "last") = some ([Str.ofString "bare", Str.ofString "block"] : List Str) := by decide +kernel
theorem st_last {d0 d1 : Dt} : stmtD B R kn (.tup [.str (Str.ofString "last"), d0, d1]) = ((B d0 && !R d0) && B d1) := by
  show (isNm (Str.ofString "last") && (match shapeOf (Str.ofString "last") with | none => false | some ks => decide (([d0, d1] : List Dt).length = ks.length) && (List.zipWith (partD B R kn) ks [d0, d1]).all id)) = _
  rw [show isNm (Str.ofString "last") = true from by decide +kernel, sh_last, Bool.true_and]
  show (decide (2 = 2) && (partD B R kn (Str.ofString "bare") d0 && (partD B R kn (Str.ofString "block") d1 && true))) = _
  rw [decide_eq_true rfl, Bool.true_and, Bool.and_true]
  simp only [pt_bare, pt_block]
theorem sh_call : shapeOf (Str.ofString "call") = some ([Str.ofString "local", Str.ofString "function", Str.ofString "expressions"] : List Str) := by decide +kernel
theorem st_call {d0 d1 d2 : Dt} : stmtD B R kn (.tup [.str (Str.ofString "call"), d0, d1, d2]) = (nmD d0 && (nmIn kn.fn d1 && exprsD d2)) := by
  show (isNm (Str.ofString "call") && (match shapeOf (Str.ofString "call") with | none => false | some ks => decide (([d0, d1, d2] : List Dt).length = ks.length) && (List.zipWith (partD B R kn) ks [d0, d1, d2]).all id)) = _
  rw [show isNm (Str.ofString "call") = true from by decide +kernel, sh_call, Bool.true_and]
  show (decide (3 = 3) && (partD B R kn (Str.ofString "local") d0 && (partD B R kn (Str.ofString "function") d1 && (partD B R kn (Str.ofString "expressions") d2 && true)))) = _
  rw [decide_eq_true rfl, Bool.true_and, Bool.and_true]
  simp only [pt_local, pt_function, pt_expressions]
theorem sh_apply : shapeOf (Str.ofString "apply") = some ([Str.ofString "local", Str.ofString "expression", Str.ofString "expressions"] : List Str) := by decide +kernel
theorem st_apply {d0 d1 d2 : Dt} : stmtD B R kn (.tup [.str (Str.ofString "apply"), d0, d1, d2]) = (nmD d0 && (exprD d1 && exprsD d2)) := by
  show (isNm (Str.ofString "apply") && (match shapeOf (Str.ofString "apply") with | none => false | some ks => decide (([d0, d1, d2] : List Dt).length = ks.length) && (List.zipWith (partD B R kn) ks [d0, d1, d2]).all id)) = _
  rw [show isNm (Str.ofString "apply") = true from by decide +kernel, sh_apply, Bool.true_and]
  show (decide (3 = 3) && (partD B R kn (Str.ofString "local") d0 && (partD B R kn (Str.ofString "expression") d1 && (partD B R kn (Str.ofString "expressions") d2 && true)))) = _
  rw [decide_eq_true rfl, Bool.true_and, Bool.and_true]
  simp only [pt_local, pt_expression, pt_expressions]
theorem sh_send : shapeOf (Str.ofString "send") = some ([Str.ofString "local", Str.ofString "expression", Str.ofString "name", Str.ofString "expressions"] : List Str) := by decide +kernel
theorem st_send {d0 d1 d2 d3 : Dt} : stmtD B R kn (.tup [.str (Str.ofString "send"), d0, d1, d2, d3]) = (nmD d0 && (exprD d1 && (nmD d2 && exprsD d3))) := by
  show (isNm (Str.ofString "send") && (match shapeOf (Str.ofString "send") with | none => false | some ks => decide (([d0, d1, d2, d3] : List Dt).length = ks.length) && (List.zipWith (partD B R kn) ks [d0, d1, d2, d3]).all id)) = _
  rw [show isNm (Str.ofString "send") = true from by decide +kernel, sh_send, Bool.true_and]
  show (decide (4 = 4) && (partD B R kn (Str.ofString "local") d0 && (partD B R kn (Str.ofString "expression") d1 && (partD B R kn (Str.ofString "name") d2 && (partD B R kn (Str.ofString "expressions") d3 && true))))) = _
  rw [decide_eq_true rfl, Bool.true_and, Bool.and_true]
  simp only [pt_local, pt_expression, pt_name, pt_expressions]
theorem sh_new : shapeOf (Str.ofString "new") = some ([Str.ofString "local", Str.ofString "class", Str.ofString "expressions"] : List Str) := by decide +kernel
theorem st_new {d0 d1 d2 : Dt} : stmtD B R kn (.tup [.str (Str.ofString "new"), d0, d1, d2]) = (nmD d0 && (nmIn kn.cl d1 && exprsD d2)) := by
  show (isNm (Str.ofString "new") && (match shapeOf (Str.ofString "new") with | none => false | some ks => decide (([d0, d1, d2] : List Dt).length = ks.length) && (List.zipWith (partD B R kn) ks [d0, d1, d2]).all id)) = _
  rw [show isNm (Str.ofString "new") = true from by decide +kernel, sh_new, Bool.true_and]
  show (decide (3 = 3) && (partD B R kn (Str.ofString "local") d0 && (partD B R kn (Str.ofString "class") d1 && (partD B R kn (Str.ofString "expressions") d2 && true)))) = _
  rw [decide_eq_true rfl, Bool.true_and, Bool.and_true]
  simp only [pt_local, pt_class, pt_expressions]
theorem sh_keep : shapeOf (Str.ofString "keep") = some ([Str.ofString "local", Str.ofString "function", Str.ofString "expressions"] : List Str) := by decide +kernel
theorem st_keep {d0 d1 d2 : Dt} : stmtD B R kn (.tup [.str (Str.ofString "keep"), d0, d1, d2]) = (nmD d0 && (nmIn kn.fn d1 && exprsD d2)) := by
  show (isNm (Str.ofString "keep") && (match shapeOf (Str.ofString "keep") with | none => false | some ks => decide (([d0, d1, d2] : List Dt).length = ks.length) && (List.zipWith (partD B R kn) ks [d0, d1, d2]).all id)) = _
  rw [show isNm (Str.ofString "keep") = true from by decide +kernel, sh_keep, Bool.true_and]
  show (decide (3 = 3) && (partD B R kn (Str.ofString "local") d0 && (partD B R kn (Str.ofString "function") d1 && (partD B R kn (Str.ofString "expressions") d2 && true)))) = _
  rw [decide_eq_true rfl, Bool.true_and, Bool.and_true]
  simp only [pt_local, pt_function, pt_expressions]
theorem sh_get : shapeOf (Str.ofString "get") = some ([Str.ofString "local", Str.ofString "expression", Str.ofString "name"] : List Str) := by decide +kernel
theorem st_get {d0 d1 d2 : Dt} : stmtD B R kn (.tup [.str (Str.ofString "get"), d0, d1, d2]) = (nmD d0 && (exprD d1 && nmD d2)) := by
  show (isNm (Str.ofString "get") && (match shapeOf (Str.ofString "get") with | none => false | some ks => decide (([d0, d1, d2] : List Dt).length = ks.length) && (List.zipWith (partD B R kn) ks [d0, d1, d2]).all id)) = _
  rw [show isNm (Str.ofString "get") = true from by decide +kernel, sh_get, Bool.true_and]
  show (decide (3 = 3) && (partD B R kn (Str.ofString "local") d0 && (partD B R kn (Str.ofString "expression") d1 && (partD B R kn (Str.ofString "name") d2 && true)))) = _
  rw [decide_eq_true rfl, Bool.true_and, Bool.and_true]
  simp only [pt_local, pt_expression, pt_name]
theorem sh_with : shapeOf (Str.ofString "with") = some ([Str.ofString "local", Str.ofString "expression", Str.ofString "name", Str.ofString "expression"] : List Str) := by decide +kernel
theorem st_with {d0 d1 d2 d3 : Dt} : stmtD B R kn (.tup [.str (Str.ofString "with"), d0, d1, d2, d3]) = (nmD d0 && (exprD d1 && (nmD d2 && exprD d3))) := by
  show (isNm (Str.ofString "with") && (match shapeOf (Str.ofString "with") with | none => false | some ks => decide (([d0, d1, d2, d3] : List Dt).length = ks.length) && (List.zipWith (partD B R kn) ks [d0, d1, d2, d3]).all id)) = _
  rw [show isNm (Str.ofString "with") = true from by decide +kernel, sh_with, Bool.true_and]
  show (decide (4 = 4) && (partD B R kn (Str.ofString "local") d0 && (partD B R kn (Str.ofString "expression") d1 && (partD B R kn (Str.ofString "name") d2 && (partD B R kn (Str.ofString "expression") d3 && true))))) = _
  rw [decide_eq_true rfl, Bool.true_and, Bool.and_true]
  simp only [pt_local, pt_expression, pt_name]
theorem sh_push : shapeOf (Str.ofString "push") = some ([Str.ofString "local", Str.ofString "expression", Str.ofString "expression"] : List Str) := by decide +kernel
theorem st_push {d0 d1 d2 : Dt} : stmtD B R kn (.tup [.str (Str.ofString "push"), d0, d1, d2]) = (nmD d0 && (exprD d1 && exprD d2)) := by
  show (isNm (Str.ofString "push") && (match shapeOf (Str.ofString "push") with | none => false | some ks => decide (([d0, d1, d2] : List Dt).length = ks.length) && (List.zipWith (partD B R kn) ks [d0, d1, d2]).all id)) = _
  rw [show isNm (Str.ofString "push") = true from by decide +kernel, sh_push, Bool.true_and]
  show (decide (3 = 3) && (partD B R kn (Str.ofString "local") d0 && (partD B R kn (Str.ofString "expression") d1 && (partD B R kn (Str.ofString "expression") d2 && true)))) = _
  rw [decide_eq_true rfl, Bool.true_and, Bool.and_true]
  simp only [pt_local, pt_expression]
theorem sh_pop : shapeOf (Str.ofString "pop") = some ([Str.ofString "local", Str.ofString "expression"] : List Str) := by decide +kernel
theorem st_pop {d0 d1 : Dt} : stmtD B R kn (.tup [.str (Str.ofString "pop"), d0, d1]) = (nmD d0 && exprD d1) := by
  show (isNm (Str.ofString "pop") && (match shapeOf (Str.ofString "pop") with | none => false | some ks => decide (([d0, d1] : List Dt).length = ks.length) && (List.zipWith (partD B R kn) ks [d0, d1]).all id)) = _
  rw [show isNm (Str.ofString "pop") = true from by decide +kernel, sh_pop, Bool.true_and]
  show (decide (2 = 2) && (partD B R kn (Str.ofString "local") d0 && (partD B R kn (Str.ofString "expression") d1 && true))) = _
  rw [decide_eq_true rfl, Bool.true_and, Bool.and_true]
  simp only [pt_local, pt_expression]
end
end EE
set_option Elab.async false
set_option linter.all false
set_option maxRecDepth 100000
set_option maxHeartbeats 4000000
namespace EE
open PySem L2 Evl
section
variable {B R : Dt → Bool} {kn : Kn} {a b c d e n : Dt} {z : Str}
theorem ex_str : exprD (.str z) = isNm z := rfl
theorem nmst : nmD (.str z) = isNm z := rfl
theorem ex_one : exprD (.tup [d]) = nmD d := by show (decide (1 = 1) && nmD d) = _; simp
theorem es_0 : exprsD (.tup []) = true := by decide +kernel
theorem es_1 : exprsD (.tup [a]) = exprD a := by show (decide (1 ≤ 4) && (exprD a && true)) = _; simp
theorem es_2 : exprsD (.tup [a, b]) = (exprD a && exprD b) := by show (decide (2 ≤ 4) && (exprD a && (exprD b && true))) = _; simp
theorem es_3 : exprsD (.tup [a, b, c]) = (exprD a && (exprD b && exprD c)) := by show (decide (3 ≤ 4) && (exprD a && (exprD b && (exprD c && true)))) = _; simp
theorem es_4 : exprsD (.tup [a, b, c, d]) = (exprD a && (exprD b && (exprD c && exprD d))) := by show (decide (4 ≤ 4) && (exprD a && (exprD b && (exprD c && (exprD d && true))))) = _; simp
theorem ts_same : testD kn (.tup [.str (Str.ofString "same"), a, b]) = (exprD a && exprD b) := by
  unfold testD
  rw [strip_fix (show isNot (.tup [.str (Str.ofString "same"), a, b]) = false from rfl)]
  show (decide (3 = 3) && (if isS "same" (.str (Str.ofString "same")) then exprD a && exprD b else isS "kind" (.str (Str.ofString "same")) && (exprD a && kindD kn b))) = _
  rw [if_pos (by decide +kernel)]
  simp
theorem ts_kind : testD kn (.tup [.str (Str.ofString "kind"), a, b]) = (exprD a && kindD kn b) := by
  unfold testD
  rw [strip_fix (show isNot (.tup [.str (Str.ofString "kind"), a, b]) = false from rfl)]
  show (decide (3 = 3) && (if isS "same" (.str (Str.ofString "kind")) then exprD a && exprD b else isS "kind" (.str (Str.ofString "kind")) && (exprD a && kindD kn b))) = _
  rw [if_neg (by decide +kernel), show isS "kind" (.str (Str.ofString "kind")) = true from by decide +kernel]
  simp
theorem st_not {t : Dt} : strip1 (.tup [.str (Str.ofString "not"), t]) = t := by
  refine if_pos ?_
  show (decide (2 = 2) && isS "not" (.str (Str.ofString "not"))) = true
  rw [show isS "not" (.str (Str.ofString "not")) = true from by decide +kernel]
  rfl
theorem ts_notnot : testD kn (.tup [.str (Str.ofString "not"), .tup [.str (Str.ofString "not"), .tup [.str (Str.ofString "same"), a, b]]]) = (exprD a && exprD b) := by
  rw [← ts_same (kn := kn)]
  unfold testD
  rw [strips_in, strips_in, st_not, st_not, strip_fix (show isNot (.tup [.str (Str.ofString "same"), a, b]) = false from rfl), strip_fix (show isNot (.tup [.str (Str.ofString "same"), a, b]) = false from rfl)]
theorem in_kinds : kindD kn (.str (Str.ofString "row")) = true := by
  unfold kindD
  rw [show inS kinds3 (.str (Str.ofString "row")) = true from by decide +kernel]
  rfl

theorem nm_a : isNm (Str.ofString "a") = true := by decide +kernel
theorem nm_b : isNm (Str.ofString "b") = true := by decide +kernel
theorem nm_c : isNm (Str.ofString "c") = true := by decide +kernel
theorem nm_f : isNm (Str.ofString "f") = true := by decide +kernel
theorem nm_m : isNm (Str.ofString "m") = true := by decide +kernel
theorem nm_no : isNm (Str.ofString "no") = true := by decide +kernel
theorem nm_s : isNm (Str.ofString "s") = true := by decide +kernel
theorem nm_x : isNm (Str.ofString "x") = true := by decide +kernel
theorem nm_yes : isNm (Str.ofString "yes") = true := by decide +kernel
abbrev kn10 : Kn := ⟨[Str.ofString "s"], [Str.ofString "c"], [Str.ofString "f", Str.ofString "g"]⟩
theorem in_s : nmIn [Str.ofString "s"] (.str (Str.ofString "s")) = true := by decide +kernel
theorem in_c : nmIn [Str.ofString "c"] (.str (Str.ofString "c")) = true := by decide +kernel
theorem in_f : nmIn [Str.ofString "f", Str.ofString "g"] (.str (Str.ofString "f")) = true := by decide +kernel
theorem wd_ny : wordsD (.tup [.str (Str.ofString "no"), .str (Str.ofString "yes")]) = true := by decide +kernel
def expRows (e : Dt) : List Dt := [.tup [.str (Str.ofString "set"), .str (Str.ofString "x"), e],
  .tup [.str (Str.ofString "share"), .str (Str.ofString "s"), e],
  .tup [.str (Str.ofString "return"), e],
  .tup [.str (Str.ofString "raise"), e],
  .tup [.str (Str.ofString "pop"), .str (Str.ofString "x"), e],
  .tup [.str (Str.ofString "call"), .str (Str.ofString "x"), .str (Str.ofString "f"), .tup [e]],
  .tup [.str (Str.ofString "call"), .str (Str.ofString "x"), .str (Str.ofString "f"), .tup [.str (Str.ofString "a"), .tup [.str (Str.ofString "b")], e]],
  .tup [.str (Str.ofString "keep"), .str (Str.ofString "x"), .str (Str.ofString "f"), .tup [e, .str (Str.ofString "a")]],
  .tup [.str (Str.ofString "apply"), .str (Str.ofString "x"), e, .tup []],
  .tup [.str (Str.ofString "apply"), .str (Str.ofString "x"), .tup [.str (Str.ofString "a")], .tup [.str (Str.ofString "b"), e]],
  .tup [.str (Str.ofString "new"), .str (Str.ofString "x"), .str (Str.ofString "c"), .tup [.str (Str.ofString "a"), .str (Str.ofString "a"), .str (Str.ofString "b"), e]],
  .tup [.str (Str.ofString "send"), .str (Str.ofString "x"), e, .str (Str.ofString "m"), .tup []],
  .tup [.str (Str.ofString "send"), .str (Str.ofString "x"), .str (Str.ofString "a"), .str (Str.ofString "m"), .tup [e]],
  .tup [.str (Str.ofString "get"), .str (Str.ofString "x"), e, .str (Str.ofString "b")],
  .tup [.str (Str.ofString "with"), .str (Str.ofString "x"), e, .str (Str.ofString "b"), .tup [.str (Str.ofString "c")]],
  .tup [.str (Str.ofString "with"), .str (Str.ofString "x"), .tup [.str (Str.ofString "c")], .str (Str.ofString "b"), e],
  .tup [.str (Str.ofString "push"), .str (Str.ofString "x"), e, .str (Str.ofString "a")],
  .tup [.str (Str.ofString "push"), .str (Str.ofString "x"), .tup [.str (Str.ofString "a")], e],
  .tup [.str (Str.ofString "if"), .tup [.str (Str.ofString "same"), e, .str (Str.ofString "a")], .tup [], .tup []],
  .tup [.str (Str.ofString "loop"), .tup [.str (Str.ofString "kind"), e, .str (Str.ofString "row")], .tup []],
  .tup [.str (Str.ofString "if"), .tup [.str (Str.ofString "not"), .tup [.str (Str.ofString "not"), .tup [.str (Str.ofString "same"), .tup [.str (Str.ofString "a")], e]]], .tup [], .tup []]]
def namRows (n : Dt) : List Dt := [.tup [.str (Str.ofString "set"), n, .str (Str.ofString "a")],
  .tup [.str (Str.ofString "ask"), n, .tup [.str (Str.ofString "no"), .str (Str.ofString "yes")]],
  .tup [.str (Str.ofString "try"), .tup [], n, .tup []],
  .tup [.str (Str.ofString "call"), n, .str (Str.ofString "f"), .tup []],
  .tup [.str (Str.ofString "apply"), n, .str (Str.ofString "a"), .tup []],
  .tup [.str (Str.ofString "send"), n, .str (Str.ofString "a"), .str (Str.ofString "m"), .tup []],
  .tup [.str (Str.ofString "send"), .str (Str.ofString "x"), .str (Str.ofString "a"), n, .tup []],
  .tup [.str (Str.ofString "new"), n, .str (Str.ofString "c"), .tup []],
  .tup [.str (Str.ofString "keep"), n, .str (Str.ofString "f"), .tup []],
  .tup [.str (Str.ofString "get"), n, .str (Str.ofString "a"), .str (Str.ofString "b")],
  .tup [.str (Str.ofString "get"), .str (Str.ofString "x"), .str (Str.ofString "a"), n],
  .tup [.str (Str.ofString "with"), n, .str (Str.ofString "a"), .str (Str.ofString "b"), .str (Str.ofString "a")],
  .tup [.str (Str.ofString "with"), .str (Str.ofString "x"), .str (Str.ofString "a"), n, .str (Str.ofString "a")],
  .tup [.str (Str.ofString "push"), n, .str (Str.ofString "a"), .str (Str.ofString "a")],
  .tup [.str (Str.ofString "pop"), n, .str (Str.ofString "a")]]
theorem exp_row (hB : B (.tup []) = true) : ∀ r ∈ expRows e, stmtD B R kn10 r = exprD e := by
  intro r hr
  simp only [expRows, List.mem_cons, List.not_mem_nil, or_false] at hr
  rcases hr with rfl | rfl | rfl | rfl | rfl | rfl | rfl | rfl | rfl | rfl | rfl | rfl | rfl | rfl | rfl | rfl | rfl | rfl | rfl | rfl | rfl <;> simp only [st_set, st_share, st_pay, st_ask, st_if, st_loop, st_return, st_raise, st_try, st_last, st_call, st_apply, st_send, st_new, st_keep, st_get, st_with, st_push, st_pop, ex_str, nmst, ex_one, es_0, es_1, es_2, es_3, es_4, ts_same, ts_kind, ts_notnot, in_kinds, nm_a, nm_b, nm_c, nm_f, nm_m, nm_no, nm_s, nm_x, nm_yes, in_s, in_c, in_f, wd_ny, hB, Bool.true_and, Bool.and_true]
theorem nam_row (hB : B (.tup []) = true) : ∀ r ∈ namRows n, stmtD B R kn10 r = nmD n := by
  intro r hr
  simp only [namRows, List.mem_cons, List.not_mem_nil, or_false] at hr
  rcases hr with rfl | rfl | rfl | rfl | rfl | rfl | rfl | rfl | rfl | rfl | rfl | rfl | rfl | rfl | rfl <;> simp only [st_set, st_share, st_pay, st_ask, st_if, st_loop, st_return, st_raise, st_try, st_last, st_call, st_apply, st_send, st_new, st_keep, st_get, st_with, st_push, st_pop, ex_str, nmst, ex_one, es_0, es_1, es_2, es_3, es_4, ts_same, ts_kind, ts_notnot, in_kinds, nm_a, nm_b, nm_c, nm_f, nm_m, nm_no, nm_s, nm_x, nm_yes, in_s, in_c, in_f, wd_ny, hB, Bool.true_and, Bool.and_true]
end
end EE
set_option Elab.async false
set_option linter.all false
set_option maxRecDepth 100000
set_option maxHeartbeats 4000000
namespace EE
open PySem L2 Evl
open C8 (Cal Mak cal0 mak0 pe_c pe_mk pe_gc fnScope_by)
/-! ### expressions that make data -/
section
variable {K : PySem.W.Frag} {σ : L2.St} {H H' : Hp} {ta tb tc te tv : TE} {t u : TA} {x y z v : V} {d : Dt} {ds es : List Dt}
/-- some value that is d -/
def DvE (K : PySem.W.Frag) (te : TE) (σ : L2.St) (H : Hp) (d : Dt) : Prop := ∀ H1, Ex H H1 → ∀ Q : VK, (∀ v H2, Ex H1 H2 → At K H2 v d → Q v H2) → te σ H1 Q
def DvA (K : PySem.W.Frag) (t : TA) (σ : L2.St) (H : Hp) (ds : List Dt) : Prop := ∀ H1, Ex H H1 → ∀ Q : List V → Hp → Prop, (∀ vs H2, Ex H1 H2 → AtL K H2 vs ds → Q vs H2) → t σ H1 Q
def DvL (K : PySem.W.Frag) (te : TE) (σ : L2.St) (H : Hp) (ds : List Dt) : Prop := ∀ H1, Ex H H1 → ∀ Q : VK, (∀ p ws H2, H1 p = none → Ex H1 H2 → H2 p = some (.lst ws) → AtL K H2 ws ds → Q (.ref p) H2) → te σ H1 Q
theorem DvE.mono (e : Ex H H') (h : DvE K te σ H d) : DvE K te σ H' d := fun H1 e1 Q q => h H1 (e.trans e1) Q q
theorem dd_of (h : Ev te σ H v) (ha : At K H v d) : DvE K te σ H d := fun H1 e Q q => h H1 e _ fun H2 e2 => q v H2 e2 (ha.ex (e.trans e2))
theorem dd_var {i : Nat} (h : σ[i]? = some (some v)) (ha : At K H v d) : DvE K (tVar i) σ H d := dd_of (ev_var h) ha
theorem dd_str {z : Str} (h : z.length ≤ sizeLine) : DvE K (tC (.str z)) σ H (.str z) := dd_of ev_c (.str z h)
theorem dd_int {i : Int} : DvE K (tC (.int i)) σ H (.int i) := dd_of ev_c (.int i)
theorem dd_nil : DvA K tNil σ H [] := fun H1 e Q q => q [] H1 (Ex.refl H1) .nil
theorem dd_cons (h : DvE K te σ H d) (t1 : DvA K t σ H ds) : DvA K (tCons te t) σ H (d :: ds) := fun H1 e Q q =>
  h H1 e _ fun v H2 e2 a => t1 H2 (e.trans e2) _ fun vs H3 e3 as => q (v :: vs) H3 (e2.trans e3) (.cons (a.ex e3) as)
theorem dd_tup (h : DvA K t σ H ds) (hz : ds.length ≤ 40000) : DvE K (tTup t) σ H (.tup ds) := fun H1 e Q q =>
  h H1 e _ fun vs H2 e2 a => ⟨by rw [a.len]; have : 40000 ≤ sizeLine := by decide
                                 omega, fun p hp => q _ _ (e2.trans (Ex.new hp)) (.tup (st_of upd_same) (a.ex (Ex.new hp)) (by rw [a.len]; exact hz))⟩
theorem dl_lst (h : DvA K t σ H ds) (hz : ds.length ≤ 40000) : DvL K (tLst t) σ H ds := fun H1 e Q q =>
  h H1 e _ fun vs H2 e2 a => ⟨by rw [a.len]; have : 40000 ≤ sizeLine := by decide
                                 omega, fun p hp => q p vs _ (fresh_back e2 hp) (e2.trans (Ex.new hp)) upd_same (a.ex (Ex.new hp))⟩
theorem q_asgDL {D : Ends} {tz : TS} {i : Nat} (h : DvL K te σ H ds) (k : ∀ p ws H1, H p = none → Ex H H1 → H1 p = some (.lst ws) → AtL K H1 ws ds → tz D (σ.set i (some (.ref p))) H1) : tSeq (tAsg te (gName i)) tz D σ H := h H (Ex.refl H) _ fun p ws H1 hp e h1 a => k p ws H1 hp e h1 a
theorem q_extD {D : Ends} {tz : TS} {l : Addr} {xs : List V} (hl : H l = some (.lst xs)) (ha : Ev ta σ H (.ref l)) (h : DvL K te σ H ds) (hn : xs.length + ds.length ≤ 100000) (k : ∀ ws H1, Ex H H1 → H1 l = some (.lst xs) → AtL K H1 ws ds → tz D σ (upd H1 l (.lst (xs ++ ws)))) : tSeq (tDrop (tBM K "list" rExtend ta (tCons te tNil))) tz D σ H :=
  ha H (Ex.refl H) _ fun H1 e1 => ⟨Or.inl ⟨rfl, xs, sq_of (e1 l _ hl)⟩, h H1 e1 _ fun p ws H2 _ e2 h2 a2 => ⟨l, p, xs, ws, rfl, rfl, e2 l _ (e1 l _ hl), h2, sz_of (by rw [a2.len]; exact hn), k ws H2 (e1.trans e2) (e2 l _ (e1 l _ hl)) a2⟩⟩
theorem q_appD {D : Ends} {tz : TS} {l : Addr} {xs : List V} (hl : H l = some (.lst xs)) (ha : Ev ta σ H (.ref l)) (h : DvE K te σ H d) (hn : xs.length < 100000) (k : ∀ w H1, Ex H H1 → H1 l = some (.lst xs) → At K H1 w d → tz D σ (upd H1 l (.lst (xs ++ [w])))) : tSeq (tDrop (tBM K "list" rAppend ta (tCons te tNil))) tz D σ H :=
  ha H (Ex.refl H) _ fun H1 e1 => ⟨Or.inl ⟨rfl, xs, sq_of (e1 l _ hl)⟩, h H1 e1 _ fun w H2 e2 a2 => ⟨l, xs, w, rfl, rfl, e2 l _ (e1 l _ hl), sz_lt hn, k w H2 (e1.trans e2) (e2 l _ (e1 l _ hl)) a2⟩⟩
end
end EE
set_option Elab.async false
set_option linter.all false
set_option maxRecDepth 100000
set_option maxHeartbeats 4000000
namespace EE
open PySem L2 Evl
open C8 (Cal Mak cal0 mak0 pe_c pe_mk pe_gc fnScope_by)
section
variable {P : Program} {w : World} {K : PySem.W.Frag} {mg : Str → Option Value} {base : Heap}
def sp_rows (K : PySem.W.Frag) (f : Dt → List Dt) : Sp := fun vs H Q _ => ∃ v d, vs = [v] ∧ At K H v d ∧ ∀ l ws H2, H l = none → Ex H H2 → H2 l = some (.lst ws) → AtL K H2 ws (f d) → Q (.ref l) H2
theorem sc_at_expressions : FnScope N__law_at_expressions P__law_at_expressions (C8.fnScope s__law_at_expressions) := fnScope_by (by decide +kernel)
theorem ok_at_expressions (T : TxtK w K mg) : Cal P w K mg base 1 "_law_at_expressions" (sp_rows K expRows) [] := by
  refine mk_cal T.d_at_expressions sc_at_expressions (fun vs H Q E h => ?_) (fun f cdv A outer s H vs Q E hr h => ?_)
  · obtain ⟨_, _, rfl, _⟩ := h
    rfl
  · obtain ⟨v, d, rfl, hv, k⟩ := h
    have nd := sc_at_expressions.nd
    refine ⟨_, (pss_cons (ps_set (i := 1) nd rfl (Or.inl rfl) (pe_lst (pa_cons (pe_tup (pa_cons pe_str (pa_cons pe_str (pa_cons (pv 0) pa_nil)))) (pa_cons (pe_tup (pa_cons pe_str (pa_cons pe_str (pa_cons (pv 0) pa_nil)))) (pa_cons (pe_tup (pa_cons pe_str (pa_cons (pv 0) pa_nil))) (pa_cons (pe_tup (pa_cons pe_str (pa_cons (pv 0) pa_nil))) (pa_cons (pe_tup (pa_cons pe_str (pa_cons pe_str (pa_cons (pv 0) pa_nil)))) pa_nil)))))))
      (pss_cons (ps_expr (pe_bm PySem.F.plainAttrs_list PySem.F.slot_list_extend PySem.F.type_list_extend mt_extend (pv 1) (pa_cons (pe_lst (pa_cons (pe_tup (pa_cons pe_str (pa_cons pe_str (pa_cons pe_str (pa_cons (pe_tup (pa_cons (pv 0) pa_nil)) pa_nil))))) (pa_cons (pe_tup (pa_cons pe_str (pa_cons pe_str (pa_cons pe_str (pa_cons (pe_tup (pa_cons pe_str (pa_cons (pe_tup (pa_cons pe_str pa_nil)) (pa_cons (pv 0) pa_nil)))) pa_nil))))) (pa_cons (pe_tup (pa_cons pe_str (pa_cons pe_str (pa_cons pe_str (pa_cons (pe_tup (pa_cons (pv 0) (pa_cons pe_str pa_nil))) pa_nil))))) pa_nil)))) pa_nil)))
      (pss_cons (ps_expr (pe_bm PySem.F.plainAttrs_list PySem.F.slot_list_extend PySem.F.type_list_extend mt_extend (pv 1) (pa_cons (pe_lst (pa_cons (pe_tup (pa_cons pe_str (pa_cons pe_str (pa_cons (pv 0) (pa_cons (pe_tup pa_nil) pa_nil))))) (pa_cons (pe_tup (pa_cons pe_str (pa_cons pe_str (pa_cons (pe_tup (pa_cons pe_str pa_nil)) (pa_cons (pe_tup (pa_cons pe_str (pa_cons (pv 0) pa_nil))) pa_nil))))) (pa_cons (pe_tup (pa_cons pe_str (pa_cons pe_str (pa_cons pe_str (pa_cons (pe_tup (pa_cons pe_str (pa_cons pe_str (pa_cons pe_str (pa_cons (pv 0) pa_nil))))) pa_nil))))) pa_nil)))) pa_nil)))
      (pss_cons (ps_expr (pe_bm PySem.F.plainAttrs_list PySem.F.slot_list_extend PySem.F.type_list_extend mt_extend (pv 1) (pa_cons (pe_lst (pa_cons (pe_tup (pa_cons pe_str (pa_cons pe_str (pa_cons (pv 0) (pa_cons pe_str (pa_cons (pe_tup pa_nil) pa_nil)))))) (pa_cons (pe_tup (pa_cons pe_str (pa_cons pe_str (pa_cons pe_str (pa_cons pe_str (pa_cons (pe_tup (pa_cons (pv 0) pa_nil)) pa_nil)))))) (pa_cons (pe_tup (pa_cons pe_str (pa_cons pe_str (pa_cons (pv 0) (pa_cons pe_str pa_nil))))) pa_nil)))) pa_nil)))
      (pss_cons (ps_expr (pe_bm PySem.F.plainAttrs_list PySem.F.slot_list_extend PySem.F.type_list_extend mt_extend (pv 1) (pa_cons (pe_lst (pa_cons (pe_tup (pa_cons pe_str (pa_cons pe_str (pa_cons (pv 0) (pa_cons pe_str (pa_cons (pe_tup (pa_cons pe_str pa_nil)) pa_nil)))))) (pa_cons (pe_tup (pa_cons pe_str (pa_cons pe_str (pa_cons (pe_tup (pa_cons pe_str pa_nil)) (pa_cons pe_str (pa_cons (pv 0) pa_nil)))))) (pa_cons (pe_tup (pa_cons pe_str (pa_cons pe_str (pa_cons (pv 0) (pa_cons pe_str pa_nil))))) pa_nil)))) pa_nil)))
      (pss_cons (ps_expr (pe_bm PySem.F.plainAttrs_list PySem.F.slot_list_extend PySem.F.type_list_extend mt_extend (pv 1) (pa_cons (pe_lst (pa_cons (pe_tup (pa_cons pe_str (pa_cons pe_str (pa_cons (pe_tup (pa_cons pe_str pa_nil)) (pa_cons (pv 0) pa_nil))))) (pa_cons (pe_tup (pa_cons pe_str (pa_cons (pe_tup (pa_cons pe_str (pa_cons (pv 0) (pa_cons pe_str pa_nil)))) (pa_cons (pe_tup pa_nil) (pa_cons (pe_tup pa_nil) pa_nil))))) (pa_cons (pe_tup (pa_cons pe_str (pa_cons (pe_tup (pa_cons pe_str (pa_cons (pv 0) (pa_cons pe_str pa_nil)))) (pa_cons (pe_tup pa_nil) pa_nil)))) pa_nil)))) pa_nil)))
      (pss_cons (ps_expr (pe_bm PySem.F.plainAttrs_list PySem.F.slot_list_append PySem.F.type_list_append mt_append (pv 1) (pa_cons (pe_tup (pa_cons pe_str (pa_cons (pe_tup (pa_cons pe_str (pa_cons (pe_tup (pa_cons pe_str (pa_cons (pe_tup (pa_cons pe_str (pa_cons (pe_tup (pa_cons pe_str pa_nil)) (pa_cons (pv 0) pa_nil)))) pa_nil))) pa_nil))) (pa_cons (pe_tup pa_nil) (pa_cons (pe_tup pa_nil) pa_nil))))) pa_nil)))
      (pss_one (ps_ret (pv 1)))))))))), ?_⟩
    have hE := hv
    refine q_asgDL (dl_lst (dd_cons (dd_tup (dd_cons (dd_str (by decide)) (dd_cons (dd_str (by decide)) (dd_cons (dd_var rfl hE) dd_nil))) (show 3 ≤ 40000 by decide)) (dd_cons (dd_tup (dd_cons (dd_str (by decide)) (dd_cons (dd_str (by decide)) (dd_cons (dd_var rfl hE) dd_nil))) (show 3 ≤ 40000 by decide)) (dd_cons (dd_tup (dd_cons (dd_str (by decide)) (dd_cons (dd_var rfl hE) dd_nil)) (show 2 ≤ 40000 by decide)) (dd_cons (dd_tup (dd_cons (dd_str (by decide)) (dd_cons (dd_var rfl hE) dd_nil)) (show 2 ≤ 40000 by decide)) (dd_cons (dd_tup (dd_cons (dd_str (by decide)) (dd_cons (dd_str (by decide)) (dd_cons (dd_var rfl hE) dd_nil))) (show 3 ≤ 40000 by decide)) dd_nil))))) (show 5 ≤ 40000 by decide)) fun l L0 H0 hl e0 g0 a0 => ?_
    have E0 := e0
    have hE := hv.ex E0
    refine q_extD g0 (ev_var rfl) (dl_lst (dd_cons (dd_tup (dd_cons (dd_str (by decide)) (dd_cons (dd_str (by decide)) (dd_cons (dd_str (by decide)) (dd_cons (dd_tup (dd_cons (dd_var rfl hE) dd_nil) (show 1 ≤ 40000 by decide)) dd_nil)))) (show 4 ≤ 40000 by decide)) (dd_cons (dd_tup (dd_cons (dd_str (by decide)) (dd_cons (dd_str (by decide)) (dd_cons (dd_str (by decide)) (dd_cons (dd_tup (dd_cons (dd_str (by decide)) (dd_cons (dd_tup (dd_cons (dd_str (by decide)) dd_nil) (show 1 ≤ 40000 by decide)) (dd_cons (dd_var rfl hE) dd_nil))) (show 3 ≤ 40000 by decide)) dd_nil)))) (show 4 ≤ 40000 by decide)) (dd_cons (dd_tup (dd_cons (dd_str (by decide)) (dd_cons (dd_str (by decide)) (dd_cons (dd_str (by decide)) (dd_cons (dd_tup (dd_cons (dd_var rfl hE) (dd_cons (dd_str (by decide)) dd_nil)) (show 2 ≤ 40000 by decide)) dd_nil)))) (show 4 ≤ 40000 by decide)) dd_nil))) (show 3 ≤ 40000 by decide)) (by rw [a0.len]; show 5 + 3 ≤ 100000; decide) fun ws1 H1 e1 q1 b1 => ?_
    have a1 := AtL.updL (ys := L0 ++ ws1) q1 (AtL.app (a0.ex e1) b1)
    have E1 := (E0.trans e1).mut (o := .lst (L0 ++ ws1)) hl
    have g1 : upd H1 l (.lst (L0 ++ ws1)) l = some (.lst (L0 ++ ws1)) := upd_same
    generalize upd H1 l (.lst (L0 ++ ws1)) = G1 at a1 E1 g1 ⊢
    generalize L0 ++ ws1 = L1 at a1 g1
    have hE := hv.ex E1
    refine q_extD g1 (ev_var rfl) (dl_lst (dd_cons (dd_tup (dd_cons (dd_str (by decide)) (dd_cons (dd_str (by decide)) (dd_cons (dd_var rfl hE) (dd_cons (dd_tup dd_nil (show 0 ≤ 40000 by decide)) dd_nil)))) (show 4 ≤ 40000 by decide)) (dd_cons (dd_tup (dd_cons (dd_str (by decide)) (dd_cons (dd_str (by decide)) (dd_cons (dd_tup (dd_cons (dd_str (by decide)) dd_nil) (show 1 ≤ 40000 by decide)) (dd_cons (dd_tup (dd_cons (dd_str (by decide)) (dd_cons (dd_var rfl hE) dd_nil)) (show 2 ≤ 40000 by decide)) dd_nil)))) (show 4 ≤ 40000 by decide)) (dd_cons (dd_tup (dd_cons (dd_str (by decide)) (dd_cons (dd_str (by decide)) (dd_cons (dd_str (by decide)) (dd_cons (dd_tup (dd_cons (dd_str (by decide)) (dd_cons (dd_str (by decide)) (dd_cons (dd_str (by decide)) (dd_cons (dd_var rfl hE) dd_nil)))) (show 4 ≤ 40000 by decide)) dd_nil)))) (show 4 ≤ 40000 by decide)) dd_nil))) (show 3 ≤ 40000 by decide)) (by rw [a1.len]; show 8 + 3 ≤ 100000; decide) fun ws2 H2 e2 q2 b2 => ?_
    have a2 := AtL.updL (ys := L1 ++ ws2) q2 (AtL.app (a1.ex e2) b2)
    have E2 := (E1.trans e2).mut (o := .lst (L1 ++ ws2)) hl
    have g2 : upd H2 l (.lst (L1 ++ ws2)) l = some (.lst (L1 ++ ws2)) := upd_same
    generalize upd H2 l (.lst (L1 ++ ws2)) = G2 at a2 E2 g2 ⊢
    generalize L1 ++ ws2 = L2 at a2 g2
    have hE := hv.ex E2
    refine q_extD g2 (ev_var rfl) (dl_lst (dd_cons (dd_tup (dd_cons (dd_str (by decide)) (dd_cons (dd_str (by decide)) (dd_cons (dd_var rfl hE) (dd_cons (dd_str (by decide)) (dd_cons (dd_tup dd_nil (show 0 ≤ 40000 by decide)) dd_nil))))) (show 5 ≤ 40000 by decide)) (dd_cons (dd_tup (dd_cons (dd_str (by decide)) (dd_cons (dd_str (by decide)) (dd_cons (dd_str (by decide)) (dd_cons (dd_str (by decide)) (dd_cons (dd_tup (dd_cons (dd_var rfl hE) dd_nil) (show 1 ≤ 40000 by decide)) dd_nil))))) (show 5 ≤ 40000 by decide)) (dd_cons (dd_tup (dd_cons (dd_str (by decide)) (dd_cons (dd_str (by decide)) (dd_cons (dd_var rfl hE) (dd_cons (dd_str (by decide)) dd_nil)))) (show 4 ≤ 40000 by decide)) dd_nil))) (show 3 ≤ 40000 by decide)) (by rw [a2.len]; show 11 + 3 ≤ 100000; decide) fun ws3 H3 e3 q3 b3 => ?_
    have a3 := AtL.updL (ys := L2 ++ ws3) q3 (AtL.app (a2.ex e3) b3)
    have E3 := (E2.trans e3).mut (o := .lst (L2 ++ ws3)) hl
    have g3 : upd H3 l (.lst (L2 ++ ws3)) l = some (.lst (L2 ++ ws3)) := upd_same
    generalize upd H3 l (.lst (L2 ++ ws3)) = G3 at a3 E3 g3 ⊢
    generalize L2 ++ ws3 = L3 at a3 g3
    have hE := hv.ex E3
    refine q_extD g3 (ev_var rfl) (dl_lst (dd_cons (dd_tup (dd_cons (dd_str (by decide)) (dd_cons (dd_str (by decide)) (dd_cons (dd_var rfl hE) (dd_cons (dd_str (by decide)) (dd_cons (dd_tup (dd_cons (dd_str (by decide)) dd_nil) (show 1 ≤ 40000 by decide)) dd_nil))))) (show 5 ≤ 40000 by decide)) (dd_cons (dd_tup (dd_cons (dd_str (by decide)) (dd_cons (dd_str (by decide)) (dd_cons (dd_tup (dd_cons (dd_str (by decide)) dd_nil) (show 1 ≤ 40000 by decide)) (dd_cons (dd_str (by decide)) (dd_cons (dd_var rfl hE) dd_nil))))) (show 5 ≤ 40000 by decide)) (dd_cons (dd_tup (dd_cons (dd_str (by decide)) (dd_cons (dd_str (by decide)) (dd_cons (dd_var rfl hE) (dd_cons (dd_str (by decide)) dd_nil)))) (show 4 ≤ 40000 by decide)) dd_nil))) (show 3 ≤ 40000 by decide)) (by rw [a3.len]; show 14 + 3 ≤ 100000; decide) fun ws4 H4 e4 q4 b4 => ?_
    have a4 := AtL.updL (ys := L3 ++ ws4) q4 (AtL.app (a3.ex e4) b4)
    have E4 := (E3.trans e4).mut (o := .lst (L3 ++ ws4)) hl
    have g4 : upd H4 l (.lst (L3 ++ ws4)) l = some (.lst (L3 ++ ws4)) := upd_same
    generalize upd H4 l (.lst (L3 ++ ws4)) = G4 at a4 E4 g4 ⊢
    generalize L3 ++ ws4 = L4 at a4 g4
    have hE := hv.ex E4
    refine q_extD g4 (ev_var rfl) (dl_lst (dd_cons (dd_tup (dd_cons (dd_str (by decide)) (dd_cons (dd_str (by decide)) (dd_cons (dd_tup (dd_cons (dd_str (by decide)) dd_nil) (show 1 ≤ 40000 by decide)) (dd_cons (dd_var rfl hE) dd_nil)))) (show 4 ≤ 40000 by decide)) (dd_cons (dd_tup (dd_cons (dd_str (by decide)) (dd_cons (dd_tup (dd_cons (dd_str (by decide)) (dd_cons (dd_var rfl hE) (dd_cons (dd_str (by decide)) dd_nil))) (show 3 ≤ 40000 by decide)) (dd_cons (dd_tup dd_nil (show 0 ≤ 40000 by decide)) (dd_cons (dd_tup dd_nil (show 0 ≤ 40000 by decide)) dd_nil)))) (show 4 ≤ 40000 by decide)) (dd_cons (dd_tup (dd_cons (dd_str (by decide)) (dd_cons (dd_tup (dd_cons (dd_str (by decide)) (dd_cons (dd_var rfl hE) (dd_cons (dd_str (by decide)) dd_nil))) (show 3 ≤ 40000 by decide)) (dd_cons (dd_tup dd_nil (show 0 ≤ 40000 by decide)) dd_nil))) (show 3 ≤ 40000 by decide)) dd_nil))) (show 3 ≤ 40000 by decide)) (by rw [a4.len]; show 17 + 3 ≤ 100000; decide) fun ws5 H5 e5 q5 b5 => ?_
    have a5 := AtL.updL (ys := L4 ++ ws5) q5 (AtL.app (a4.ex e5) b5)
    have E5 := (E4.trans e5).mut (o := .lst (L4 ++ ws5)) hl
    have g5 : upd H5 l (.lst (L4 ++ ws5)) l = some (.lst (L4 ++ ws5)) := upd_same
    generalize upd H5 l (.lst (L4 ++ ws5)) = G5 at a5 E5 g5 ⊢
    generalize L4 ++ ws5 = L5 at a5 g5
    have hE := hv.ex E5
    refine q_appD g5 (ev_var rfl) (dd_tup (dd_cons (dd_str (by decide)) (dd_cons (dd_tup (dd_cons (dd_str (by decide)) (dd_cons (dd_tup (dd_cons (dd_str (by decide)) (dd_cons (dd_tup (dd_cons (dd_str (by decide)) (dd_cons (dd_tup (dd_cons (dd_str (by decide)) dd_nil) (show 1 ≤ 40000 by decide)) (dd_cons (dd_var rfl hE) dd_nil))) (show 3 ≤ 40000 by decide)) dd_nil)) (show 2 ≤ 40000 by decide)) dd_nil)) (show 2 ≤ 40000 by decide)) (dd_cons (dd_tup dd_nil (show 0 ≤ 40000 by decide)) (dd_cons (dd_tup dd_nil (show 0 ≤ 40000 by decide)) dd_nil)))) (show 4 ≤ 40000 by decide)) (by rw [a5.len]; show 20 < 100000; decide) fun ws6 H6 e6 q6 b6 => ?_
    have a6 := AtL.updL (ys := L5 ++ [ws6]) q6 (AtL.app (a5.ex e6) (.cons b6 .nil))
    have E6 := (E5.trans e6).mut (o := .lst (L5 ++ [ws6])) hl
    have g6 : upd H6 l (.lst (L5 ++ [ws6])) l = some (.lst (L5 ++ [ws6])) := upd_same
    generalize upd H6 l (.lst (L5 ++ [ws6])) = G6 at a6 E6 g6 ⊢
    generalize L5 ++ [ws6] = L6 at a6 g6
    exact s_ret (v := .ref l) (ev_var rfl) fun H9 e9 => k l _ H9 hl (E6.trans e9) (e9 _ _ g6) (a6.ex e9)
theorem sc_at_names : FnScope N__law_at_names P__law_at_names (C8.fnScope s__law_at_names) := fnScope_by (by decide +kernel)
theorem ok_at_names (T : TxtK w K mg) : Cal P w K mg base 1 "_law_at_names" (sp_rows K namRows) [] := by
  refine mk_cal T.d_at_names sc_at_names (fun vs H Q E h => ?_) (fun f cdv A outer s H vs Q E hr h => ?_)
  · obtain ⟨_, _, rfl, _⟩ := h
    rfl
  · obtain ⟨v, d, rfl, hv, k⟩ := h
    have nd := sc_at_names.nd
    refine ⟨_, (pss_cons (ps_set (i := 1) nd rfl (Or.inl rfl) (pe_lst (pa_cons (pe_tup (pa_cons pe_str (pa_cons (pv 0) (pa_cons pe_str pa_nil)))) (pa_cons (pe_tup (pa_cons pe_str (pa_cons (pv 0) (pa_cons (pe_tup (pa_cons pe_str (pa_cons pe_str pa_nil))) pa_nil)))) (pa_cons (pe_tup (pa_cons pe_str (pa_cons (pe_tup pa_nil) (pa_cons (pv 0) (pa_cons (pe_tup pa_nil) pa_nil))))) (pa_cons (pe_tup (pa_cons pe_str (pa_cons (pv 0) (pa_cons pe_str (pa_cons (pe_tup pa_nil) pa_nil))))) pa_nil))))))
      (pss_cons (ps_expr (pe_bm PySem.F.plainAttrs_list PySem.F.slot_list_extend PySem.F.type_list_extend mt_extend (pv 1) (pa_cons (pe_lst (pa_cons (pe_tup (pa_cons pe_str (pa_cons (pv 0) (pa_cons pe_str (pa_cons (pe_tup pa_nil) pa_nil))))) (pa_cons (pe_tup (pa_cons pe_str (pa_cons (pv 0) (pa_cons pe_str (pa_cons pe_str (pa_cons (pe_tup pa_nil) pa_nil)))))) (pa_cons (pe_tup (pa_cons pe_str (pa_cons pe_str (pa_cons pe_str (pa_cons (pv 0) (pa_cons (pe_tup pa_nil) pa_nil)))))) (pa_cons (pe_tup (pa_cons pe_str (pa_cons (pv 0) (pa_cons pe_str (pa_cons (pe_tup pa_nil) pa_nil))))) pa_nil))))) pa_nil)))
      (pss_cons (ps_expr (pe_bm PySem.F.plainAttrs_list PySem.F.slot_list_extend PySem.F.type_list_extend mt_extend (pv 1) (pa_cons (pe_lst (pa_cons (pe_tup (pa_cons pe_str (pa_cons (pv 0) (pa_cons pe_str (pa_cons (pe_tup pa_nil) pa_nil))))) (pa_cons (pe_tup (pa_cons pe_str (pa_cons (pv 0) (pa_cons pe_str (pa_cons pe_str pa_nil))))) (pa_cons (pe_tup (pa_cons pe_str (pa_cons pe_str (pa_cons pe_str (pa_cons (pv 0) pa_nil))))) (pa_cons (pe_tup (pa_cons pe_str (pa_cons (pv 0) (pa_cons pe_str (pa_cons pe_str (pa_cons pe_str pa_nil)))))) pa_nil))))) pa_nil)))
      (pss_cons (ps_expr (pe_bm PySem.F.plainAttrs_list PySem.F.slot_list_extend PySem.F.type_list_extend mt_extend (pv 1) (pa_cons (pe_lst (pa_cons (pe_tup (pa_cons pe_str (pa_cons pe_str (pa_cons pe_str (pa_cons (pv 0) (pa_cons pe_str pa_nil)))))) (pa_cons (pe_tup (pa_cons pe_str (pa_cons (pv 0) (pa_cons pe_str (pa_cons pe_str pa_nil))))) (pa_cons (pe_tup (pa_cons pe_str (pa_cons (pv 0) (pa_cons pe_str pa_nil)))) pa_nil)))) pa_nil)))
      (pss_one (ps_ret (pv 1))))))), ?_⟩
    have hE := hv
    refine q_asgDL (dl_lst (dd_cons (dd_tup (dd_cons (dd_str (by decide)) (dd_cons (dd_var rfl hE) (dd_cons (dd_str (by decide)) dd_nil))) (show 3 ≤ 40000 by decide)) (dd_cons (dd_tup (dd_cons (dd_str (by decide)) (dd_cons (dd_var rfl hE) (dd_cons (dd_tup (dd_cons (dd_str (by decide)) (dd_cons (dd_str (by decide)) dd_nil)) (show 2 ≤ 40000 by decide)) dd_nil))) (show 3 ≤ 40000 by decide)) (dd_cons (dd_tup (dd_cons (dd_str (by decide)) (dd_cons (dd_tup dd_nil (show 0 ≤ 40000 by decide)) (dd_cons (dd_var rfl hE) (dd_cons (dd_tup dd_nil (show 0 ≤ 40000 by decide)) dd_nil)))) (show 4 ≤ 40000 by decide)) (dd_cons (dd_tup (dd_cons (dd_str (by decide)) (dd_cons (dd_var rfl hE) (dd_cons (dd_str (by decide)) (dd_cons (dd_tup dd_nil (show 0 ≤ 40000 by decide)) dd_nil)))) (show 4 ≤ 40000 by decide)) dd_nil)))) (show 4 ≤ 40000 by decide)) fun l L0 H0 hl e0 g0 a0 => ?_
    have E0 := e0
    have hE := hv.ex E0
    refine q_extD g0 (ev_var rfl) (dl_lst (dd_cons (dd_tup (dd_cons (dd_str (by decide)) (dd_cons (dd_var rfl hE) (dd_cons (dd_str (by decide)) (dd_cons (dd_tup dd_nil (show 0 ≤ 40000 by decide)) dd_nil)))) (show 4 ≤ 40000 by decide)) (dd_cons (dd_tup (dd_cons (dd_str (by decide)) (dd_cons (dd_var rfl hE) (dd_cons (dd_str (by decide)) (dd_cons (dd_str (by decide)) (dd_cons (dd_tup dd_nil (show 0 ≤ 40000 by decide)) dd_nil))))) (show 5 ≤ 40000 by decide)) (dd_cons (dd_tup (dd_cons (dd_str (by decide)) (dd_cons (dd_str (by decide)) (dd_cons (dd_str (by decide)) (dd_cons (dd_var rfl hE) (dd_cons (dd_tup dd_nil (show 0 ≤ 40000 by decide)) dd_nil))))) (show 5 ≤ 40000 by decide)) (dd_cons (dd_tup (dd_cons (dd_str (by decide)) (dd_cons (dd_var rfl hE) (dd_cons (dd_str (by decide)) (dd_cons (dd_tup dd_nil (show 0 ≤ 40000 by decide)) dd_nil)))) (show 4 ≤ 40000 by decide)) dd_nil)))) (show 4 ≤ 40000 by decide)) (by rw [a0.len]; show 4 + 4 ≤ 100000; decide) fun ws1 H1 e1 q1 b1 => ?_
    have a1 := AtL.updL (ys := L0 ++ ws1) q1 (AtL.app (a0.ex e1) b1)
    have E1 := (E0.trans e1).mut (o := .lst (L0 ++ ws1)) hl
    have g1 : upd H1 l (.lst (L0 ++ ws1)) l = some (.lst (L0 ++ ws1)) := upd_same
    generalize upd H1 l (.lst (L0 ++ ws1)) = G1 at a1 E1 g1 ⊢
    generalize L0 ++ ws1 = L1 at a1 g1
    have hE := hv.ex E1
    refine q_extD g1 (ev_var rfl) (dl_lst (dd_cons (dd_tup (dd_cons (dd_str (by decide)) (dd_cons (dd_var rfl hE) (dd_cons (dd_str (by decide)) (dd_cons (dd_tup dd_nil (show 0 ≤ 40000 by decide)) dd_nil)))) (show 4 ≤ 40000 by decide)) (dd_cons (dd_tup (dd_cons (dd_str (by decide)) (dd_cons (dd_var rfl hE) (dd_cons (dd_str (by decide)) (dd_cons (dd_str (by decide)) dd_nil)))) (show 4 ≤ 40000 by decide)) (dd_cons (dd_tup (dd_cons (dd_str (by decide)) (dd_cons (dd_str (by decide)) (dd_cons (dd_str (by decide)) (dd_cons (dd_var rfl hE) dd_nil)))) (show 4 ≤ 40000 by decide)) (dd_cons (dd_tup (dd_cons (dd_str (by decide)) (dd_cons (dd_var rfl hE) (dd_cons (dd_str (by decide)) (dd_cons (dd_str (by decide)) (dd_cons (dd_str (by decide)) dd_nil))))) (show 5 ≤ 40000 by decide)) dd_nil)))) (show 4 ≤ 40000 by decide)) (by rw [a1.len]; show 8 + 4 ≤ 100000; decide) fun ws2 H2 e2 q2 b2 => ?_
    have a2 := AtL.updL (ys := L1 ++ ws2) q2 (AtL.app (a1.ex e2) b2)
    have E2 := (E1.trans e2).mut (o := .lst (L1 ++ ws2)) hl
    have g2 : upd H2 l (.lst (L1 ++ ws2)) l = some (.lst (L1 ++ ws2)) := upd_same
    generalize upd H2 l (.lst (L1 ++ ws2)) = G2 at a2 E2 g2 ⊢
    generalize L1 ++ ws2 = L2 at a2 g2
    have hE := hv.ex E2
    refine q_extD g2 (ev_var rfl) (dl_lst (dd_cons (dd_tup (dd_cons (dd_str (by decide)) (dd_cons (dd_str (by decide)) (dd_cons (dd_str (by decide)) (dd_cons (dd_var rfl hE) (dd_cons (dd_str (by decide)) dd_nil))))) (show 5 ≤ 40000 by decide)) (dd_cons (dd_tup (dd_cons (dd_str (by decide)) (dd_cons (dd_var rfl hE) (dd_cons (dd_str (by decide)) (dd_cons (dd_str (by decide)) dd_nil)))) (show 4 ≤ 40000 by decide)) (dd_cons (dd_tup (dd_cons (dd_str (by decide)) (dd_cons (dd_var rfl hE) (dd_cons (dd_str (by decide)) dd_nil))) (show 3 ≤ 40000 by decide)) dd_nil))) (show 3 ≤ 40000 by decide)) (by rw [a2.len]; show 12 + 3 ≤ 100000; decide) fun ws3 H3 e3 q3 b3 => ?_
    have a3 := AtL.updL (ys := L2 ++ ws3) q3 (AtL.app (a2.ex e3) b3)
    have E3 := (E2.trans e3).mut (o := .lst (L2 ++ ws3)) hl
    have g3 : upd H3 l (.lst (L2 ++ ws3)) l = some (.lst (L2 ++ ws3)) := upd_same
    generalize upd H3 l (.lst (L2 ++ ws3)) = G3 at a3 E3 g3 ⊢
    generalize L2 ++ ws3 = L3 at a3 g3
    exact s_ret (v := .ref l) (ev_var rfl) fun H9 e9 => k l _ H9 hl (E3.trans e9) (e9 _ _ g3) (a3.ex e9)
end
end EE
set_option Elab.async false
set_option linter.all false
set_option maxRecDepth 100000
set_option maxHeartbeats 4000000
namespace EE
open PySem L2 Evl
open C8 (Cal Mak cal0 mak0 pe_c pe_mk pe_gc fnScope_by)
/-- the block of g: the statement between two pays, in as many ifs -/
def blk0 (d : Dt) : Dt := .tup [.tup [.str (Str.ofString "pay"), .int 1], d, .tup [.str (Str.ofString "pay"), .int 2]]
def wrapB (k : Nat) (b : Dt) : Dt := .tup [.tup [.str (Str.ofString "if"), .tup [.str (Str.ofString "same"), .str (Str.ofString "a"), .str (Str.ofString "a")], b, .tup [.tup [.str (Str.ofString "pay"), .int (k : Nat)]]]]
def blkN (d : Dt) : Nat → Dt
  | 0 => blk0 d
  | k + 1 => wrapB k (blkN d k)
def fns10 (b : Dt) : List (Str × Fn) := [("f", ⟨[], 1, .tup []⟩), ("g", ⟨["a"], 2, b⟩)]
theorem ok1 {z : Str} (h : (isNm z && decide (z.length ≤ 100000)) = true) : OkNm z := by
  rw [Bool.and_eq_true, decide_eq_true_eq] at h
  exact ⟨h.1, sz_of h.2⟩
theorem fns10_right (b : Dt) : RightFs (fns10 b) where
  len := by show 1 ≤ 2 ∧ 2 ≤ 12; decide
  nm := fun c hc => by
    have h3 : c = (Str.ofString "f", Fn.mk [] 1 (.tup [])) ∨ c = (Str.ofString "g", Fn.mk ["a"] 2 b) := by simpa [fns10] using hc
    have okf : OkNm (Str.ofString "f") := ok1 (by decide +kernel)
    have okg : OkNm (Str.ofString "g") := ok1 (by decide +kernel)
    rcases h3 with rfl | rfl
    · exact okf
    · exact okg
  fn := fun c hc => by
    have h3 : c = (Str.ofString "f", Fn.mk [] 1 (.tup [])) ∨ c = (Str.ofString "g", Fn.mk ["a"] 2 b) := by simpa [fns10] using hc
    have oka : OkNm "a" := ok1 (by decide +kernel)
    rcases h3 with rfl | rfl
    · exact ⟨⟨by show (1 : Int) ≤ 1; decide, by show (1 : Int) ≤ 2; decide⟩, fun z hz => (List.not_mem_nil hz).elim, List.nodup_nil, Nat.zero_le _⟩
    · exact ⟨⟨by show (1 : Int) ≤ 2; decide, by show (2 : Int) ≤ 2; decide⟩, fun z hz => by rw [List.mem_singleton.mp hz]; exact oka, by show ([Str.ofString "a"] : List Str).Nodup; decide, by show 1 ≤ 4; decide⟩
  nd := by show ([Str.ofString "f", Str.ofString "g"] : List Str).Nodup; decide
section
variable {K : PySem.W.Frag} {σ : L2.St} {H H' : Hp}
/-- the dict of functions -/
theorem q_funcs10 {D : Ends} {tz : TS} {i j : Nat} {bA : Addr} {d : Dt} (hσ : σ[j]? = some (some (.ref bA))) (hb : At K H (.ref bA) d) (k : ∀ b H2, H b = none → Ex H H2 → RepFD K H2 b (fns10 d) → tz D (σ.set i (some (.ref b))) H2) :
    tSeq (tAsg (tDisp [(tC (.str (Str.ofString "f")), tTup (tCons (tTup tNil) (tCons (tC (.int 1)) (tCons (tTup tNil) tNil)))),
      (tC (.str (Str.ofString "g")), tTup (tCons (tTup (tCons (tC (.str (Str.ofString "a"))) tNil)) (tCons (tC (.int 2)) (tCons (tVar j) tNil))))]) (gName i)) tz D σ H := fun b hb0 =>
  ⟨by decide, fun a1 h1 => ⟨by decide, fun a2 h2 => ⟨show 3 ≤ sizeLine by decide, fun a3 h3 =>
  ⟨show 1 ≤ sizeLine by decide, fun b1 h4 => ⟨_, hσ, show 3 ≤ sizeLine by decide, fun b3 h6 => by
    have x0 := Ex.new (o := .dK []) hb0
    have x1 := Ex.new (o := .tup []) h1
    have x2 := Ex.new (o := .tup []) h2
    have x3 := Ex.new (o := .tup [.ref a1, .int 1, .ref a2]) h3
    have x4 := Ex.new (o := .tup [.str (Str.ofString "a")]) h4
    have x6 := Ex.new (o := .tup [.ref b1, .int 2, .ref bA]) h6
    have y6 := x6
    have y4 := x4.trans y6
    have y3 := x3.trans y4
    have y2 := x2.trans y3
    have y1 := x1.trans y2
    have hbb := y1 b _ upd_same
    refine ⟨hbb, [(Sum.inr (Str.ofString "f"), .ref a3), (Sum.inr (Str.ofString "g"), .ref b3)], rfl, (show 2 ≤ 15 by decide), k b _ hb0 ((x0.trans y1).mut hb0) ⟨_, upd_same, ?_⟩⟩
    have tr : ∀ {x : Addr} {xs : List V}, SqT K _ x xs → SqT K (upd _ b (.dK (mergeK [] [(Sum.inr (Str.ofString "f"), .ref a3), (Sum.inr (Str.ofString "g"), .ref b3)]))) x xs := fun h => sqT_put hbb h
    refine .cons ⟨rfl, a3, a1, a2, rfl, tr (ex_t y4 (st_of upd_same)), tr (ex_t y2 (st_of upd_same)), .tup (tr (ex_t y3 (st_of upd_same))) .nil (show 0 ≤ 40000 by decide)⟩ (.cons ⟨rfl, b3, b1, bA, rfl, tr (st_of upd_same), tr (ex_t y6 (st_of upd_same)), ?_⟩ .nil)
    exact At.put (.inl ⟨_, rfl⟩) ⟨_, rfl⟩ hbb (hb.ex (x0.trans y1))⟩⟩⟩⟩⟩
end
end EE
set_option Elab.async false
set_option linter.all false
set_option maxRecDepth 100000
set_option maxHeartbeats 4000000
namespace EE
open PySem L2 Evl
open C8 (Cal Mak cal0 mak0 pe_c pe_mk pe_gc fnScope_by)
section
variable {K : PySem.W.Frag} {σ : L2.St} {H H' : Hp} {te : TE} {d : Dt}
abbrev ss10 : List (Str × Str) := [(Str.ofString "s", Str.ofString "a")]
abbrev cs10 : List (Str × Cl) := [(Str.ofString "c", ⟨none, 1, [], [(Str.ofString "m", Str.ofString "g")]⟩)]
theorem ss10_right : RightSh ss10 := ⟨by decide, by decide, fun p hp => by
  have oks : OkNm (Str.ofString "s") := ok1 (by decide +kernel)
  have oka : OkNm (Str.ofString "a") := ok1 (by decide +kernel)
  rw [List.mem_singleton.mp hp]; exact ⟨oks, oka⟩⟩
theorem meth10 (b : Dt) : MethOk cs10 (fns10 b) := fun c hc p hp => by
  rw [List.mem_singleton.mp hc] at hp
  rw [List.mem_singleton.mp hp]
  exact ⟨⟨["a"], 2, b⟩, rfl, by show ([Str.ofString "a"] : List Str) ≠ []; decide⟩
theorem nod10 (h : d.nodes ≤ 39000) : ∀ c ∈ fns10 d, c.2.blk.nodes ≤ 39000 := fun c hc => by
  have h0 : (Dt.tup []).nodes = 1 := by rw [nodes_tup, Dt.nodesL]
  simp only [fns10, List.mem_cons, List.not_mem_nil, or_false] at hc
  rcases hc with rfl | rfl
  · show (Dt.tup []).nodes ≤ 39000; omega
  · exact h
theorem nodes_blk0 : (blk0 d).nodes = d.nodes + 7 := by
  simp only [blk0, Dt.nodes, Dt.nodesL]
  omega
theorem nodes_blkN : ∀ n, (blkN d n).nodes = d.nodes + 7 + 11 * n
  | 0 => nodes_blk0
  | n + 1 => by
    show (wrapB n (blkN d n)).nodes = _
    have := nodes_blkN n
    simp only [wrapB, Dt.nodes, Dt.nodesL]
    omega
theorem q_asgDv {D : Ends} {tz : TS} {i : Nat} (h : DvE K te σ H d) (k : ∀ v H1, Ex H H1 → At K H1 v d → tz D (σ.set i (some v)) H1) : tSeq (tAsg te (gName i)) tz D σ H := h H (Ex.refl H) _ fun v H1 e a => k v H1 e a
theorem s_asgDv {D : Ends} {i : Nat} (h : DvE K te σ H d) (k : ∀ v H1, Ex H H1 → At K H1 v d → D.nx (σ.set i (some v)) H1) : tAsg te (gName i) D σ H := h H (Ex.refl H) _ fun v H1 e a => k v H1 e a
theorem r_args10 {b : Addr} {Q : List V → Hp → Prop} (hσ : σ[5]? = some (some (.ref b))) (hb : RepFD K H b (fns10 d)) (hcs : Right cs10) (hnd : d.nodes ≤ 39000) (k : ∀ sh a H2, Ex H H2 → PartsG K H2 sh a b ss10 cs10 (fns10 d) → Q [.ref sh, .ref a, .ref b] H2) :
    (tCons (tDisp [(tC (.str (Str.ofString "s")), tC (.str (Str.ofString "a")))]) (tCons (tDisp [(tC (.str (Str.ofString "c")), tTup (tCons (tC .non) (tCons (tC (.int 1)) (tCons (tTup tNil) (tCons (tDisp [(tC (.str (Str.ofString "m")), tC (.str (Str.ofString "g")))]) tNil)))))]) (tCons (tVar 5) tNil))) σ H Q := fun p1 hp1 =>
  ⟨upd_same, [(Sum.inr (Str.ofString "s"), .str (Str.ofString "a"))], rfl, (show 1 ≤ 15 by decide), fun a ha => ⟨by decide, fun t0 ht0 => fun m hm => ⟨upd_same, [(Sum.inr (Str.ofString "m"), .str (Str.ofString "g"))], rfl, (show 1 ≤ 15 by decide), show 4 ≤ sizeLine by decide, fun tc htc => by
    have z1 : Ex H (upd (upd H p1 (.dK [])) p1 (.dK (mergeK [] [(Sum.inr (Str.ofString "s"), .str (Str.ofString "a"))]))) := (Ex.new hp1).mut hp1
    have z2 : upd (upd H p1 (.dK [])) p1 (.dK (mergeK [] [(Sum.inr (Str.ofString "s"), .str (Str.ofString "a"))])) p1 = some (.dK (shK ss10)) := upd_same
    generalize upd (upd H p1 (.dK [])) p1 (.dK (mergeK [] [(Sum.inr (Str.ofString "s"), .str (Str.ofString "a"))])) = A1 at ha ht0 hm htc z1 z2 ⊢
    have x0 := Ex.new (o := .dK []) ha
    have y0 : upd A1 a (.dK []) a = some (.dK []) := upd_same
    generalize upd A1 a (.dK []) = B0 at ht0 hm htc x0 y0 ⊢
    have x1 := Ex.new (o := .tup []) ht0
    have y1 : upd B0 t0 (.tup []) t0 = some (.tup []) := upd_same
    generalize upd B0 t0 (.tup []) = B1 at hm htc x1 y1 ⊢
    have x2 : Ex B1 (upd (upd B1 m (.dK [])) m (.dK (mergeK [] [(Sum.inr (Str.ofString "m"), .str (Str.ofString "g"))]))) := (Ex.new hm).mut hm
    have y2 : upd (upd B1 m (.dK [])) m (.dK (mergeK [] [(Sum.inr (Str.ofString "m"), .str (Str.ofString "g"))])) m = some (.dK (skv [(Str.ofString "m", Str.ofString "g")])) := upd_same
    generalize upd (upd B1 m (.dK [])) m (.dK (mergeK [] [(Sum.inr (Str.ofString "m"), .str (Str.ofString "g"))])) = B3 at htc x2 y2 ⊢
    have x3 := Ex.new (o := .tup [.non, .int 1, .ref t0, .ref m]) htc
    have y3 : upd B3 tc (.tup [.non, .int 1, .ref t0, .ref m]) tc = some (.tup [.non, .int 1, .ref t0, .ref m]) := upd_same
    generalize upd B3 tc (.tup [.non, .int 1, .ref t0, .ref m]) = B4 at x3 y3 ⊢
    have ya : B4 a = some (.dK []) := x3 _ _ (x2 _ _ (x1 _ _ y0))
    have hma : m ≠ a := fun z => by subst z; rw [x1 _ _ y0] at hm; cases hm
    have eF : Ex A1 (upd B4 a (.dK [(Sum.inr (Str.ofString "c"), .ref tc)])) := (((x0.trans x1).trans x2).trans x3).mut ha
    have hab : a ≠ b := fun z => by
      subst z
      obtain ⟨kvs, h1, _⟩ := hb
      rw [z1 _ _ h1] at ha; cases ha
    refine ⟨ya, [(Sum.inr (Str.ofString "c"), .ref tc)], rfl, (show 1 ≤ 15 by decide), _, hσ, k p1 a _ (z1.trans eF) ⟨eF _ _ z2, ss10_right, ⟨_, upd_same, .cons ⟨rfl, tc, t0, m, rfl, sqT_put ya (st_of y3), sqT_put ya (ex_t (x2.trans x3) (st_of y1)), ?_⟩ .nil⟩, hcs, hb.ex (z1.trans eF), fns10_right d, meth10 d, hab, nod10 hnd⟩⟩
    rw [upd_ne hma]
    exact x3 _ _ y2⟩⟩⟩
theorem r_make10 {b CP : Addr} {sp : Sp} {E : L2.St → XK} {Q : List V → Hp → Prop} (hσ : σ[5]? = some (some (.ref b))) (hb : RepFD K H b (fns10 d)) (hcs : Right cs10) (hnd : d.nodes ≤ 39000)
    (k : ∀ sh a H2, Ex H H2 → PartsG K H2 sh a b ss10 cs10 (fns10 d) → ∀ x dx, H2 x = none → H2 dx = none → dx ≠ x → sp [.ref x, .ref sh, .ref a, .ref b] (upd (upd H2 dx (.own x)) x (.ins CP dx []))
      (fun v H3 => v = .non ∧ ∃ a dx2 fs, V.ref x = .ref a ∧ H3 a = some (.ins CP dx2 fs) ∧ sp_fnP CP [.ref a] H3 (fun u H4 => Q [u] H4) C8.E0) (E σ)) :
    (tCons (tProp CP (sp_fnP CP) [] C8.E0 (tMakeS CP sp E (tCons (tDisp [(tC (.str (Str.ofString "s")), tC (.str (Str.ofString "a")))]) (tCons (tDisp [(tC (.str (Str.ofString "c")), tTup (tCons (tC .non) (tCons (tC (.int 1)) (tCons (tTup tNil) (tCons (tDisp [(tC (.str (Str.ofString "m")), tC (.str (Str.ofString "g")))]) tNil)))))]) (tCons (tVar 5) tNil))))) tNil) σ H Q :=
  r_args10 (Q := fun vs H1 => ∀ x dx, H1 x = none → H1 dx = none → dx ≠ x → sp (V.ref x :: (vs ++ [])) (upd (upd H1 dx (.own x)) x (.ins CP dx []))
      (fun v H3 => v = .non ∧ ∃ a dx2 fs, V.ref x = .ref a ∧ H3 a = some (.ins CP dx2 fs) ∧ sp_fnP CP [.ref a] H3 (fun u H4 => Q [u] H4) C8.E0) (E σ)) hσ hb hcs hnd k
theorem et_truB {b : Bool} (h : Ev te σ H (.bl b)) : EvT (fun σ H Q => te σ H fun x H' => ∃ k, TruV K x H' k ∧ Q k H') σ H b := fun H1 e Q q => h H1 e _ fun H2 e2 => ⟨b, rfl, q H2 e2⟩
theorem s_refused {D : Ends} {a d CB : Addr} {v : V} (hσ : σ[7]? = some (some (.ref a))) (h : H d = some (.xd [(Str.ofString "part", v)])) (k : ∀ p H1, H p = none → Ex H H1 → H1 p = some (.lst [.str (Str.ofString "refused"), v]) → D.nx (σ.set 6 (some (.ref p))) H1) :
    tAsg (tLst (tCons (tC (.str (Str.ofString "refused"))) (tCons (tXf a (.ref CB) (some d) CB (Str.ofString "part") (tVar 7)) tNil))) (gName 6) D σ H :=
  ⟨_, hσ, rfl, rfl, d, _, _, rfl, h, by simp [List.lookup], (show 2 ≤ sizeLine by decide), fun p hp => k p _ hp (Ex.new hp) upd_same⟩
theorem ev_eqVL {p : Addr} {xs ys : List V} {n : Nat} {ta tb : TE} (ha : Ev ta σ H (.ref p)) (hp : H p = some (.lst xs)) (hb : EvL tb σ H ys) (hn : n ≤ 60) (hE : ∀ H1, Ex H H1 → Paired (EqV K H1 n) xs ys) : Ev (tOp (rEqV K) ta tb) σ H (.bl true) := fun H1 e Q q =>
  ha H1 e _ fun H2 e2 => hb H2 (e.trans e2) _ fun pb H3 _ e3 h3 => ⟨n, hn, .inl ⟨p, pb, xs, ys, rfl, rfl, sq_of (((e.trans e2).trans e3) _ _ hp), sq_of h3, hE H3 ((e.trans e2).trans e3)⟩, q H3 (e2.trans e3)⟩
theorem fn_f_right : RightBk ⟨[], 1, .tup []⟩ ∧ sizeD 6 (plF (Str.ofString "f", ⟨[], 1, .tup []⟩)).2.blk ≤ 80000 := ⟨⟨rfl, rfl, by show 0 ≤ 40000; decide, by show 0 ≤ 39000; decide, Nat.zero_le _⟩, by show 0 ≤ 80000; decide⟩
theorem bad10 {b : Dt} {ys : List Str} (h : ys.Perm ((fns10 b).map (·.1))) : firstBad kn10 (fns10 b) ys = if okB kn10 6 b then none else some (Str.ofString "g") := by
  have hf : okB kn10 6 (blkOf (fns10 b) (Str.ofString "f")) = true := rfl
  have hg : blkOf (fns10 b) (Str.ofString "g") = b := rfl
  have hm : ∀ z ∈ ys, z = Str.ofString "f" ∨ z = Str.ofString "g" := fun z hz => by
    have := h.mem_iff.mp hz
    simpa [fns10] using this
  cases hb : okB kn10 6 b with
  | true =>
    rw [if_pos rfl]
    refine bad_none fun z hz => ?_
    rcases hm z hz with rfl | rfl
    · exact hf
    · rw [hg]; exact hb
  | false =>
    rw [if_neg (by decide)]
    cases hq : firstBad kn10 (fns10 b) ys with
    | none =>
      have hgy : Str.ofString "g" ∈ ys := h.mem_iff.mpr (by simp [fns10])
      have := List.find?_eq_none.mp hq _ hgy
      rw [hg, hb] at this
      exact absurd rfl this
    | some z =>
      have h1 := List.find?_some hq
      have h2 := List.mem_of_find?_eq_some hq
      rcases hm z h2 with rfl | rfl
      · rw [hf] at h1; cases h1
      · rfl
end
section
variable {P : Program} {w : World} {K : PySem.W.Frag} {mg : Str → Option Value} {base : Heap} {sa : Addr} {rs : Str → Addr}
/-- the law's question at one statement -/
def dueD (n : Nat) (d : Dt) : Bool := okB kn10 6 (blkN d n)
def sp_right10 (K : PySem.W.Frag) : Sp := PuV fun vs H z => ∃ v d n, vs = [v, .bl (dueD n d), .int (n : Nat)] ∧ At K H v d ∧ d.nodes ≤ 38000 ∧ n ≤ 4 ∧ (dueD n d = true → RightBk ⟨["a"], 2, blkN d n⟩ ∧ sizeD 6 (plF ("g", ⟨["a"], 2, blkN d n⟩)).2.blk ≤ 80000) ∧ z = .bl true
theorem sc_right10 : FnScope N__law_right P__law_right (C8.fnScope s__law_right) := fnScope_by (by decide +kernel)
theorem ok_right10 (T : TxtK w K mg) (S : Shp w K mg sa rs) (hcs : Right cs10) (PP : ∀ C, mg "Program" = some (.ref C) → PropX K C "functions" "Program.functions" s_Program_functions) : Cal P w K mg base 36 "_law_right" (sp_right10 K) [] := by
  obtain ⟨CP, MP⟩ := T.m_Program
  obtain ⟨CS, MS⟩ := T.m_Sheet
  obtain ⟨CB, MB⟩ := T.m_Bad
  obtain ⟨fP, fdP, MkP, FP, bP⟩ := MP.ex
  obtain ⟨pp, gp, fdg, hpp, Fg, bg⟩ := (PP CP MP.mgc).ex
  have FF := fn_ProgG (P := P) (base := base) T.toTxtP S MP MS MB FP
  have FG := ok_fnP (P := P) (w := w) (base := base) T.toTxtP MP Fg
  refine mk_cal T.d_right sc_right10 (fun vs H Q E h => ?_) (fun f cdv A outer s H vs Q E hr h => ?_)
  · obtain ⟨_, ⟨_, _, _, rfl, _⟩, _⟩ := h
    rfl
  · obtain ⟨_, ⟨v, d, n, rfl, hv, hnd, hn, hbk, rfl⟩, k⟩ := h
    have nd := sc_right10.nd
    have hu64 : (A.deeper (PyProof.Rows.envOfC "_law_right" (C8.fnScope s__law_right) s.heap.objs.size f cdv)).units + 64 < cLine := by have := hr.un; omega
    refine ⟨_, pss_cons (ps_set (i := 3) nd rfl (Or.inl rfl) (pe_tup (pa_cons (pe_tup (pa_cons pe_str (pa_cons pe_int pa_nil))) (pa_cons (pv 0) (pa_cons (pe_tup (pa_cons pe_str (pa_cons pe_int pa_nil))) pa_nil)))))
      (pss_cons (ps_for PassesOwn.never rfl (pi_range1 (by rfl) T.rangeG (pa_cons (pv 2) pa_nil)) (pg_name (i := 4) nd rfl (Or.inl rfl))
        (pss_one (ps_set (i := 3) nd rfl (Or.inl rfl) (pe_tup (pa_cons (pe_tup (pa_cons pe_str (pa_cons (pe_tup (pa_cons pe_str (pa_cons pe_str (pa_cons pe_str pa_nil)))) (pa_cons (pv 3) (pa_cons (pe_tup (pa_cons (pe_tup (pa_cons pe_str (pa_cons (pv 4) pa_nil))) pa_nil)) pa_nil))))) pa_nil)))))
      (pss_cons (ps_set (i := 5) nd rfl (Or.inl rfl) (pe_disp (pps_cons pe_str (pe_tup (pa_cons (pe_tup pa_nil) (pa_cons pe_int (pa_cons (pe_tup pa_nil) pa_nil))))
          (pps_cons pe_str (pe_tup (pa_cons (pe_tup (pa_cons pe_str pa_nil)) (pa_cons pe_int (pa_cons (pv 3) pa_nil)))) pps_nil)) (by rfl) (by rfl) (by simp) (by decide)))
      (pss_cons (ps_set (i := 6) nd rfl (Or.inl rfl) (pe_lst pa_nil))
      (pss_cons (ps_try_as (i := 7) (tb := fun W => tDrop (tBM K "list" rAppend (tVar 6) (tCons (tProp CP (sp_fnP CP) [] C8.E0 (tMakeS CP (sp_ProgG K CP CS CB) (WE W)
            (tCons (tDisp [(tC (.str "s"), tC (.str "a"))]) (tCons (tDisp [(tC (.str "c"), tTup (tCons (tC .non) (tCons (tC (.int 1)) (tCons (tTup tNil) (tCons (tDisp [(tC (.str "m"), tC (.str "g"))]) tNil)))))]) (tCons (tVar 5) tNil))))) tNil)))
          (ts := fun a cls d => tAsg (tLst (tCons (tC (.str "refused")) (tCons (tXf a cls d CB "part" (tVar 7)) tNil))) (gName 6)) (Wout := fun _ _ _ _ => False) rfl rfl nd rfl rfl ⟨rfl, by decide, Or.inl MB.mgc⟩ takes0
          (fun W pn xe tk _ => pss_one (ps_expr (pe_bm PySem.F.plainAttrs_list PySem.F.slot_list_append PySem.F.type_list_append mt_append (pv 6) (pa_cons
            (pe_prop (pe_makeS MkP FF (hr.mono (by decide)) rfl MP.mgc bP (fun σ => passAt tk σ) (pa_cons (pe_disp (pps_cons pe_str pe_str pps_nil) (by rfl) (by rfl) (by simp) (by decide)) (pa_cons (pe_disp (pps_cons pe_str (pe_tup (pa_cons pe_non (pa_cons pe_int (pa_cons (pe_tup pa_nil) (pa_cons (pe_disp (pps_cons pe_str pe_str pps_nil) (by rfl) (by rfl) (by simp) (by decide)) pa_nil))))) pps_nil) (by rfl) (by rfl) (by simp) (by decide)) (pa_cons (pv 5) pa_nil))))
              MP.cls hpp FG (hr.mono (by decide)) bg .nil C8.pass0 (by rfl)) pa_nil))))
          (fun a oe cls d pn hz hf => pss_one (ps_set (i := 6) nd rfl (Or.inl rfl) (pe_lst (pa_cons pe_str (pa_cons (pe_xf MB.xf MB.no hz hf (pv 7)) pa_nil))))))
      (pss_cons (ps_if (pt_truth (pv 1) (by intro _; rfl)) (pss_one (ps_ret (pe_cmpR (op_eqV hu64) (pv 6) (pe_lst (pa_cons (pv 5) pa_nil)) (by rfl)))) pss_nil)
      (pss_one (ps_ret (pe_cmpR (op_eqV hu64) (pv 6) (pe_lst (pa_cons pe_str (pa_cons pe_str pa_nil))) (by rfl))))))))), ?_⟩
    have oks : ∀ {z : Str}, z.length ≤ 100 → z.length ≤ sizeLine := fun h => sz_of (by omega)
    refine q_asgDv (d := blk0 d) (dd_tup (dd_cons (dd_tup (dd_cons (dd_str (by decide)) (dd_cons dd_int dd_nil)) (by decide)) (dd_cons (dd_var rfl hv) (dd_cons (dd_tup (dd_cons (dd_str (by decide)) (dd_cons dd_int dd_nil)) (by decide)) dd_nil))) (show 3 ≤ 40000 by decide)) fun w0 H1 e1 a1 => ?_
    refine q_forR1 (n := (n : Nat)) (ea_cons (ev_var rfl) ea_nil) (by omega) (fun j σ'' H'' => ∃ w v4, σ'' = [some v, some (.bl (dueD n d)), some (.int (n : Nat)), some w, v4, none, none, none] ∧ At K H'' w (blkN d j) ∧ Ex H H'') (fun H2 e2 => ⟨w0, _, rfl, a1.ex e2, e1.trans e2⟩) ?_ ?_
    · rintro j σ'' H2 hj ⟨w, v4, rfl, aw, e2⟩
      refine s_asgDv (d := wrapB j (blkN d j)) (dd_tup (dd_cons (dd_tup (dd_cons (dd_str (by decide)) (dd_cons (dd_tup (dd_cons (dd_str (by decide)) (dd_cons (dd_str (by decide)) (dd_cons (dd_str (by decide)) dd_nil))) (by decide)) (dd_cons (dd_var rfl aw) (dd_cons (dd_tup (dd_cons (dd_tup (dd_cons (dd_str (by decide)) (dd_cons (dd_var rfl (.int (j : Nat))) dd_nil)) (show 2 ≤ 40000 by decide)) dd_nil) (show 1 ≤ 40000 by decide)) dd_nil)))) (show 4 ≤ 40000 by decide)) dd_nil) (show 1 ≤ 40000 by decide)) fun w2 H3 e3 a3 => ⟨w2, _, rfl, a3, e2.trans e3⟩
    · rintro σ'' H2 ⟨w, v4, rfl, aw, e2⟩
      replace aw : At K H2 w (blkN d n) := aw
      obtain ⟨bA, rfl⟩ : ∃ bA, w = .ref bA := by
        cases n with
        | zero => cases aw with | tup => exact ⟨_, rfl⟩
        | succ n => cases aw with | tup => exact ⟨_, rfl⟩
      refine q_funcs10 (d := blkN d n) rfl aw fun b H3 hb0 e3 hfd => ?_
      refine q_asgL (el_lst ea_nil (show 0 ≤ 100000 by decide)) fun l H4 hl e4 h4 => ?_
      have e14 := (e2.trans e3).trans e4
      refine ⟨_, rfl, Or.inl ⟨rfl, [], sq_of h4⟩, ?_⟩
      refine r_make10 (d := blkN d n) rfl (hfd.ex e4) hcs (by rw [nodes_blkN]; omega) fun sh a H5 e5 hparts x dx hx hdx hne => ?_
      refine ⟨x, sh, a, b, ss10, cs10, fns10 (blkN d n), H5, dx, rfl, hx, (Ex.new hdx).mut hx, upd_same, hparts, fun ys hperm hsrt => ?_⟩
      have hfb : firstBad (knOf ss10 cs10 (fns10 (blkN d n))) (fns10 (blkN d n)) ys = if dueD n d then none else some (Str.ofString "g") := bad10 hperm
      rw [hfb]
      cases hdue : dueD n d with
      | false =>
        refine ⟨fun z hz => ?_, fun h => nomatch h⟩
        cases (show some (Str.ofString "g") = some z from hz)
        intro d2 H6 e6 hd h6
        refine ⟨true, MB.te, fun _ a2 ha2 => ?_, fun z => nomatch z⟩
        refine s_refused rfl h6 fun p H7 hp e7 h7 => ?_
        refine q_no (et_truB (ev_var (v := .bl false) rfl)) fun H8 e8 => ?_
        refine s_ret (v := .bl true) (ev_eqVL (n := 1) (ev_var rfl) (e8 _ _ h7) (el_lst (ea_cons ev_c (ea_cons ev_c ea_nil)) (show 2 ≤ 100000 by decide)) (by decide) fun H9 e9 => ?_) fun H9 e9 => k H9 ((((e14.trans e5).trans e6).trans e7).trans (e8.trans e9))
        have hbg : (Str.ofString "block ") ++ (Str.ofString "g") = Str.ofString "block g" := by decide +kernel
        rw [hbg]
        exact .cons (.inl ⟨rfl, rfl⟩) (.cons (.inl ⟨rfl, rfl⟩) .nil)
      | true =>
        refine ⟨fun z hz => (nomatch (show (none : Option Str) = some z from hz)), fun _ => ⟨fun c hc => ?_, fun kvs hkvs H6 fsx e6 h6 hprog => ?_⟩⟩
        · have h3 : c = (Str.ofString "f", Fn.mk [] 1 (.tup [])) ∨ c = (Str.ofString "g", Fn.mk ["a"] 2 (blkN d n)) := by simpa [fns10] using hc
          rcases h3 with rfl | rfl
          · exact fn_f_right
          · exact hbk hdue
        · obtain ⟨f3, hl3, _, hf3⟩ := hprog.fn
          refine ⟨rfl, x, dx, fsx, rfl, h6, x, dx, fsx, f3, kvs, rfl, h6, hl3, hf3, fun q H7 hq e7 h7 => ?_⟩
          have e47 := (e5.trans e6).trans e7
          refine ⟨l, [], .ref q, rfl, rfl, e47 _ _ h4, (show 0 + 1 ≤ sizeLine by decide), ?_⟩
          have hl0 : H l = none := fresh_back (e2.trans e3) hl
          have hql : q ≠ l := fun z => by subst z; rw [(e5.trans e6) _ _ h4] at hq; cases hq
          have eF : Ex H (upd H7 l (.lst ([] ++ [.ref q]))) := (e14.trans e47).mut hl0
          have gl : upd H7 l (.lst ([] ++ [.ref q])) l = some (.lst [.ref q]) := upd_same
          have gq : upd H7 l (.lst ([] ++ [.ref q])) q = some (.dK kvs) := by rw [upd_ne hql]; exact h7
          obtain ⟨kv0, hb1, hpr⟩ := hfd
          have hb7 : H7 b = some (.dK kv0) := e47 _ _ (e4 _ _ hb1)
          have hkk : kvs = kv0 := by
            have := (e5 _ _ (e4 _ _ hb1)).symm.trans hkvs
            cases this
            rfl
          subst hkk
          have hbl : b ≠ l := fun z => by subst z; rw [hb1] at hl; cases hl
          have gb : upd H7 l (.lst ([] ++ [.ref q])) b = some (.dK kvs) := by rw [upd_ne hbl]; exact hb7
          generalize upd H7 l (.lst ([] ++ [.ref q])) = G at eF gl gq gb ⊢
          refine q_when (b := true) (et_truB (ev_var (v := .bl true) rfl)) (fun _ H8 e8 => ?_) (fun z => nomatch z)
          refine s_ret (v := .bl true) (ev_eqVL (n := 2) (ev_var rfl) (e8 _ _ gl) (el_lst (ea_cons (ev_var rfl) ea_nil) (show 1 ≤ 100000 by decide)) (by decide) fun H9 e9 => ?_) fun H9 e9 => k H9 (eF.trans (e8.trans e9))
          refine .cons (.inr (.inr (.inr ⟨q, b, kvs, kvs, rfl, rfl, e9 _ _ (e8 _ _ gq), e9 _ _ (e8 _ _ gb), rfl, fun p hp => ?_⟩))) .nil
          cases hpr with
          | cons r1 t1 =>
            cases t1 with
            | cons r2 t2 =>
              cases t2
              rename_i p1 p2
              obtain ⟨q1, q2⟩ := p1
              obtain ⟨q3, q4⟩ := p2
              obtain ⟨k1, t1, _, _, v1, _⟩ := r1
              obtain ⟨k2, t2, _, _, v2, _⟩ := r2
              replace k1 : q1 = Sum.inr (Str.ofString "f") := k1
              replace k2 : q3 = Sum.inr (Str.ofString "g") := k2
              replace v1 : q2 = .ref t1 := v1
              replace v2 : q4 = .ref t2 := v2
              subst k1 k2 v1 v2
              rcases List.mem_cons.mp hp with rfl | hp
              · exact ⟨.ref t1, rfl, .inr (.inl ⟨t1, rfl, rfl⟩)⟩
              · rw [List.mem_singleton.mp hp]
                exact ⟨.ref t2, rfl, .inr (.inl ⟨t2, rfl, rfl⟩)⟩
end
end EE
set_option Elab.async false
set_option linter.all false
set_option maxRecDepth 100000
set_option maxHeartbeats 4000000
namespace EE
open PySem L2 Evl
section
variable {kn : Kn} {d b : Dt} {m k : Nat}
theorem pay_ok {B R : Dt → Bool} {i : Int} (h : priceD (.int i) = true) : stmtD B R kn (.tup [.str (Str.ofString "pay"), .int i]) = true := by rw [st_pay]; exact h
theorem okB_3 {x y z : Dt} : okB kn (m + 1) (.tup [x, y, z]) = (stmtD (okB kn m) (retD m) kn x && (stmtD (okB kn m) (retD m) kn y && stmtD (okB kn m) (retD m) kn z)) := by
  show (decide (3 ≤ 12) && (stmtD (okB kn m) (retD m) kn x && (stmtD (okB kn m) (retD m) kn y && (stmtD (okB kn m) (retD m) kn z && true)))) = _
  rw [decide_eq_true (by decide), Bool.true_and, Bool.and_true]
theorem okB_1 {x : Dt} : okB kn (m + 1) (.tup [x]) = stmtD (okB kn m) (retD m) kn x := by
  show (decide (1 ≤ 12) && (stmtD (okB kn m) (retD m) kn x && true)) = _
  rw [decide_eq_true (by decide), Bool.true_and, Bool.and_true]
theorem blk0_eq : okB kn (m + 1) (blk0 d) = stmtD (okB kn m) (retD m) kn d := by
  unfold blk0
  rw [okB_3, pay_ok (by decide), pay_ok (by decide), Bool.true_and, Bool.and_true]
theorem wrap_eq (hk : k ≤ 9) : okB kn (m + 2) (wrapB k b) = okB kn (m + 1) b := by
  unfold wrapB
  rw [okB_1, st_if, ts_same, okB_1, pay_ok (by show (decide ((0 : Int) ≤ (k : Nat)) && decide (((k : Nat) : Int) ≤ 9)) = true; rw [decide_eq_true (by omega), decide_eq_true (by omega)]; rfl)]
  rw [show exprD (.str (Str.ofString "a")) = true from by decide +kernel]
  simp
theorem blkN_eq : ∀ (n : Nat), n ≤ 9 → okB kn (m + n + 1) (blkN d n) = stmtD (okB kn m) (retD m) kn d
  | 0, _ => blk0_eq
  | n + 1, h => by
    show okB kn (m + n + 2) (wrapB n (blkN d n)) = _
    rw [wrap_eq (by omega)]
    exact blkN_eq n (by omega)
theorem due_eq {n : Nat} (h : n ≤ 5) : dueD n d = stmtD (okB kn10 (5 - n)) (retD (5 - n)) kn10 d := by
  have := blkN_eq (kn := kn10) (d := d) (m := 5 - n) n (by omega)
  rw [show 5 - n + n + 1 = 6 by omega] at this
  exact this
theorem nil_ok (h : 0 < m) : okB kn m (.tup []) = true := by
  cases m with
  | zero => omega
  | succ m => rfl
/-- every row is as told -/
theorem due_exp {n : Nat} (h : n ≤ 4) {e r : Dt} (hr : r ∈ expRows e) : dueD n r = exprD e := by
  rw [due_eq (by omega)]
  exact exp_row (nil_ok (by omega)) r hr
theorem due_nam {n : Nat} (h : n ≤ 4) {e r : Dt} (hr : r ∈ namRows e) : dueD n r = nmD e := by
  rw [due_eq (by omega)]
  exact nam_row (nil_ok (by omega)) r hr
theorem due_pay {n : Nat} (h : n ≤ 4) {e : Dt} : dueD n (.tup [.str (Str.ofString "pay"), e]) = priceD e := by
  rw [due_eq (by omega), st_pay]
theorem due_ask {n : Nat} (h : n ≤ 4) {e : Dt} : dueD n (.tup [.str (Str.ofString "ask"), .str (Str.ofString "x"), e]) = wordsD e := by
  rw [due_eq (by omega), st_ask, nmst, nm_x, Bool.true_and]
theorem due_if {n : Nat} (h : n ≤ 4) {e : Dt} : dueD n (.tup [.str (Str.ofString "if"), e, .tup [], .tup []]) = testD kn10 e := by
  rw [due_eq (by omega), st_if, nil_ok (by omega), Bool.and_true, Bool.and_true]
theorem due_loop {n : Nat} (h : n ≤ 4) {e : Dt} : dueD n (.tup [.str (Str.ofString "loop"), e, .tup [.tup [.str (Str.ofString "pay"), .int 1]]]) = testD kn10 e := by
  rw [due_eq (by omega), st_loop]
  obtain ⟨q, hq⟩ : ∃ q, 5 - n = q + 1 := ⟨4 - n, by omega⟩
  rw [hq, okB_1, pay_ok (by decide), Bool.and_true]
theorem due_if2 {n : Nat} (h : n ≤ 4) {e : Dt} : dueD n (.tup [.str (Str.ofString "if"), e, .tup [.tup [.str (Str.ofString "set"), .str (Str.ofString "a"), .str (Str.ofString "a")]], .tup []]) = testD kn10 e := by
  rw [due_eq (by omega), st_if]
  obtain ⟨q, hq⟩ : ∃ q, 5 - n = q + 1 := ⟨4 - n, by omega⟩
  rw [hq, okB_1, st_set, nmst, ex_str, nm_a, nil_ok (by omega)]
  simp
theorem test_law {t : Dt} : tstD (knC [Str.ofString "c"]) 3 t = testD kn10 t := by
  rw [tst_eq]
  rfl
end
end EE
set_option Elab.async false
set_option linter.all false
set_option maxRecDepth 100000
set_option maxHeartbeats 4000000
namespace EE
open PySem L2 Evl
/-! ### a block without lasts is its own plain block -/
theorem plP_id {PB : Dt → List Str → List Dt × List Str} {fr : List Str} : ∀ {kps : List (Str × Dt)} {acc : List Dt}, (∀ kp ∈ kps, kp.1 ∈ blks → PB kp.2 fr = (tupD kp.2, fr) ∧ Dt.tup (tupD kp.2) = kp.2) → plP PB kps (acc, fr) = (acc ++ kps.map (·.2), fr)
  | [], acc, _ => by show (acc, fr) = _; simp
  | kp :: kps, acc, h => by
    have hs : stepP PB (acc, fr) kp = (acc ++ [kp.2], fr) := by
      unfold stepP
      by_cases hk : kp.1 ∈ blks
      · rw [if_pos hk]
        obtain ⟨h1, h2⟩ := h kp (List.mem_cons_self ..) hk
        show (acc ++ [Dt.tup (PB kp.2 fr).1], (PB kp.2 fr).2) = _
        rw [h1]
        show (acc ++ [Dt.tup (tupD kp.2)], fr) = _
        rw [h2]
      · rw [if_neg hk]
    show plP PB kps (stepP PB (acc, fr) kp) = _
    rw [hs, plP_id fun q hq => h q (List.mem_cons_of_mem _ hq)]
    simp
theorem wfB_tup {n : Nat} {d : Dt} (h : wfB n d = true) : Dt.tup (tupD d) = d := by
  cases n with
  | zero => cases h
  | succ n => obtain ⟨xs, rfl, _⟩ := wfB_succ h; rfl
theorem plS_id {n : Nat} (hPB : ∀ d, wfB n d = true → lastsD n d = 0 → ∀ fr, plB n d fr = (tupD d, fr)) {d : Dt} (hw : wfS (wfB n) d = true) (hl : lastS n d = 0) (fr : List Str) : plS (plB n) d fr = ([d], fr) := by
  obtain ⟨z, ks, ps, rfl, hs, hlen, hp⟩ := wfS_inv hw
  have hin : innerD (.tup (.str z :: ps)) = innerOf ks ps := by
    show innerOf ((shapeOf (unD (.str z))).getD []) ps = _
    rw [show unD (.str z) = z from rfl, hs]
    rfl
  have h0 : isS "last" (headD (.tup (.str z :: ps))) = false := by
    cases hq : isS "last" (headD (.tup (.str z :: ps))) with
    | false => rfl
    | true =>
      unfold lastS at hl
      rw [hq, if_pos rfl] at hl
      omega
  have hz : ∀ b ∈ innerOf ks ps, lastsD n b = 0 := fun b hb => by
    unfold lastS at hl
    rw [hin] at hl
    have := sum_le (f := lastsD n) hb
    omega
  unfold plS
  rw [if_neg (by rw [h0]; decide)]
  have e1 : ((shapeOf (unD (headD (.tup (.str z :: ps))))).getD []) = ks := by
    rw [show unD (headD (.tup (.str z :: ps))) = z from rfl, hs]
    rfl
  rw [e1, show (tupD (.tup (.str z :: ps))).tail = ps from rfl, show headD (.tup (.str z :: ps)) = .str z from rfl]
  rw [plP_id (fun kp hkp hk => ?_)]
  · rw [List.map_snd_zip (by omega)]
    rfl
  · obtain ⟨i, hi⟩ := List.mem_iff_getElem?.mp hkp
    obtain ⟨k, p⟩ := kp
    rw [List.getElem?_zip_eq_some] at hi
    have hw2 : wfB n p = true := by
      have := hp i k p hi.1 hi.2
      unfold wfP at this
      rwa [if_pos hk] at this
    exact ⟨hPB p hw2 (hz p (inner_of hi.1 hi.2 hk)) fr, wfB_tup hw2⟩
theorem plB_id : ∀ {n : Nat} {d : Dt}, wfB n d = true → lastsD n d = 0 → ∀ fr, plB n d fr = (tupD d, fr)
  | 0, _, h, _, _ => nomatch h
  | n + 1, d, h, hl, fr => by
    obtain ⟨xs, rfl, hx⟩ := wfB_succ h
    rw [lastsD_succ] at hl
    have hs : ∀ x ∈ xs, plS (plB n) x fr = ([x], fr) := fun x hxm => plS_id (fun d h1 h2 fr => plB_id h1 h2 fr) (hx x hxm) (by have := sum_le (f := lastS n) hxm; omega) fr
    show xs.foldl (stepB (plB n)) ([], fr) = (xs, fr)
    have gen : ∀ (l : List Dt) (acc : List Dt), (∀ x ∈ l, plS (plB n) x fr = ([x], fr)) → l.foldl (stepB (plB n)) (acc, fr) = (acc ++ l, fr) := fun l => by
      induction l with
      | nil => intro acc _; simp
      | cons y l ih =>
        intro acc hh
        rw [List.foldl_cons]
        have : stepB (plB n) (acc, fr) y = (acc ++ [y], fr) := by
          unfold stepB
          show (acc ++ (plS (plB n) y fr).1, (plS (plB n) y fr).2) = _
          rw [hh y (List.mem_cons_self ..)]
        rw [this, ih _ fun x hx => hh x (List.mem_cons_of_mem _ hx)]
        simp
    have := gen xs [] hs
    simpa using this
end EE
set_option Elab.async false
set_option linter.all false
set_option maxRecDepth 100000
set_option maxHeartbeats 4000000
namespace EE
open PySem L2 Evl
/-! ### the inner blocks of each kind of statement -/
section
variable {n : Nat}
theorem innerD_of {z : Str} {ks : List Str} {ps : List Dt} (h : shapeOf z = some ks) : innerD (.tup (.str z :: ps)) = innerOf ks ps := by
  show innerOf ((shapeOf (unD (.str z))).getD []) ps = _
  rw [show unD (.str z) = z from rfl, h]
  rfl
theorem io_nil {α : Type} : innerOf ([] : List Str) ([] : List α) = [] := rfl
theorem io_no {α : Type} {k : Str} {ks : List Str} {p : α} {ps : List α} (h : decide (k ∈ blks) = false) : innerOf (k :: ks) (p :: ps) = innerOf ks ps := by
  unfold innerOf
  rw [List.zip_cons_cons, List.filter_cons_of_neg (by show ¬ decide (k ∈ blks) = true; rw [h]; decide)]
theorem io_yes {α : Type} {k : Str} {ks : List Str} {p : α} {ps : List α} (h : decide (k ∈ blks) = true) : innerOf (k :: ks) (p :: ps) = p :: innerOf ks ps := by
  unfold innerOf
  rw [List.zip_cons_cons, List.filter_cons_of_pos (by show decide (k ∈ blks) = true; exact h)]
  rfl

theorem in_set_ {d0 d1 : Dt} : innerD (.tup [.str (Str.ofString "set"), d0, d1]) = [] := by
  rw [innerD_of sh_set, io_no (by decide +kernel), io_no (by decide +kernel), io_nil]
theorem ls_set {d0 d1 : Dt} : lastS n (.tup [.str (Str.ofString "set"), d0, d1]) = 0 := by
  unfold lastS
  rw [in_set_, show isS "last" (headD (.tup [.str (Str.ofString "set"), d0, d1])) = false from show decide (Str.ofString "set" = "last") = false by decide +kernel]
  simp
theorem pn_set {d0 d1 : Dt} : plNs n (.tup [.str (Str.ofString "set"), d0, d1]) = 1 := by
  unfold plNs
  rw [in_set_]
  simp <;> omega
theorem sz_set {d0 d1 : Dt} : szS n (.tup [.str (Str.ofString "set"), d0, d1]) = 1 := by
  unfold szS
  rw [in_set_]
  simp <;> omega
theorem in_share_ {d0 d1 : Dt} : innerD (.tup [.str (Str.ofString "share"), d0, d1]) = [] := by
  rw [innerD_of sh_share, io_no (by decide +kernel), io_no (by decide +kernel), io_nil]
theorem ls_share {d0 d1 : Dt} : lastS n (.tup [.str (Str.ofString "share"), d0, d1]) = 0 := by
  unfold lastS
  rw [in_share_, show isS "last" (headD (.tup [.str (Str.ofString "share"), d0, d1])) = false from show decide (Str.ofString "share" = "last") = false by decide +kernel]
  simp
theorem pn_share {d0 d1 : Dt} : plNs n (.tup [.str (Str.ofString "share"), d0, d1]) = 1 := by
  unfold plNs
  rw [in_share_]
  simp <;> omega
theorem sz_share {d0 d1 : Dt} : szS n (.tup [.str (Str.ofString "share"), d0, d1]) = 1 := by
  unfold szS
  rw [in_share_]
  simp <;> omega
theorem in_pay_ {d0 : Dt} : innerD (.tup [.str (Str.ofString "pay"), d0]) = [] := by
  rw [innerD_of sh_pay, io_no (by decide +kernel), io_nil]
theorem ls_pay {d0 : Dt} : lastS n (.tup [.str (Str.ofString "pay"), d0]) = 0 := by
  unfold lastS
  rw [in_pay_, show isS "last" (headD (.tup [.str (Str.ofString "pay"), d0])) = false from show decide (Str.ofString "pay" = "last") = false by decide +kernel]
  simp
theorem pn_pay {d0 : Dt} : plNs n (.tup [.str (Str.ofString "pay"), d0]) = 1 := by
  unfold plNs
  rw [in_pay_]
  simp <;> omega
theorem sz_pay {d0 : Dt} : szS n (.tup [.str (Str.ofString "pay"), d0]) = 1 := by
  unfold szS
  rw [in_pay_]
  simp <;> omega
theorem in_ask_ {d0 d1 : Dt} : innerD (.tup [.str (Str.ofString "ask"), d0, d1]) = [] := by
  rw [innerD_of sh_ask, io_no (by decide +kernel), io_no (by decide +kernel), io_nil]
theorem ls_ask {d0 d1 : Dt} : lastS n (.tup [.str (Str.ofString "ask"), d0, d1]) = 0 := by
  unfold lastS
  rw [in_ask_, show isS "last" (headD (.tup [.str (Str.ofString "ask"), d0, d1])) = false from show decide (Str.ofString "ask" = "last") = false by decide +kernel]
  simp
theorem pn_ask {d0 d1 : Dt} : plNs n (.tup [.str (Str.ofString "ask"), d0, d1]) = 1 := by
  unfold plNs
  rw [in_ask_]
  simp <;> omega
theorem sz_ask {d0 d1 : Dt} : szS n (.tup [.str (Str.ofString "ask"), d0, d1]) = 1 := by
  unfold szS
  rw [in_ask_]
  simp <;> omega
theorem in_if_ {d0 d1 d2 : Dt} : innerD (.tup [.str (Str.ofString "if"), d0, d1, d2]) = [d1, d2] := by
  rw [innerD_of sh_if, io_no (by decide +kernel), io_yes (by decide +kernel), io_yes (by decide +kernel), io_nil]
theorem ls_if {d0 d1 d2 : Dt} : lastS n (.tup [.str (Str.ofString "if"), d0, d1, d2]) = lastsD n d1 + lastsD n d2 := by
  unfold lastS
  rw [in_if_, show isS "last" (headD (.tup [.str (Str.ofString "if"), d0, d1, d2])) = false from show decide (Str.ofString "if" = "last") = false by decide +kernel]
  simp
theorem pn_if {d0 d1 d2 : Dt} : plNs n (.tup [.str (Str.ofString "if"), d0, d1, d2]) = 1 + (2 * plN n d1 + 1) + (2 * plN n d2 + 1) := by
  unfold plNs
  rw [in_if_]
  simp <;> omega
theorem sz_if {d0 d1 d2 : Dt} : szS n (.tup [.str (Str.ofString "if"), d0, d1, d2]) = 1 + sizeD n d1 + sizeD n d2 := by
  unfold szS
  rw [in_if_]
  simp <;> omega
theorem in_loop_ {d0 d1 : Dt} : innerD (.tup [.str (Str.ofString "loop"), d0, d1]) = [d1] := by
  rw [innerD_of sh_loop, io_no (by decide +kernel), io_yes (by decide +kernel), io_nil]
theorem ls_loop {d0 d1 : Dt} : lastS n (.tup [.str (Str.ofString "loop"), d0, d1]) = lastsD n d1 := by
  unfold lastS
  rw [in_loop_, show isS "last" (headD (.tup [.str (Str.ofString "loop"), d0, d1])) = false from show decide (Str.ofString "loop" = "last") = false by decide +kernel]
  simp
theorem pn_loop {d0 d1 : Dt} : plNs n (.tup [.str (Str.ofString "loop"), d0, d1]) = 1 + (2 * plN n d1 + 1) := by
  unfold plNs
  rw [in_loop_]
  simp <;> omega
theorem sz_loop {d0 d1 : Dt} : szS n (.tup [.str (Str.ofString "loop"), d0, d1]) = 1 + sizeD n d1 := by
  unfold szS
  rw [in_loop_]
  simp <;> omega
theorem in_return_ {d0 : Dt} : innerD (.tup [.str (Str.ofString "return"), d0]) = [] := by
  rw [innerD_of sh_return, io_no (by decide +kernel), io_nil]
theorem ls_return {d0 : Dt} : lastS n (.tup [.str (Str.ofString "return"), d0]) = 0 := by
  unfold lastS
  rw [in_return_, show isS "last" (headD (.tup [.str (Str.ofString "return"), d0])) = false from show decide (Str.ofString "return" = "last") = false by decide +kernel]
  simp
theorem pn_return {d0 : Dt} : plNs n (.tup [.str (Str.ofString "return"), d0]) = 1 := by
  unfold plNs
  rw [in_return_]
  simp <;> omega
theorem sz_return {d0 : Dt} : szS n (.tup [.str (Str.ofString "return"), d0]) = 1 := by
  unfold szS
  rw [in_return_]
  simp <;> omega
theorem in_raise_ {d0 : Dt} : innerD (.tup [.str (Str.ofString "raise"), d0]) = [] := by
  rw [innerD_of sh_raise, io_no (by decide +kernel), io_nil]
theorem ls_raise {d0 : Dt} : lastS n (.tup [.str (Str.ofString "raise"), d0]) = 0 := by
  unfold lastS
  rw [in_raise_, show isS "last" (headD (.tup [.str (Str.ofString "raise"), d0])) = false from show decide (Str.ofString "raise" = "last") = false by decide +kernel]
  simp
theorem pn_raise {d0 : Dt} : plNs n (.tup [.str (Str.ofString "raise"), d0]) = 1 := by
  unfold plNs
  rw [in_raise_]
  simp <;> omega
theorem sz_raise {d0 : Dt} : szS n (.tup [.str (Str.ofString "raise"), d0]) = 1 := by
  unfold szS
  rw [in_raise_]
  simp <;> omega
theorem in_try_ {d0 d1 d2 : Dt} : innerD (.tup [.str (Str.ofString "try"), d0, d1, d2]) = [d0, d2] := by
  rw [innerD_of sh_try, io_yes (by decide +kernel), io_no (by decide +kernel), io_yes (by decide +kernel), io_nil]
theorem ls_try {d0 d1 d2 : Dt} : lastS n (.tup [.str (Str.ofString "try"), d0, d1, d2]) = lastsD n d0 + lastsD n d2 := by
  unfold lastS
  rw [in_try_, show isS "last" (headD (.tup [.str (Str.ofString "try"), d0, d1, d2])) = false from show decide (Str.ofString "try" = "last") = false by decide +kernel]
  simp
theorem pn_try {d0 d1 d2 : Dt} : plNs n (.tup [.str (Str.ofString "try"), d0, d1, d2]) = 1 + (2 * plN n d0 + 1) + (2 * plN n d2 + 1) := by
  unfold plNs
  rw [in_try_]
  simp <;> omega
theorem sz_try {d0 d1 d2 : Dt} : szS n (.tup [.str (Str.ofString "try"), d0, d1, d2]) = 1 + sizeD n d0 + sizeD n d2 := by
  unfold szS
  rw [in_try_]
  simp <;> omega
theorem in_last_ {d0 d1 : Dt} : innerD (.tup [.str (Str.ofString "last"), d0, d1]) = [d0, d1] := by
  rw [innerD_of sh_last, io_yes (by decide +kernel), io_yes (by decide +kernel), io_nil]
theorem pn_last {d0 d1 : Dt} : plNs n (.tup [.str (Str.ofString "last"), d0, d1]) = 1 + (2 * plN n d0 + 1) + (2 * plN n d1 + 1) := by
  unfold plNs
  rw [in_last_]
  simp <;> omega
theorem sz_last {d0 d1 : Dt} : szS n (.tup [.str (Str.ofString "last"), d0, d1]) = 1 + sizeD n d0 + sizeD n d1 := by
  unfold szS
  rw [in_last_]
  simp <;> omega
theorem in_call_ {d0 d1 d2 : Dt} : innerD (.tup [.str (Str.ofString "call"), d0, d1, d2]) = [] := by
  rw [innerD_of sh_call, io_no (by decide +kernel), io_no (by decide +kernel), io_no (by decide +kernel), io_nil]
theorem ls_call {d0 d1 d2 : Dt} : lastS n (.tup [.str (Str.ofString "call"), d0, d1, d2]) = 0 := by
  unfold lastS
  rw [in_call_, show isS "last" (headD (.tup [.str (Str.ofString "call"), d0, d1, d2])) = false from show decide (Str.ofString "call" = "last") = false by decide +kernel]
  simp
theorem pn_call {d0 d1 d2 : Dt} : plNs n (.tup [.str (Str.ofString "call"), d0, d1, d2]) = 1 := by
  unfold plNs
  rw [in_call_]
  simp <;> omega
theorem sz_call {d0 d1 d2 : Dt} : szS n (.tup [.str (Str.ofString "call"), d0, d1, d2]) = 1 := by
  unfold szS
  rw [in_call_]
  simp <;> omega
theorem in_apply_ {d0 d1 d2 : Dt} : innerD (.tup [.str (Str.ofString "apply"), d0, d1, d2]) = [] := by
  rw [innerD_of sh_apply, io_no (by decide +kernel), io_no (by decide +kernel), io_no (by decide +kernel), io_nil]
theorem ls_apply {d0 d1 d2 : Dt} : lastS n (.tup [.str (Str.ofString "apply"), d0, d1, d2]) = 0 := by
  unfold lastS
  rw [in_apply_, show isS "last" (headD (.tup [.str (Str.ofString "apply"), d0, d1, d2])) = false from show decide (Str.ofString "apply" = "last") = false by decide +kernel]
  simp
theorem pn_apply {d0 d1 d2 : Dt} : plNs n (.tup [.str (Str.ofString "apply"), d0, d1, d2]) = 1 := by
  unfold plNs
  rw [in_apply_]
  simp <;> omega
theorem sz_apply {d0 d1 d2 : Dt} : szS n (.tup [.str (Str.ofString "apply"), d0, d1, d2]) = 1 := by
  unfold szS
  rw [in_apply_]
  simp <;> omega
theorem in_send_ {d0 d1 d2 d3 : Dt} : innerD (.tup [.str (Str.ofString "send"), d0, d1, d2, d3]) = [] := by
  rw [innerD_of sh_send, io_no (by decide +kernel), io_no (by decide +kernel), io_no (by decide +kernel), io_no (by decide +kernel), io_nil]
theorem ls_send {d0 d1 d2 d3 : Dt} : lastS n (.tup [.str (Str.ofString "send"), d0, d1, d2, d3]) = 0 := by
  unfold lastS
  rw [in_send_, show isS "last" (headD (.tup [.str (Str.ofString "send"), d0, d1, d2, d3])) = false from show decide (Str.ofString "send" = "last") = false by decide +kernel]
  simp
theorem pn_send {d0 d1 d2 d3 : Dt} : plNs n (.tup [.str (Str.ofString "send"), d0, d1, d2, d3]) = 1 := by
  unfold plNs
  rw [in_send_]
  simp <;> omega
theorem sz_send {d0 d1 d2 d3 : Dt} : szS n (.tup [.str (Str.ofString "send"), d0, d1, d2, d3]) = 1 := by
  unfold szS
  rw [in_send_]
  simp <;> omega
theorem in_new_ {d0 d1 d2 : Dt} : innerD (.tup [.str (Str.ofString "new"), d0, d1, d2]) = [] := by
  rw [innerD_of sh_new, io_no (by decide +kernel), io_no (by decide +kernel), io_no (by decide +kernel), io_nil]
theorem ls_new {d0 d1 d2 : Dt} : lastS n (.tup [.str (Str.ofString "new"), d0, d1, d2]) = 0 := by
  unfold lastS
  rw [in_new_, show isS "last" (headD (.tup [.str (Str.ofString "new"), d0, d1, d2])) = false from show decide (Str.ofString "new" = "last") = false by decide +kernel]
  simp
theorem pn_new {d0 d1 d2 : Dt} : plNs n (.tup [.str (Str.ofString "new"), d0, d1, d2]) = 1 := by
  unfold plNs
  rw [in_new_]
  simp <;> omega
theorem sz_new {d0 d1 d2 : Dt} : szS n (.tup [.str (Str.ofString "new"), d0, d1, d2]) = 1 := by
  unfold szS
  rw [in_new_]
  simp <;> omega
theorem in_keep_ {d0 d1 d2 : Dt} : innerD (.tup [.str (Str.ofString "keep"), d0, d1, d2]) = [] := by
  rw [innerD_of sh_keep, io_no (by decide +kernel), io_no (by decide +kernel), io_no (by decide +kernel), io_nil]
theorem ls_keep {d0 d1 d2 : Dt} : lastS n (.tup [.str (Str.ofString "keep"), d0, d1, d2]) = 0 := by
  unfold lastS
  rw [in_keep_, show isS "last" (headD (.tup [.str (Str.ofString "keep"), d0, d1, d2])) = false from show decide (Str.ofString "keep" = "last") = false by decide +kernel]
  simp
theorem pn_keep {d0 d1 d2 : Dt} : plNs n (.tup [.str (Str.ofString "keep"), d0, d1, d2]) = 1 := by
  unfold plNs
  rw [in_keep_]
  simp <;> omega
theorem sz_keep {d0 d1 d2 : Dt} : szS n (.tup [.str (Str.ofString "keep"), d0, d1, d2]) = 1 := by
  unfold szS
  rw [in_keep_]
  simp <;> omega
theorem in_get_ {d0 d1 d2 : Dt} : innerD (.tup [.str (Str.ofString "get"), d0, d1, d2]) = [] := by
  rw [innerD_of sh_get, io_no (by decide +kernel), io_no (by decide +kernel), io_no (by decide +kernel), io_nil]
theorem ls_get {d0 d1 d2 : Dt} : lastS n (.tup [.str (Str.ofString "get"), d0, d1, d2]) = 0 := by
  unfold lastS
  rw [in_get_, show isS "last" (headD (.tup [.str (Str.ofString "get"), d0, d1, d2])) = false from show decide (Str.ofString "get" = "last") = false by decide +kernel]
  simp
theorem pn_get {d0 d1 d2 : Dt} : plNs n (.tup [.str (Str.ofString "get"), d0, d1, d2]) = 1 := by
  unfold plNs
  rw [in_get_]
  simp <;> omega
theorem sz_get {d0 d1 d2 : Dt} : szS n (.tup [.str (Str.ofString "get"), d0, d1, d2]) = 1 := by
  unfold szS
  rw [in_get_]
  simp <;> omega
theorem in_with_ {d0 d1 d2 d3 : Dt} : innerD (.tup [.str (Str.ofString "with"), d0, d1, d2, d3]) = [] := by
  rw [innerD_of sh_with, io_no (by decide +kernel), io_no (by decide +kernel), io_no (by decide +kernel), io_no (by decide +kernel), io_nil]
theorem ls_with {d0 d1 d2 d3 : Dt} : lastS n (.tup [.str (Str.ofString "with"), d0, d1, d2, d3]) = 0 := by
  unfold lastS
  rw [in_with_, show isS "last" (headD (.tup [.str (Str.ofString "with"), d0, d1, d2, d3])) = false from show decide (Str.ofString "with" = "last") = false by decide +kernel]
  simp
theorem pn_with {d0 d1 d2 d3 : Dt} : plNs n (.tup [.str (Str.ofString "with"), d0, d1, d2, d3]) = 1 := by
  unfold plNs
  rw [in_with_]
  simp <;> omega
theorem sz_with {d0 d1 d2 d3 : Dt} : szS n (.tup [.str (Str.ofString "with"), d0, d1, d2, d3]) = 1 := by
  unfold szS
  rw [in_with_]
  simp <;> omega
theorem in_push_ {d0 d1 d2 : Dt} : innerD (.tup [.str (Str.ofString "push"), d0, d1, d2]) = [] := by
  rw [innerD_of sh_push, io_no (by decide +kernel), io_no (by decide +kernel), io_no (by decide +kernel), io_nil]
theorem ls_push {d0 d1 d2 : Dt} : lastS n (.tup [.str (Str.ofString "push"), d0, d1, d2]) = 0 := by
  unfold lastS
  rw [in_push_, show isS "last" (headD (.tup [.str (Str.ofString "push"), d0, d1, d2])) = false from show decide (Str.ofString "push" = "last") = false by decide +kernel]
  simp
theorem pn_push {d0 d1 d2 : Dt} : plNs n (.tup [.str (Str.ofString "push"), d0, d1, d2]) = 1 := by
  unfold plNs
  rw [in_push_]
  simp <;> omega
theorem sz_push {d0 d1 d2 : Dt} : szS n (.tup [.str (Str.ofString "push"), d0, d1, d2]) = 1 := by
  unfold szS
  rw [in_push_]
  simp <;> omega
theorem in_pop_ {d0 d1 : Dt} : innerD (.tup [.str (Str.ofString "pop"), d0, d1]) = [] := by
  rw [innerD_of sh_pop, io_no (by decide +kernel), io_no (by decide +kernel), io_nil]
theorem ls_pop {d0 d1 : Dt} : lastS n (.tup [.str (Str.ofString "pop"), d0, d1]) = 0 := by
  unfold lastS
  rw [in_pop_, show isS "last" (headD (.tup [.str (Str.ofString "pop"), d0, d1])) = false from show decide (Str.ofString "pop" = "last") = false by decide +kernel]
  simp
theorem pn_pop {d0 d1 : Dt} : plNs n (.tup [.str (Str.ofString "pop"), d0, d1]) = 1 := by
  unfold plNs
  rw [in_pop_]
  simp <;> omega
theorem sz_pop {d0 d1 : Dt} : szS n (.tup [.str (Str.ofString "pop"), d0, d1]) = 1 := by
  unfold szS
  rw [in_pop_]
  simp <;> omega
end
end EE
set_option Elab.async false
set_option linter.all false
set_option maxRecDepth 100000
set_option maxHeartbeats 4000000
namespace EE
open PySem L2 Evl
section
variable {m k n : Nat} {e r d b : Dt}
theorem ls_0 : lastsD m (.tup []) = 0 := by cases m <;> rfl
theorem pn_0 : plN m (.tup []) = 0 := by cases m <;> rfl
theorem sz_0 : sizeD m (.tup []) = 0 := by cases m <;> rfl
/-- a small statement without lasts -/
structure Tame (r : Dt) : Prop where
  ls : ∀ m, lastS m r = 0
  pn : ∀ m, plNs m r ≤ 9
  sz : ∀ m, szS m r ≤ 3
theorem tame_exp (hr : r ∈ expRows e) : Tame r := by
  simp only [expRows, List.mem_cons, List.not_mem_nil, or_false] at hr
  rcases hr with rfl | rfl | rfl | rfl | rfl | rfl | rfl | rfl | rfl | rfl | rfl | rfl | rfl | rfl | rfl | rfl | rfl | rfl | rfl | rfl | rfl <;>
    exact ⟨fun m => by simp only [ls_set, ls_share, ls_pay, ls_ask, ls_if, ls_loop, ls_return, ls_raise, ls_try, ls_call, ls_apply, ls_send, ls_new, ls_keep, ls_get, ls_with, ls_push, ls_pop, ls_0], fun m => by simp only [pn_set, pn_share, pn_pay, pn_ask, pn_if, pn_loop, pn_return, pn_raise, pn_try, pn_call, pn_apply, pn_send, pn_new, pn_keep, pn_get, pn_with, pn_push, pn_pop, pn_0]; decide, fun m => by simp only [sz_set, sz_share, sz_pay, sz_ask, sz_if, sz_loop, sz_return, sz_raise, sz_try, sz_call, sz_apply, sz_send, sz_new, sz_keep, sz_get, sz_with, sz_push, sz_pop, sz_0]; decide⟩
theorem tame_nam (hr : r ∈ namRows e) : Tame r := by
  simp only [namRows, List.mem_cons, List.not_mem_nil, or_false] at hr
  rcases hr with rfl | rfl | rfl | rfl | rfl | rfl | rfl | rfl | rfl | rfl | rfl | rfl | rfl | rfl | rfl <;>
    exact ⟨fun m => by simp only [ls_set, ls_share, ls_pay, ls_ask, ls_if, ls_loop, ls_return, ls_raise, ls_try, ls_call, ls_apply, ls_send, ls_new, ls_keep, ls_get, ls_with, ls_push, ls_pop, ls_0], fun m => by simp only [pn_set, pn_share, pn_pay, pn_ask, pn_if, pn_loop, pn_return, pn_raise, pn_try, pn_call, pn_apply, pn_send, pn_new, pn_keep, pn_get, pn_with, pn_push, pn_pop, pn_0]; decide, fun m => by simp only [sz_set, sz_share, sz_pay, sz_ask, sz_if, sz_loop, sz_return, sz_raise, sz_try, sz_call, sz_apply, sz_send, sz_new, sz_keep, sz_get, sz_with, sz_push, sz_pop, sz_0]; decide⟩
theorem tame_pay : Tame (.tup [.str (Str.ofString "pay"), e]) := ⟨fun m => by rw [ls_pay], fun m => by rw [pn_pay]; decide, fun m => by rw [sz_pay]; decide⟩
theorem tame_ask : Tame (.tup [.str (Str.ofString "ask"), .str (Str.ofString "x"), e]) := ⟨fun m => by rw [ls_ask], fun m => by rw [pn_ask]; decide, fun m => by rw [sz_ask]; decide⟩
theorem tame_if : Tame (.tup [.str (Str.ofString "if"), e, .tup [], .tup []]) := ⟨fun m => by rw [ls_if, ls_0], fun m => by rw [pn_if, pn_0]; decide, fun m => by rw [sz_if, sz_0]; decide⟩
theorem one_ls {s : Dt} (h : Tame s) : lastsD m (.tup [s]) = 0 := by
  cases m with
  | zero => rfl
  | succ m => rw [lastsD_succ]; simp [h.ls]
theorem tame_loop : Tame (.tup [.str (Str.ofString "loop"), e, .tup [.tup [.str (Str.ofString "pay"), .int 1]]]) := by
  have h : Tame (.tup [.str (Str.ofString "pay"), .int 1]) := tame_pay
  refine ⟨fun m => by rw [ls_loop, one_ls h], fun m => ?_, fun m => ?_⟩
  · rw [pn_loop]
    cases m with
    | zero => decide
    | succ m => rw [plN_succ]; simp [pn_pay]
  · rw [sz_loop]
    cases m with
    | zero => decide
    | succ m => rw [sizeD_succ]; simp [sz_pay]
theorem tame_if2 : Tame (.tup [.str (Str.ofString "if"), e, .tup [.tup [.str (Str.ofString "set"), .str (Str.ofString "a"), .str (Str.ofString "a")]], .tup []]) := by
  have h : Tame (.tup [.str (Str.ofString "set"), .str (Str.ofString "a"), .str (Str.ofString "a")]) := ⟨fun m => by rw [ls_set], fun m => by rw [pn_set]; decide, fun m => by rw [sz_set]; decide⟩
  refine ⟨fun m => by rw [ls_if, one_ls h, ls_0], fun m => ?_, fun m => ?_⟩
  · rw [pn_if, pn_0]
    cases m with
    | zero => decide
    | succ m => rw [plN_succ]; simp [pn_set]
  · rw [sz_if, sz_0]
    cases m with
    | zero => decide
    | succ m => rw [sizeD_succ]; simp [sz_set]
/-! the block of g -/
theorem blk_ls (h : Tame d) : ∀ n m, lastsD m (blkN d n) = 0
  | 0, m => by
    cases m with
    | zero => rfl
    | succ m =>
      show lastsD (m + 1) (blk0 d) = 0
      unfold blk0
      rw [lastsD_succ]
      simp [h.ls, ls_pay]
  | n + 1, m => by
    cases m with
    | zero => rfl
    | succ m =>
      show lastsD (m + 1) (wrapB n (blkN d n)) = 0
      unfold wrapB
      rw [lastsD_succ]
      simp [ls_if, blk_ls h n m, one_ls (s := .tup [.str (Str.ofString "pay"), .int (n : Nat)]) tame_pay]
theorem one_pn : plN m (.tup [.tup [.str (Str.ofString "pay"), e]]) ≤ 1 := by
  cases m with
  | zero => exact Nat.zero_le _
  | succ m => rw [plN_succ]; simp [pn_pay]
theorem one_sz : sizeD m (.tup [.tup [.str (Str.ofString "pay"), e]]) ≤ 1 := by
  cases m with
  | zero => exact Nat.zero_le _
  | succ m => rw [sizeD_succ]; simp [sz_pay]
theorem blk_pn (h : Tame d) : ∀ n m, plN m (blkN d n) + 5 ≤ 2 ^ n * 16
  | 0, m => by
    cases m with
    | zero => show 0 + 5 ≤ 1 * 16; decide
    | succ m =>
      show plN (m + 1) (blk0 d) + 5 ≤ 1 * 16
      unfold blk0
      rw [plN_succ]
      have := h.pn m
      simp [pn_pay]
      omega
  | n + 1, m => by
    have hp : 2 ^ (n + 1) = 2 * 2 ^ n := by rw [Nat.pow_succ]; omega
    have h1 : 1 ≤ 2 ^ n := Nat.one_le_two_pow
    cases m with
    | zero => show 0 + 5 ≤ _; omega
    | succ m =>
      show plN (m + 1) (wrapB n (blkN d n)) + 5 ≤ _
      unfold wrapB
      rw [plN_succ]
      have i1 := blk_pn h n m
      have i2 := one_pn (m := m) (e := .int (n : Nat))
      simp only [List.map_cons, List.map_nil, List.sum_cons, List.sum_nil, pn_if]
      omega
theorem blk_sz (h : Tame d) : ∀ n m, sizeD m (blkN d n) ≤ 5 + 2 * n
  | 0, m => by
    cases m with
    | zero => show 0 ≤ 5; decide
    | succ m =>
      show sizeD (m + 1) (blk0 d) ≤ 5
      unfold blk0
      rw [sizeD_succ]
      have := h.sz m
      simp [sz_pay]
      omega
  | n + 1, m => by
    cases m with
    | zero => exact Nat.zero_le _
    | succ m =>
      show sizeD (m + 1) (wrapB n (blkN d n)) ≤ _
      unfold wrapB
      rw [sizeD_succ]
      have i1 := blk_sz h n m
      have i2 := one_sz (m := m) (e := .int (n : Nat))
      simp only [List.map_cons, List.map_nil, List.sum_cons, List.sum_nil, sz_if]
      omega
end
end EE
set_option Elab.async false
set_option linter.all false
set_option maxRecDepth 100000
set_option maxHeartbeats 4000000
namespace EE
open PySem L2 Evl
section
variable {m k n c : Nat} {e r d b : Dt}
/-! ### how many texts stand in data -/
def FewS (c : Nat) (d : Dt) : Prop := ∀ k, (strsD k d).length ≤ c
theorem few_str {z : Str} : FewS 1 (.str z) := fun k => by cases k <;> exact Nat.le_refl 1
theorem few_int {i : Int} : FewS 0 (.int i) := fun k => by cases k <;> exact Nat.le_refl 0
theorem few_le {c' : Nat} (h : FewS c d) (hc : c ≤ c') : FewS c' d := fun k => Nat.le_trans (h k) hc
theorem few_nil : FewS 0 (.tup []) := fun k => by cases k <;> exact Nat.le_refl 0
theorem few_cons {x : Dt} {xs : List Dt} {c1 c2 : Nat} (h : FewS c1 x) (t : FewS c2 (.tup xs)) : FewS (c1 + c2) (.tup (x :: xs)) := fun k => by
  cases k with
  | zero => exact Nat.zero_le _
  | succ k =>
    have h1 := h k
    have h2 := t (k + 1)
    show ((strsD k x) ++ (xs.map (strsD k)).flatten).length ≤ _
    rw [List.length_append]
    have h3 : ((xs.map (strsD k)).flatten).length ≤ c2 := h2
    omega
theorem few_nm (h : nmD d = true) : FewS 1 d := by cases d <;> first | exact few_str | cases h
theorem few_ex (h : exprD d = true) : FewS 1 d := by
  cases d with
  | tup xs =>
    replace h : (decide (xs.length = 1) && nmD (xs.headD .non)) = true := h
    rw [Bool.and_eq_true] at h
    match xs, of_decide_eq_true h.1, h.2 with
    | [x], _, h2 => exact few_cons (few_nm h2) few_nil
  | _ => exact few_nm h
theorem few_blk (h : FewS 30 d) : ∀ n, FewS (32 + 5 * n) (blkN d n)
  | 0 => few_le (few_cons (few_cons few_str (few_cons few_int few_nil)) (few_cons h (few_cons (few_cons few_str (few_cons few_int few_nil)) few_nil))) (by omega)
  | n + 1 => few_le (few_cons (few_cons few_str (few_cons (few_cons few_str (few_cons few_str (few_cons few_str few_nil))) (few_cons (few_blk h n) (few_cons (few_cons (few_cons few_str (few_cons few_int few_nil)) few_nil) few_nil)))) few_nil) (by omega)
/-- a right block of the law is one that Program takes -/
theorem right_bk (hn : n ≤ 4) (h : dueD n d = true) (ht : Tame d) (hs : FewS 30 d) : RightBk ⟨["a"], 2, blkN d n⟩ ∧ sizeD 6 (plF (Str.ofString "g", ⟨["a"], 2, blkN d n⟩)).2.blk ≤ 80000 := by
  have hw : wfB 6 (blkN d n) = true := ok_wf h
  have hl := blk_ls ht n 6
  have hp := blk_pn ht n 6
  have hz := blk_sz ht n 6
  have h2 : 2 ^ n ≤ 2 ^ 4 := Nat.pow_le_pow_right (by decide) hn
  refine ⟨⟨hw, dp_blk (n := 6) h, ?_, by show plN 6 (blkN d n) ≤ 39000; omega, by show lastsD 6 (blkN d n) ≤ _; rw [hl]; exact Nat.zero_le _⟩, ?_⟩
  · have : FewS (1 + (32 + 5 * n)) (fnD ⟨["a"], 2, blkN d n⟩) := few_le (few_cons (few_cons few_str few_nil) (few_cons (few_blk hs n) few_nil)) (by omega)
    have := this 18
    omega
  · show sizeD 6 (.tup (plB 6 (blkN d n) _).1) ≤ 80000
    rw [plB_id hw hl, wfB_tup hw]
    omega
theorem few_exp (h : exprD e = true) (hr : r ∈ expRows e) : FewS 30 r := by
  have he := few_ex h
  simp only [expRows, List.mem_cons, List.not_mem_nil, or_false] at hr
  rcases hr with rfl | rfl | rfl | rfl | rfl | rfl | rfl | rfl | rfl | rfl | rfl | rfl | rfl | rfl | rfl | rfl | rfl | rfl | rfl | rfl | rfl
  · exact few_le (few_cons few_str (few_cons few_str (few_cons he few_nil))) (by decide)
  · exact few_le (few_cons few_str (few_cons few_str (few_cons he few_nil))) (by decide)
  · exact few_le (few_cons few_str (few_cons he few_nil)) (by decide)
  · exact few_le (few_cons few_str (few_cons he few_nil)) (by decide)
  · exact few_le (few_cons few_str (few_cons few_str (few_cons he few_nil))) (by decide)
  · exact few_le (few_cons few_str (few_cons few_str (few_cons few_str (few_cons (few_cons he few_nil) few_nil)))) (by decide)
  · exact few_le (few_cons few_str (few_cons few_str (few_cons few_str (few_cons (few_cons few_str (few_cons (few_cons few_str few_nil) (few_cons he few_nil))) few_nil)))) (by decide)
  · exact few_le (few_cons few_str (few_cons few_str (few_cons few_str (few_cons (few_cons he (few_cons few_str few_nil)) few_nil)))) (by decide)
  · exact few_le (few_cons few_str (few_cons few_str (few_cons he (few_cons few_nil few_nil)))) (by decide)
  · exact few_le (few_cons few_str (few_cons few_str (few_cons (few_cons few_str few_nil) (few_cons (few_cons few_str (few_cons he few_nil)) few_nil)))) (by decide)
  · exact few_le (few_cons few_str (few_cons few_str (few_cons few_str (few_cons (few_cons few_str (few_cons few_str (few_cons few_str (few_cons he few_nil)))) few_nil)))) (by decide)
  · exact few_le (few_cons few_str (few_cons few_str (few_cons he (few_cons few_str (few_cons few_nil few_nil))))) (by decide)
  · exact few_le (few_cons few_str (few_cons few_str (few_cons few_str (few_cons few_str (few_cons (few_cons he few_nil) few_nil))))) (by decide)
  · exact few_le (few_cons few_str (few_cons few_str (few_cons he (few_cons few_str few_nil)))) (by decide)
  · exact few_le (few_cons few_str (few_cons few_str (few_cons he (few_cons few_str (few_cons (few_cons few_str few_nil) few_nil))))) (by decide)
  · exact few_le (few_cons few_str (few_cons few_str (few_cons (few_cons few_str few_nil) (few_cons few_str (few_cons he few_nil))))) (by decide)
  · exact few_le (few_cons few_str (few_cons few_str (few_cons he (few_cons few_str few_nil)))) (by decide)
  · exact few_le (few_cons few_str (few_cons few_str (few_cons (few_cons few_str few_nil) (few_cons he few_nil)))) (by decide)
  · exact few_le (few_cons few_str (few_cons (few_cons few_str (few_cons he (few_cons few_str few_nil))) (few_cons few_nil (few_cons few_nil few_nil)))) (by decide)
  · exact few_le (few_cons few_str (few_cons (few_cons few_str (few_cons he (few_cons few_str few_nil))) (few_cons few_nil few_nil))) (by decide)
  · exact few_le (few_cons few_str (few_cons (few_cons few_str (few_cons (few_cons few_str (few_cons (few_cons few_str (few_cons (few_cons few_str few_nil) (few_cons he few_nil))) few_nil)) few_nil)) (few_cons few_nil (few_cons few_nil few_nil)))) (by decide)
theorem few_nam (h : nmD e = true) (hr : r ∈ namRows e) : FewS 30 r := by
  have he := few_nm h
  simp only [namRows, List.mem_cons, List.not_mem_nil, or_false] at hr
  rcases hr with rfl | rfl | rfl | rfl | rfl | rfl | rfl | rfl | rfl | rfl | rfl | rfl | rfl | rfl | rfl
  · exact few_le (few_cons few_str (few_cons he (few_cons few_str few_nil))) (by decide)
  · exact few_le (few_cons few_str (few_cons he (few_cons (few_cons few_str (few_cons few_str few_nil)) few_nil))) (by decide)
  · exact few_le (few_cons few_str (few_cons few_nil (few_cons he (few_cons few_nil few_nil)))) (by decide)
  · exact few_le (few_cons few_str (few_cons he (few_cons few_str (few_cons few_nil few_nil)))) (by decide)
  · exact few_le (few_cons few_str (few_cons he (few_cons few_str (few_cons few_nil few_nil)))) (by decide)
  · exact few_le (few_cons few_str (few_cons he (few_cons few_str (few_cons few_str (few_cons few_nil few_nil))))) (by decide)
  · exact few_le (few_cons few_str (few_cons few_str (few_cons few_str (few_cons he (few_cons few_nil few_nil))))) (by decide)
  · exact few_le (few_cons few_str (few_cons he (few_cons few_str (few_cons few_nil few_nil)))) (by decide)
  · exact few_le (few_cons few_str (few_cons he (few_cons few_str (few_cons few_nil few_nil)))) (by decide)
  · exact few_le (few_cons few_str (few_cons he (few_cons few_str (few_cons few_str few_nil)))) (by decide)
  · exact few_le (few_cons few_str (few_cons few_str (few_cons few_str (few_cons he few_nil)))) (by decide)
  · exact few_le (few_cons few_str (few_cons he (few_cons few_str (few_cons few_str (few_cons few_str few_nil))))) (by decide)
  · exact few_le (few_cons few_str (few_cons few_str (few_cons few_str (few_cons he (few_cons few_str few_nil))))) (by decide)
  · exact few_le (few_cons few_str (few_cons he (few_cons few_str (few_cons few_str few_nil)))) (by decide)
  · exact few_le (few_cons few_str (few_cons he (few_cons few_str few_nil))) (by decide)
/-- the premises of the law's question, row by row -/
theorem bk_exp (hn : n ≤ 4) (hr : r ∈ expRows e) (h : dueD n r = true) : RightBk ⟨["a"], 2, blkN r n⟩ ∧ sizeD 6 (plF (Str.ofString "g", ⟨["a"], 2, blkN r n⟩)).2.blk ≤ 80000 :=
  right_bk hn h (tame_exp hr) (few_exp (by rw [← due_exp hn hr]; exact h) hr)
theorem bk_nam (hn : n ≤ 4) (hr : r ∈ namRows e) (h : dueD n r = true) : RightBk ⟨["a"], 2, blkN r n⟩ ∧ sizeD 6 (plF (Str.ofString "g", ⟨["a"], 2, blkN r n⟩)).2.blk ≤ 80000 :=
  right_bk hn h (tame_nam hr) (few_nam (by rw [← due_nam hn hr]; exact h) hr)
end
end EE
set_option Elab.async false
set_option linter.all false
set_option maxRecDepth 100000
set_option maxHeartbeats 1000000
namespace PySem.OddD
open PySem
section
variable {prog : Program} {w : World} {A : Around} {E : Value → Shared → Prop} {s : Shared} {d b : Addr}
/-- an exact dict of which no more is told -/
def DictObj (h : Heap) (d : Addr) : Prop := ∃ es n, h.get? d = some ({ cls := .type "dict", dict := none, data := .dict es n, slots := #[] } : Obj)
theorem dictObj_of {h : Heap} {o : Obj} {es : Array DictEntry} {ep : Nat} (ho : h.get? d = some o) (hc : o.ExactDict) (hd : o.data = .dict es ep) : DictObj h d := by
  obtain ⟨c, dd, dt, sl⟩ := o
  obtain ⟨h1, h2, h3⟩ := hc
  simp only at h1 h2 h3 hd
  subst h1 h2 h3 hd
  exact ⟨_, _, ho⟩
theorem keys_leaf {es : Array DictEntry} (hk : KeysOf (L2.mixKind prog w) es) : KeysOf (leafKind prog w) es := by
  intro e he
  obtain ⟨k, h1, h2⟩ := hk e he
  rcases L2.keyIs_shape h1 with ⟨i, t, rfl, ek⟩ | ⟨x, t, rfl, ek⟩
  · refine ⟨.num i, ?_, h2.trans rfl⟩
    rw [ek]
    exact decide_eq_true rfl
  · refine ⟨.text x, ?_, h2.trans rfl⟩
    rw [ek]
    show (x == x) = true
    simp
/-- d[k] = v, k a key that is carried by value -/
theorem set_leaf {k : Leaf} {key v : Value} {Q : Unit → Shared → Prop} (hkey : (leafKind prog w).is k key = true) {kvs : List (L2.Key × Value)} (hm : s.heap.DictOf (L2.mixKind prog w) d kvs) (hz : kvs.length ≤ sizeLine)
    (hQ : ∀ h' t', DictObj h' d → Heap.SameBut d s.heap h' → Q () { s with heap := h', toks := t' }) : wpAny (model prog w) A (setItem (.ref d) key v) Q E s := by
  have hmt := hm.typeIs
  obtain ⟨o, es, ep, ho, hc, hd, hk, hp, hn⟩ := hm
  have hes : es.size ≤ sizeLine := by
    have e1 := hp.length
    have e2 : es.toList.length = es.size := by simp
    omega
  unfold setItem
  try with_reducible refine wpAny_holding ?_
  refine wpAny_bind (wpAny_sequenceKey hmt (by decide) ?_)
  refine wpAny_bind (wpAny_callSpecial?_slot (name := Str.ofString "__setitem__") hmt slot_dict_setitem
    (wpAny_call_entry slot_dict_setitem hmt entry_dict_setitem ?_ (args_dict_setitem _ _ _)))
  show wpAny _ _ (Builtin.Dict.notOrdered "__setitem__" ⟨[.ref d, key, v], []⟩ >>= _) _ _ s
  refine wpAny_bind (wpAny_notOrdered_dict hmt ?_)
  show wpAny _ _ (dictSet d key v >>= _) _ _ s
  refine wpAny_bind ?_
  unfold dictSet
  try with_reducible refine wpAny_holding ?_
  refine wpAny_bind ((leafKind prog w).pyHash hkey ?_)
  unfold dictSetHashed
  try with_reducible refine wpAny_holding ?_
  refine wpAny_bind (wpAny_dictFind_of hkey ho hd (keys_leaf hk) ?_)
  cases hi : es.findIdx? fun e => (leafKind prog w).is k e.key with
  | some i =>
    exact wpAny_bind (wpAny_rule (wpAny_bind (wpAny_updateDict (s := { s with toks := s.toks + 1 }) ho hd (wpAny_point (wpAny_pure ⟨.none, rfl, wpAny_pure (hQ _ _ (dictObj_of (Heap.get?_update_self _ ho (Obj.isFreed_of_dict (Obj.data_mapDict hd _))) (hc.mapDict _) (Obj.data_mapDict hd _)) (Heap.SameBut.update ..))⟩)))))
  | none =>
    exact wpAny_bind (wpAny_rule (wpAny_updateDictKeys (hz := hes) (s := { s with toks := s.toks + 1 }) ho hd (wpAny_pure ⟨.none, rfl, wpAny_pure (hQ _ _ (dictObj_of (Heap.get?_update_self _ ho (Obj.isFreed_of_dict (Obj.data_mapDictKeys hd _))) (hc.mapDictKeys _) (Obj.data_mapDictKeys hd _)) (Heap.SameBut.update ..))⟩)))
/-- k of a dict of texts and ints, k a tuple: it is not there -/
theorem find_tup {ks : List L2.Key} {o : Obj} {es : Array DictEntry} {ep : Nat} {h : Int} {Q : Option Nat → Shared → Prop} (hu : A.units < cLine) (hkey : (tupleKind (L2.mixKind prog w)).is s.heap ks b) (ho : s.heap.get? d = some o) (hd : o.data = .dict es ep)
    (hk : KeysOf (L2.mixKind prog w) es) (hQ : Q none s) : wpAny (model prog w) A (dictFind d (.ref b) h) Q E s := by
  obtain ⟨ot, its, nt, ht1, ht2, ht3, _⟩ := id hkey
  have hIT : s.heap.IsTuple b its := by
    obtain ⟨ct, dt, dat, slt⟩ := ot
    simp only at ht2 ht3
    subst ht2 ht3
    exact ⟨⟨_, _, _, _⟩, ht1, rfl, nt, rfl⟩
  have hval : ∀ e ∈ es, (∃ i t, e.key = .int i t) ∨ ∃ x t, e.key = .str x t := fun e he => by
    obtain ⟨k, h1, _⟩ := hk e he
    rcases L2.keyIs_shape h1 with ⟨i, t, _, ek⟩ | ⟨x, t, _, ek⟩
    · exact .inl ⟨i, t, ek⟩
    · exact .inr ⟨x, t, ek⟩
  have hany : ¬ (es.any fun e => e.key == Value.ref b && e.hash != h) = true := by
    rw [← Array.any_toList, List.any_eq_true]
    rintro ⟨e, hin, hc⟩
    rcases hval e (Array.mem_toList_iff.mp hin) with ⟨i, t, ek⟩ | ⟨x, t, ek⟩ <;> (rw [ek] at hc; simp at hc)
  have hst : ∀ v ∈ (placesWithHash es.size (fun i => es[i]?.map (·.hash)) h).filterMap (fun i => es[i]?.map (·.key)), (∃ i t, v = .int i t) ∨ ∃ x t, v = .str x t := by
    intro v hv
    obtain ⟨i, _, hi⟩ := List.mem_filterMap.mp hv
    cases hei : es[i]? with
    | none => rw [hei] at hi; cases hi
    | some e =>
      rw [hei] at hi
      obtain rfl : e.key = v := by simpa using hi
      exact hval e (Array.mem_of_getElem? hei)
  unfold dictFind
  try with_reducible refine wpAny_holding ?_
  refine wpAny_bind (wpAny_dictEntries ho hd ?_)
  dsimp only
  rw [if_neg (show ¬ ((Value.ref b :: (placesWithHash es.size (fun i => es[i]?.map (·.hash)) h).filterMap (fun i => es[i]?.map (·.key))).all carriedByValue) = true by simp [carriedByValue])]
  rw [if_neg hany]
  have quiet : ∀ {Q : Bool → Shared → Prop} {stored : List Value}, (∀ v ∈ stored, (∃ i t, v = .int i t) ∨ ∃ x t, v = .str x t) → Q false s → wpAny (model prog w) A (tableMayTell (.ref b) stored) Q E s := fun {Q stored} hst hq => by
    unfold tableMayTell
    split
    · exact wpAny_pure hq
    · refine wpAny_bind ((tupleKind (L2.mixKind prog w)).quiet hkey ?_)
      simp only [Bool.not_true, Bool.false_eq_true, if_false]
      refine wpAny_bind ?_
      refine wpAny_forIn_list _ (fun rest r s' => s' = s ∧ r = (none, ()) ∧ ∀ v ∈ rest, (∃ i t, v = .int i t) ∨ ∃ x t, v = .str x t) _ ?_ ?_ _ _ ⟨rfl, rfl, hst⟩
      · rintro x rest r s' ⟨rfl, rfl, hr⟩
        have hx := hr x List.mem_cons_self
        have hrest := fun v hv => hr v (List.mem_cons_of_mem _ hv)
        rcases hx with ⟨i, t, rfl⟩ | ⟨x, t, rfl⟩
        · refine wpAny_bind (show wpAny _ _ (eqIsQuiet 8 (.int i t)) _ _ _ from wpAny_pure ?_)
          simp only [Bool.not_true, Bool.false_eq_true, if_false]
          exact wpAny_pure ⟨rfl, rfl, hrest⟩
        · refine wpAny_bind (show wpAny _ _ (eqIsQuiet 8 (.str x t)) _ _ _ from wpAny_pure ?_)
          simp only [Bool.not_true, Bool.false_eq_true, if_false]
          exact wpAny_pure ⟨rfl, rfl, hrest⟩
      · rintro r s' ⟨rfl, rfl, _⟩
        exact wpAny_pure hq
  have eqF : ∀ {Q : Bool → Shared → Prop} {v : Value}, ((∃ i t, v = .int i t) ∨ ∃ x t, v = .str x t) → Q false s → wpAny (model prog w) A (eqBool v (.ref b)) Q E s := fun {Q v} hv hq => by
    rcases hv with ⟨i, t, rfl⟩ | ⟨x, t, rfl⟩
    · exact SeqAt.EqAt.int_tuple i t hIT hu _ _ _ _ hq
    · exact SeqAt.EqAt.str_tuple x t hIT hu _ _ _ _ hq
  by_cases hone : (((placesWithHash es.size (fun i => es[i]?.map (·.hash)) h).filterMap (fun i => es[i]?.map (·.key))) == [Value.ref b]) = true <;>
  (first | rw [if_pos hone] | rw [if_neg hone]) <;> (first | refine wpAny_bind (wpAny_pure ?_) | refine wpAny_bind (quiet hst ?_)) <;> (
    rw [if_neg (by simp)]
    refine wpAny_bind ?_
    refine wpAny_forIn_list _ (fun rest bb s' => s' = s ∧ bb = (none, none)) _ ?_ ?_ _ _ ⟨rfl, rfl⟩
    · rintro x rest bb s' ⟨rfl, rfl⟩
      dsimp only
      cases hex : es[x]? with
      | none => exact wpAny_pure ⟨rfl, rfl⟩
      | some e =>
        dsimp only
        split
        · refine wpAny_bind (wpAny_dictEpoch ho hd (wpAny_bind (eqF (hval e (Array.mem_of_getElem? hex)) (wpAny_bind (wpAny_dictEpoch ho hd ?_)))))
          show wpAny _ _ (if (ep != ep) = true then _ else _) _ E _
          rw [if_neg (by simp)]
          rw [if_neg (by simp)]
          refine wpAny_bind (wpAny_rule ?_)
          rw [if_neg (by simp)]
          exact wpAny_pure ⟨rfl, rfl⟩
        · exact wpAny_pure ⟨rfl, rfl⟩
    · rintro bb s' ⟨rfl, rfl⟩
      exact wpAny_pure hQ)
/-- d[k] = v, k a tuple -/
theorem set_tup {ks : List L2.Key} {v : Value} {Q : Unit → Shared → Prop} (hu : A.units + 1 < cLine) (hkey : (tupleKind (L2.mixKind prog w)).is s.heap ks b) {kvs : List (L2.Key × Value)} (hm : s.heap.DictOf (L2.mixKind prog w) d kvs) (hz : kvs.length ≤ sizeLine)
    (hQ : ∀ h' t', DictObj h' d → Heap.SameBut d s.heap h' → Q () { s with heap := h', toks := t' }) : wpAny (model prog w) A (setItem (.ref d) (.ref b) v) Q E s := by
  have hmt := hm.typeIs
  obtain ⟨o, es, ep, ho, hc, hd, hk, hp, hn⟩ := hm
  have hes : es.size ≤ sizeLine := by
    have e1 := hp.length
    have e2 : es.toList.length = es.size := by simp
    omega
  unfold setItem
  try with_reducible refine wpAny_holding ?_
  refine wpAny_bind (wpAny_sequenceKey hmt (by decide) ?_)
  refine wpAny_bind (wpAny_callSpecial?_slot (name := Str.ofString "__setitem__") hmt slot_dict_setitem
    (wpAny_call_entry slot_dict_setitem hmt entry_dict_setitem ?_ (args_dict_setitem _ _ _)))
  show wpAny _ _ (Builtin.Dict.notOrdered "__setitem__" ⟨[.ref d, .ref b, v], []⟩ >>= _) _ _ s
  refine wpAny_bind (wpAny_notOrdered_dict hmt ?_)
  show wpAny _ _ (dictSet d (.ref b) v >>= _) _ _ s
  refine wpAny_bind ?_
  unfold dictSet
  try with_reducible refine wpAny_holding ?_
  refine wpAny_bind ((tupleKind (L2.mixKind prog w)).pyHash (A := A.in1) hu hkey ?_)
  unfold dictSetHashed
  try with_reducible refine wpAny_holding ?_
  refine wpAny_bind (find_tup (s := { s with toks := s.toks + (tupleKind (L2.mixKind prog w)).draws ks }) (A := A.in1) hu hkey ho hd hk ?_)
  exact wpAny_bind (wpAny_rule (wpAny_updateDictKeys (hz := hes) (s := { s with toks := s.toks + (tupleKind (L2.mixKind prog w)).draws ks }) ho hd (wpAny_pure ⟨.none, rfl, wpAny_pure (hQ _ _ (dictObj_of (Heap.get?_update_self _ ho (Obj.isFreed_of_dict (Obj.data_mapDictKeys hd _))) (hc.mapDictKeys _) (Obj.data_mapDictKeys hd _)) (Heap.SameBut.update ..))⟩)))
end
end PySem.OddD
namespace EE
open PySem L2 Evl
open C8 (Cal cal0 pe_c pe_gc fnScope_by)
/-- d[y] = v, y whatever may be a key -/
def OPut (K : PySem.W.Frag) (H : Hp) (a : Addr) (y v : V) (H' : Hp) : Prop := DPut H a y v H' ∨ ((∃ kvs, H a = some (.dK kvs)) ∧ (y = .non ∨ (∃ b, y = .bl b) ∨ ∃ (b : Addr) (ks : List Key), y = .ref b ∧ SqT K H b (ks.map kV)) ∧ H' = upd H a (oddO a))
theorem o_write {X : Cx} {pins : List (Addr × Obj)} {σ : L2.St} {H : Hp} {s : Shared} {a : Addr} {h' : Heap} {t' : Nat} {kvs : List (Key × V)} (I : Inv X pins σ H s) (e : H a = some (.dK kvs)) (hs : Heap.SameBut a s.heap h') (hd : OddD.DictObj h' a) :
    Inv X pins σ (upd H a (oddO a)) { s with heap := h', toks := t' } := by
  have he : ∃ q, h'.get? a = some q := let ⟨_, _, h⟩ := hd; ⟨_, h⟩
  exact d_write I (by rw [e]; exact True.intro) hs he ⟨hd, he, fun h1 h2 ⟨es, n, q⟩ k => ⟨es, n, k _ q⟩⟩
theorem key_ofT {X : Cx} {pins : List (Addr × Obj)} {σ : L2.St} {H : Hp} {s : Shared} {b : Addr} {ks : List Key} (I : Inv X pins σ H s) (h : SqT X.K H b (ks.map kV)) : (tupleKind (mixKind X.prog X.w)).is s.heap ks b := by
  obtain ⟨its, r, ⟨o, h1, h2, n, h3⟩, _⟩ := I.tuple h
  exact ⟨o, its.toArray, n, h1, h2, h3, by simpa using items_are r⟩
theorem o_setItem {X : Cx} {pins : List (Addr × Obj)} {σ : L2.St} {H H' : Hp} {s : Shared} {a : Addr} {y v : V} {u r : Value} {A : Around} {E : Value → Shared → Prop} {Q : Unit → Shared → Prop} (hu : A.units + 1 < cLine) (I : Inv X pins σ H s) (g : OPut X.K H a y v H') (ry : RelV y u) (rv : RelV v r) (h : ∀ s', Inv X pins σ H' s' → Q () s') :
    wpAny (model X.prog X.w) A (setItem (.ref a) u r) Q E s := by
  rcases g with g | ⟨⟨kvs, e⟩, hy, rfl⟩
  · exact d_setItem hu I g ry rv h
  · obtain ⟨z, hd, vs, rel, dd⟩ := dk_of I.hok e
    have hz : vs.length ≤ sizeLine := by rw [← rel.length]; exact z
    rcases hy with rfl | ⟨b, rfl⟩ | ⟨b, ks, rfl, hb⟩
    · cases (show u = Value.none from ry)
      exact OddD.set_leaf (k := .none) (rfl) dd hz fun h' t' h1 h2 => h _ (o_write I e h2 h1)
    · cases (show u = Value.bool b from ry)
      exact OddD.set_leaf (k := .num (if b then 1 else 0)) (by cases b <;> rfl) dd hz fun h' t' h1 h2 => h _ (o_write I e h2 h1)
    · cases (show u = Value.ref b from ry)
      exact OddD.set_tup hu (key_ofT I hb) dd hz fun h' t' h1 h2 => h _ (o_write I e h2 h1)
def sOPut (K : PySem.W.Frag) (td ty tv : TE) : TS := fun D σ H => tv σ H fun v H1 => td σ H1 fun x H2 => ty σ H2 fun y H3 => ∃ a H4, x = .ref a ∧ OPut K H3 a y v H4 ∧ D.nx σ H4
theorem ps_oput {X : Cx} {o i value : Expr} {pos pos' : Pos} {td ty tv : TE} (hu : X.A.units + 1 < cLine) (ho : PE X o td) (hi : PE X i ty) (hv : PE X value tv) (hs : swapsWith value (some (.Subscript o i pos')) pos.line X.env = pure false) :
    PS X (.Assign [.Subscript o i pos'] value pos) (sOPut X.K td ty tv) := by
  refine ⟨fun pins s σ H D I h => ?_⟩
  refine wpAny_Assign_Subscript (thn (hv.run pins s σ H _ I h) fun r s1 ⟨v, H1, I1, rv, q1⟩ => thn (ho.run pins s1 σ H1 _ I1 q1) fun u s2 ⟨x, H2, I2, rx, q2⟩ => thn (hi.run pins s2 σ H2 _ I2 q2) fun iv s3 ⟨y, H3, I3, ry, a, H4, ex, g, q3⟩ => ?_) hs
  subst ex
  obtain rfl : u = Value.ref a := rx
  exact o_setItem hu I3 g ry rv fun s4 I4 => ⟨σ, H4, I4, q3⟩
end EE
set_option Elab.async false
set_option linter.all false
set_option maxRecDepth 100000
set_option maxHeartbeats 4000000
namespace EE
open PySem L2 Evl
open C8 (Cal Mak cal0 mak0 pe_c pe_mk pe_gc fnScope_by)
section
variable {K : PySem.W.Frag} {σ : L2.St} {H H' : Hp} {ta tb tc te tv : TE} {t u : TA} {x y z v : V} {d : Dt} {ds es : List Dt}
/-- data, when the pot has given numbers -/
theorem sqT_pot {B : Hp} {p g a : Addr} {vs : List V} (hp : PotAt B H p g) (e : Ex (hid p g H) H') (h : SqT K H a vs) : SqT K H' a vs := by
  obtain ⟨xs, s1, c1, m1, q1, q2⟩ := hp.at_
  rcases h with (h | ⟨o, h⟩) | h
  · exact .inl (.inl (e _ _ (by rw [hid_ne (fun z => by subst z; rw [q1] at h; cases h) (fun z => by subst z; rw [q2] at h; cases h)]; exact h)))
  · exact .inl (.inr ⟨o, e _ _ (by rw [hid_ne (fun z => by subst z; rw [q1] at h; cases h) (fun z => by subst z; rw [q2] at h; cases h)]; exact h)⟩)
  · exact .inr h
mutual
theorem At.pot {B B' : Hp} {p g : Addr} (hp : PotAt B H p g) (e : Ex (hid p g H) H') (hp' : PotAt B' H' p g) : ∀ {v : V} {d : Dt}, At K H v d → At K H' v d
  | _, _, .non => .non
  | _, _, .bl b => .bl b
  | _, _, .int i => .int i
  | _, _, .str z h => .str z h
  | _, _, .tup h r hz => .tup (sqT_pot hp e h) (AtL.pot hp e hp' r) hz
  | _, _, .lst (a := a) h => by
    obtain ⟨xs, s1, c1, m1, q1, q2⟩ := hp'.at_
    by_cases e0 : a = p
    · subst e0; exact .lst (sq_of q1)
    by_cases e1 : a = g
    · subst e1; exact .lst (sq_of q2)
    rcases h with (h | ⟨o, h⟩) | h
    · exact .lst (.inl (.inl (e _ _ (by rw [hid_ne e0 e1]; exact h))))
    · exact .lst (.inl (.inr ⟨o, e _ _ (by rw [hid_ne e0 e1]; exact h)⟩))
    · exact .lst (.inr h)
  | _, _, .dic (a := a) h => by
    obtain ⟨xs, s1, c1, m1, q1, q2⟩ := hp.at_
    have e0 : a ≠ p := fun z => by subst z; rcases h with h | ⟨o, h⟩ <;> (rw [q1] at h; cases h)
    have e1 : a ≠ g := fun z => by subst z; rcases h with h | ⟨o, h⟩ <;> (rw [q2] at h; cases h)
    rcases h with h | ⟨o, h⟩
    · exact .dic (.inl (e _ _ (by rw [hid_ne e0 e1]; exact h)))
    · exact .dic (.inr ⟨o, e _ _ (by rw [hid_ne e0 e1]; exact h)⟩)
  | _, _, .odd (a := a) h => by
    obtain ⟨xs, s1, c1, m1, q1, q2⟩ := hp.at_
    have e0 : a ≠ p := fun z => by subst z; rcases h with h | ⟨o, h⟩ <;> (rw [q1] at h; cases h)
    have e1 : a ≠ g := fun z => by subst z; rcases h with h | ⟨o, h⟩ <;> (rw [q2] at h; cases h)
    rcases h with h | ⟨o, h⟩
    · exact .odd (.inl (e _ _ (by rw [hid_ne e0 e1]; exact h)))
    · exact .odd (.inr ⟨o, e _ _ (by rw [hid_ne e0 e1]; exact h)⟩)
theorem AtL.pot {B B' : Hp} {p g : Addr} (hp : PotAt B H p g) (e : Ex (hid p g H) H') (hp' : PotAt B' H' p g) : ∀ {vs : List V} {ds : List Dt}, AtL K H vs ds → AtL K H' vs ds
  | _, _, .nil => .nil
  | _, _, .cons h t => .cons (At.pot hp e hp' h) (AtL.pot hp e hp' t)
end
end
/-! data of which the dicts are told -/
inductive Tr where
  | non
  | bl (b : Bool)
  | int (i : Int)
  | str (z : Str)
  | tup (xs : List Tr)
  | lst
  | d0
  | d1 (z : Str) (t : Tr)
mutual
def Tr.dt : Tr → Dt
  | .non => .non
  | .bl b => .bl b
  | .int i => .int i
  | .str z => .str z
  | .tup xs => .tup (Tr.dts xs)
  | .lst => .oth
  | .d0 => .oth
  | .d1 _ _ => .oth
def Tr.dts : List Tr → List Dt
  | [] => []
  | t :: ts => t.dt :: Tr.dts ts
end
mutual
def Tr.deep : Tr → Nat
  | .tup xs => 1 + Tr.deeps xs
  | .d1 _ t => 1 + t.deep
  | .non => 1
  | .bl _ => 1
  | .int _ => 1
  | .str _ => 1
  | .lst => 1
  | .d0 => 1
def Tr.deeps : List Tr → Nat
  | [] => 0
  | t :: ts => max t.deep (Tr.deeps ts)
end
mutual
def Tr.sz : Tr → Nat
  | .tup xs => 1 + Tr.szs xs
  | .d1 _ t => 1 + t.sz
  | .non => 1
  | .bl _ => 1
  | .int _ => 1
  | .str _ => 1
  | .lst => 1
  | .d0 => 1
def Tr.szs : List Tr → Nat
  | [] => 0
  | t :: ts => t.sz + Tr.szs ts
end
mutual
theorem nodes_sz : ∀ t : Tr, t.dt.nodes ≤ t.sz
  | .tup xs => by rw [Tr.dt, Tr.sz, nodes_tup]; have := nodesL_szs xs; omega
  | .d1 _ t => by rw [Tr.dt, Tr.sz, Dt.nodes]; omega
  | .non => by rw [Tr.dt, Tr.sz, Dt.nodes]; omega
  | .bl _ => by rw [Tr.dt, Tr.sz, Dt.nodes]; omega
  | .int _ => by rw [Tr.dt, Tr.sz, Dt.nodes]; omega
  | .str _ => by rw [Tr.dt, Tr.sz, Dt.nodes]; omega
  | .lst => by rw [Tr.dt, Tr.sz, Dt.nodes]; omega
  | .d0 => by rw [Tr.dt, Tr.sz, Dt.nodes]; omega
theorem nodesL_szs : ∀ ts : List Tr, Dt.nodesL (Tr.dts ts) ≤ Tr.szs ts
  | [] => by rw [Tr.dts, Tr.szs, Dt.nodesL]; omega
  | t :: ts => by rw [Tr.dts, Tr.szs, Dt.nodesL]; have := nodes_sz t; have := nodesL_szs ts; omega
end
mutual
theorem deep_sz : ∀ t : Tr, t.deep ≤ t.sz
  | .tup xs => by rw [Tr.deep, Tr.sz]; have := deeps_szs xs; omega
  | .d1 _ t => by rw [Tr.deep, Tr.sz]; have := deep_sz t; omega
  | .non => by rw [Tr.deep, Tr.sz]; omega
  | .bl _ => by rw [Tr.deep, Tr.sz]; omega
  | .int _ => by rw [Tr.deep, Tr.sz]; omega
  | .str _ => by rw [Tr.deep, Tr.sz]; omega
  | .lst => by rw [Tr.deep, Tr.sz]; omega
  | .d0 => by rw [Tr.deep, Tr.sz]; omega
theorem deeps_szs : ∀ ts : List Tr, Tr.deeps ts ≤ Tr.szs ts
  | [] => by rw [Tr.deeps, Tr.szs]; omega
  | t :: ts => by rw [Tr.deeps, Tr.szs]; have := deep_sz t; have := deeps_szs ts; omega
end
theorem szs_app : ∀ {xs ys : List Tr}, Tr.szs (xs ++ ys) = Tr.szs xs + Tr.szs ys
  | [], ys => by rw [List.nil_append, show Tr.szs [] = 0 by rw [Tr.szs], Nat.zero_add]
  | x :: xs, ys => by rw [List.cons_append, Tr.szs, Tr.szs, szs_app (xs := xs), Nat.add_assoc]
theorem sz_pos (t : Tr) : 1 ≤ t.sz := by
  cases t <;> rw [Tr.sz] <;> omega
theorem szs_len : ∀ {xs : List Tr}, xs.length ≤ Tr.szs xs
  | [] => Nat.zero_le _
  | x :: xs => by
    have := sz_pos x
    have := szs_len (xs := xs)
    rw [List.length_cons, Tr.szs]
    omega
theorem szs_at {xs : List Tr} {i : Nat} {x : Tr} (h : xs[i]? = some x) : Tr.szs (xs.take i) + (x.sz + Tr.szs (xs.drop (i + 1))) = Tr.szs xs := by
  have hi := (List.getElem?_eq_some_iff.mp h).1
  have e : xs = xs.take i ++ x :: xs.drop (i + 1) := by
    have := List.take_append_drop i xs
    rw [List.drop_eq_getElem_cons hi, (List.getElem?_eq_some_iff.mp h).2] at this
    exact this.symm
  have := szs_app (xs := xs.take i) (ys := x :: xs.drop (i + 1))
  rw [← e] at this
  rw [this, Tr.szs]
theorem dts_map : ∀ {ts : List Tr}, Tr.dts ts = ts.map Tr.dt
  | [] => by rw [Tr.dts]; rfl
  | t :: ts => by rw [Tr.dts, dts_map (ts := ts)]; rfl
theorem deeps_mem {t : Tr} : ∀ {ts : List Tr}, t ∈ ts → t.deep ≤ Tr.deeps ts
  | [], h => by cases h
  | u :: ts, h => by
    rw [Tr.deeps]
    rcases List.mem_cons.mp h with rfl | h
    · omega
    · have := deeps_mem h
      omega
mutual
inductive AtX (K : PySem.W.Frag) (H : Hp) : V → Tr → Prop
  | non : AtX K H .non .non
  | bl (b : Bool) : AtX K H (.bl b) (.bl b)
  | int (i : Int) : AtX K H (.int i) (.int i)
  | str (z : Str) (h : z.length ≤ sizeLine) : AtX K H (.str z) (.str z)
  | tup {a : Addr} {vs : List V} {xs : List Tr} (h : SqT K H a vs) (r : AtXL K H vs xs) (hz : vs.length ≤ 40000) : AtX K H (.ref a) (.tup xs)
  | lst {a : Addr} {vs : List V} (h : SqL K H a vs) : AtX K H (.ref a) .lst
  | d0 {a : Addr} (h : H a = some (.dK [])) : AtX K H (.ref a) .d0
  | d1 {a : Addr} {z : Str} {w : V} {t : Tr} (h : H a = some (.dK [(Sum.inr z, w)])) (r : AtX K H w t) : AtX K H (.ref a) (.d1 z t)
inductive AtXL (K : PySem.W.Frag) (H : Hp) : List V → List Tr → Prop
  | nil : AtXL K H [] []
  | cons {v : V} {vs : List V} {d : Tr} {ds : List Tr} (h : AtX K H v d) (t : AtXL K H vs ds) : AtXL K H (v :: vs) (d :: ds)
end
section
variable {K : PySem.W.Frag} {σ : L2.St} {H H' : Hp} {ta tb tc te tv : TE} {t u : TA} {x y z v : V} {d : Tr} {ds es : List Tr}
mutual
theorem AtX.ex (e : Ex H H') : ∀ {v : V} {d : Tr}, AtX K H v d → AtX K H' v d
  | _, _, .non => .non
  | _, _, .bl b => .bl b
  | _, _, .int i => .int i
  | _, _, .str z h => .str z h
  | _, _, .tup h r hz => .tup (ex_t e h) (AtXL.ex e r) hz
  | _, _, .lst h => .lst (ex_l e h)
  | _, _, .d0 h => .d0 (e _ _ h)
  | _, _, .d1 h r => .d1 (e _ _ h) (AtX.ex e r)
theorem AtXL.ex (e : Ex H H') : ∀ {vs : List V} {ds : List Tr}, AtXL K H vs ds → AtXL K H' vs ds
  | _, _, .nil => .nil
  | _, _, .cons h t => .cons (AtX.ex e h) (AtXL.ex e t)
end
mutual
theorem AtX.at : ∀ {v : V} {d : Tr}, AtX K H v d → At K H v d.dt
  | _, _, .non => by rw [Tr.dt]; exact .non
  | _, _, .bl b => by rw [Tr.dt]; exact .bl b
  | _, _, .int i => by rw [Tr.dt]; exact .int i
  | _, _, .str z h => by rw [Tr.dt]; exact .str z h
  | _, _, .tup h r hz => by rw [Tr.dt]; exact .tup h (AtXL.at r) hz
  | _, _, .lst h => by rw [Tr.dt]; exact .lst h
  | _, _, .d0 h => by rw [Tr.dt]; exact .dic (.inl h)
  | _, _, .d1 h r => by rw [Tr.dt]; exact .dic (.inl h)
theorem AtXL.at : ∀ {vs : List V} {ds : List Tr}, AtXL K H vs ds → AtL K H vs (Tr.dts ds)
  | _, _, .nil => by rw [Tr.dts]; exact .nil
  | _, _, .cons h t => by rw [Tr.dts]; exact .cons (AtX.at h) (AtXL.at t)
end
theorem dK_pot {B : Hp} {p g a : Addr} {kvs : List (Key × V)} (hp : PotAt B H p g) (e : Ex (hid p g H) H') (h : H a = some (.dK kvs)) : H' a = some (.dK kvs) := by
  obtain ⟨xs, s1, c1, m1, q1, q2⟩ := hp.at_
  have e0 : a ≠ p := fun z => by subst z; rw [q1] at h; cases h
  have e1 : a ≠ g := fun z => by subst z; rw [q2] at h; cases h
  exact e _ _ (by rw [hid_ne e0 e1]; exact h)
mutual
theorem AtX.pot {B B' : Hp} {p g : Addr} (hp : PotAt B H p g) (e : Ex (hid p g H) H') (hp' : PotAt B' H' p g) : ∀ {v : V} {d : Tr}, AtX K H v d → AtX K H' v d
  | _, _, .non => .non
  | _, _, .bl b => .bl b
  | _, _, .int i => .int i
  | _, _, .str z h => .str z h
  | _, _, .tup h r hz => .tup (sqT_pot hp e h) (AtXL.pot hp e hp' r) hz
  | _, _, .lst (a := a) h => by
    obtain ⟨xs, s1, c1, m1, q1, q2⟩ := hp'.at_
    by_cases e0 : a = p
    · subst e0; exact .lst (sq_of q1)
    by_cases e1 : a = g
    · subst e1; exact .lst (sq_of q2)
    rcases h with (h | ⟨o, h⟩) | h
    · exact .lst (.inl (.inl (e _ _ (by rw [hid_ne e0 e1]; exact h))))
    · exact .lst (.inl (.inr ⟨o, e _ _ (by rw [hid_ne e0 e1]; exact h)⟩))
    · exact .lst (.inr h)
  | _, _, .d0 h => .d0 (dK_pot hp e h)
  | _, _, .d1 h r => .d1 (dK_pot hp e h) (AtX.pot hp e hp' r)
theorem AtXL.pot {B B' : Hp} {p g : Addr} (hp : PotAt B H p g) (e : Ex (hid p g H) H') (hp' : PotAt B' H' p g) : ∀ {vs : List V} {ds : List Tr}, AtXL K H vs ds → AtXL K H' vs ds
  | _, _, .nil => .nil
  | _, _, .cons h t => .cons (AtX.pot hp e hp' h) (AtXL.pot hp e hp' t)
end
theorem AtXL.len : ∀ {vs : List V} {ds : List Tr}, AtXL K H vs ds → vs.length = ds.length
  | _, _, .nil => rfl
  | _, _, .cons _ t => congrArg (· + 1) (AtXL.len t)
theorem AtXL.get : ∀ {vs : List V} {ds : List Tr} {i : Nat} {v : V}, AtXL K H vs ds → vs[i]? = some v → ∃ d, ds[i]? = some d ∧ AtX K H v d
  | _, _, 0, _, .cons h _, e => by simp at e; subst e; exact ⟨_, rfl, h⟩
  | _, _, i + 1, _, .cons _ t, e => by simp at e; simpa using AtXL.get t e
  | _, _, _, _, .nil, e => by simp at e
theorem AtXL.app : ∀ {vs ws : List V} {ds es : List Tr}, AtXL K H vs ds → AtXL K H ws es → AtXL K H (vs ++ ws) (ds ++ es)
  | _, _, _, _, .nil, h => h
  | _, _, _, _, .cons h t, g => .cons h (AtXL.app t g)
/-- some value that is d -/
def DxE (K : PySem.W.Frag) (te : TE) (σ : L2.St) (H : Hp) (d : Tr) : Prop := ∀ H1, Ex H H1 → ∀ Q : VK, (∀ v H2, Ex H1 H2 → AtX K H2 v d → Q v H2) → te σ H1 Q
def DxA (K : PySem.W.Frag) (t : TA) (σ : L2.St) (H : Hp) (ds : List Tr) : Prop := ∀ H1, Ex H H1 → ∀ Q : List V → Hp → Prop, (∀ vs H2, Ex H1 H2 → AtXL K H2 vs ds → Q vs H2) → t σ H1 Q
def DxL (K : PySem.W.Frag) (te : TE) (σ : L2.St) (H : Hp) (ds : List Tr) : Prop := ∀ H1, Ex H H1 → ∀ Q : VK, (∀ p ws H2, H1 p = none → Ex H1 H2 → H2 p = some (.lst ws) → AtXL K H2 ws ds → Q (.ref p) H2) → te σ H1 Q
theorem dx_of (h : Ev te σ H v) (ha : AtX K H v d) : DxE K te σ H d := fun H1 e Q q => h H1 e _ fun H2 e2 => q v H2 e2 (ha.ex (e.trans e2))
theorem dx_str {z : Str} (h : z.length ≤ sizeLine) : DxE K (tC (.str z)) σ H (.str z) := dx_of ev_c (.str z h)
theorem dx_int {i : Int} : DxE K (tC (.int i)) σ H (.int i) := dx_of ev_c (.int i)
theorem dx_nil : DxA K tNil σ H [] := fun H1 e Q q => q [] H1 (Ex.refl H1) .nil
theorem dx_cons (h : DxE K te σ H d) (t1 : DxA K t σ H ds) : DxA K (tCons te t) σ H (d :: ds) := fun H1 e Q q =>
  h H1 e _ fun v H2 e2 a => t1 H2 (e.trans e2) _ fun vs H3 e3 as => q (v :: vs) H3 (e2.trans e3) (.cons (a.ex e3) as)
theorem dx_tup (h : DxA K t σ H ds) (hz : ds.length ≤ 40000) : DxE K (tTup t) σ H (.tup ds) := fun H1 e Q q =>
  h H1 e _ fun vs H2 e2 a => ⟨by rw [a.len]; have : 40000 ≤ sizeLine := by decide
                                 omega, fun p hp => q _ _ (e2.trans (Ex.new hp)) (.tup (st_of upd_same) (a.ex (Ex.new hp)) (by rw [a.len]; exact hz))⟩
theorem dxl_lst (h : DxA K t σ H ds) (hz : ds.length ≤ 40000) : DxL K (tLst t) σ H ds := fun H1 e Q q =>
  h H1 e _ fun vs H2 e2 a => ⟨by rw [a.len]; have : 40000 ≤ sizeLine := by decide
                                 omega, fun p hp => q p vs _ (fresh_back e2 hp) (e2.trans (Ex.new hp)) upd_same (a.ex (Ex.new hp))⟩
theorem q_asgDX {D : Ends} {tz : TS} {i : Nat} (h : DxL K te σ H ds) (k : ∀ p ws H1, H p = none → Ex H H1 → H1 p = some (.lst ws) → AtXL K H1 ws ds → tz D (σ.set i (some (.ref p))) H1) : tSeq (tAsg te (gName i)) tz D σ H := h H (Ex.refl H) _ fun p ws H1 hp e h1 a => k p ws H1 hp e h1 a
theorem dx_non : DxE K (tC .non) σ H .non := dx_of ev_c .non
theorem dx_bl {b : Bool} : DxE K (tC (.bl b)) σ H (.bl b) := dx_of ev_c (.bl b)
theorem dx_lst (h : DxA K t σ H ds) (hz : ds.length ≤ 40000) : DxE K (tLst t) σ H .lst := fun H1 e Q q => dxl_lst h hz H1 e Q fun p ws H2 _ e2 h2 _ => q _ H2 e2 (.lst (sq_of h2))
theorem dx_d0 : DxE K tDNewK σ H .d0 := fun H1 e Q q => fun p hp => q _ _ (Ex.new hp) (.d0 upd_same)
theorem dx_d1 {k : Str} {w : V} (ha : ∀ G, AtX K G w d) : DxE K (tDisp [(tC (.str k), tC w)]) σ H (.d1 k d) := fun H1 e Q q => fun p hp =>
  ⟨upd_same, [(Sum.inr k, w)], rfl, (show 1 ≤ 15 by decide), q _ _ ((Ex.new hp).mut hp) (.d1 upd_same (ha _))⟩
theorem dx_neg {i : Int} : DxE K (tUn (rU fun i => V.int (-i)) (tC (V.int i))) σ H (.int (-i)) := fun H1 e Q q => ⟨i, rfl, q _ H1 (Ex.refl H1) (.int _)⟩
theorem dx_pow : DxE K (tOp (rI CPow fun i j => V.int (i ^ j.toNat)) (tC (V.int 10)) (tC (V.int 25))) σ H (.int (10 ^ (25 : Int).toNat)) := fun H1 e Q q => ⟨10, 25, rfl, rfl, by unfold CPow; decide, q _ H1 (Ex.refl H1) (.int _)⟩
/-- a list that stands -/
def DxM (K : PySem.W.Frag) (te : TE) (σ : L2.St) (H : Hp) (ds : List Tr) : Prop := ∀ H1, Ex H H1 → ∀ Q : VK, (∀ p ws H2, Ex H1 H2 → H2 p = some (.lst ws) → AtXL K H2 ws ds → Q (.ref p) H2) → te σ H1 Q
theorem dxm_of (h : DxL K te σ H ds) : DxM K te σ H ds := fun H1 e Q q => h H1 e Q fun p ws H2 _ e2 h2 a => q p ws H2 e2 h2 a
theorem dxm_var {i : Nat} {l : Addr} {ws : List V} (h : σ[i]? = some (some (.ref l))) (hl : H l = some (.lst ws)) (a : AtXL K H ws ds) : DxM K (tVar i) σ H ds := fun H1 e Q q => ⟨_, h, q l ws H1 (Ex.refl H1) (e _ _ hl) (a.ex e)⟩
theorem dxl_cat (h1 : DxM K ta σ H ds) (h2 : DxM K tb σ H es) (hz : ds.length + es.length ≤ 100000) : DxL K (tOp rCat ta tb) σ H (ds ++ es) := fun H1 e Q q =>
  h1 H1 e _ fun p ws H2 e2 g2 a2 => h2 H2 (e.trans e2) _ fun p' ws' H3 e3 g3 a3 => ⟨p, p', ws, ws', rfl, rfl, e3 _ _ g2, g3, sz_of (by rw [a2.len, a3.len]; exact hz), fun r hr => q r _ _ (fresh_back (e2.trans e3) hr) ((e2.trans e3).trans (Ex.new hr)) upd_same ((AtXL.app (a2.ex e3) a3).ex (Ex.new hr))⟩
end
end EE
set_option Elab.async false
set_option linter.all false
set_option maxRecDepth 100000
set_option maxHeartbeats 4000000
namespace EE
open PySem L2 Evl
theorem right_cs10 : Right cs10 := by
  have okc : OkNm (Str.ofString "c") := ok1 (by decide +kernel)
  have okm : OkNm (Str.ofString "m") := ok1 (by decide +kernel)
  have okg : OkNm (Str.ofString "g") := ok1 (by decide +kernel)
  refine ⟨by decide, fun c hc => ?_, by show ([Str.ofString "c"] : List Str).Nodup; decide, fun c hc => ?_, fun c hc => ?_⟩
  · rw [List.mem_singleton.mp hc]; exact ⟨okc, by decide⟩
  · rw [List.mem_singleton.mp hc]
    exact ⟨fun q h => (nomatch h), ⟨by show (1 : Int) ≤ 1; decide, by show (1 : Int) ≤ 2; decide⟩, ⟨fun z hz => (List.not_mem_nil hz).elim, List.nodup_nil, Nat.zero_le _⟩, ⟨fun p hp => by rw [List.mem_singleton.mp hp]; exact ⟨okm, okg⟩, by show 1 ≤ 300; decide⟩⟩
  · rw [List.mem_singleton.mp hc]
    exact ⟨by decide, by decide, by decide⟩
end EE
namespace EE
open PySem L2 Evl
open C8 (Cal Mak cal0 mak0 pe_c pe_mk pe_gc fnScope_by)
/-! ### expressions that are drawn; `O`: what is told of the odd ones -/
section
variable {P : Program} {w : World} {K : PySem.W.Frag} {mg : Str → Option Value} {base : Heap}
/-- data is drawn -/
def sp_draw (K : PySem.W.Frag) (m : Nat) : Sp := fun vs H Q _ => ∃ p g B, vs = [.ref p] ∧ PotAt B H p g ∧ ∀ v d H2, PotAt B H2 p g → AtX K H2 v d → d.sz ≤ m → Q v H2
theorem r_draw {m : Nat} {σ : L2.St} {B H : Hp} {i : Nat} {p g : Addr} {E : XK} {Q : VK} (hv : σ[i]? = some (some (.ref p))) (hp : PotAt B H p g) (k : ∀ v d H2, PotAt B H2 p g → Ex (hid p g H) H2 → AtX K H2 v d → d.sz ≤ m → Q v H2) :
    tCall (sp_draw K m) [] E (tCons (tVar i) tNil) σ H Q := ⟨_, hv, p, g, hid p g H, rfl, hp.wide, fun v d H2 q a => k v d H2 (q.back hp.sub) q.ex a⟩
theorem r_nameD {σ : L2.St} {B H : Hp} {i : Nat} {p g : Addr} {E : XK} {Q : VK} (hv : σ[i]? = some (some (.ref p))) (hp : PotAt B H p g) (k : ∀ z H2, OkNm z → PotAt B H2 p g → Ex (hid p g H) H2 → Q (.str z) H2) :
    tCall sp_name [] E (tCons (tVar i) tNil) σ H Q := ⟨_, hv, p, g, hid p g H, rfl, hp.wide, fun z H2 h q => k z H2 h (q.back hp.sub) q.ex⟩
theorem sc_drawn_e : FnScope N__law_drawn_expression P__law_drawn_expression (C8.fnScope s__law_drawn_expression) := fnScope_by (by decide +kernel)
theorem ok_drawn_e (T : TxtK w K mg) {k0 : Nat} (O : Cal P w K mg base k0 "_law_odd" (sp_draw K 5) []) : Cal P w K mg base (k0 + 3) "_law_drawn_expression" (sp_draw K 6) [] := by
  refine mk_cal T.d_drawn_expression sc_drawn_e (fun vs H Q E h => ?_) (fun f cdv A outer s H vs Q E hr h => ?_)
  · obtain ⟨_, _, _, rfl, _⟩ := h
    rfl
  · obtain ⟨p, g, B, rfl, hp, k⟩ := h
    have nd := sc_drawn_e.nd
    refine ⟨_, pss_cons (ps_set (i := 1) nd rfl (Or.inl rfl) (pe_c (ok_take T) hr (by omega) (by rfl) (pa_cons (pv 0) (pa_cons pe_int pa_nil))))
      (pss_cons (ps_set (i := 2) nd rfl (Or.inl rfl) (pe_c (ok_name T) hr (by omega) (by rfl) (pa_cons (pv 0) pa_nil)))
      (pss_cons (ps_if (pt_cmpR op_eq (pv 1) pe_int (nomark _)) (pss_one (ps_ret (pe_c O hr (by omega) (by rfl) (pa_cons (pv 0) pa_nil)))) pss_nil)
      (pss_cons (ps_if (pt_cmpR op_eq (pv 1) pe_int (nomark _)) (pss_one (ps_ret (pe_tup (pa_cons (pv 2) pa_nil)))) pss_nil)
      (pss_cons (ps_if (pt_cmpR op_eq (pv 1) pe_int (nomark _)) (pss_one (ps_ret (pe_tup (pa_cons (pe_c O hr (by omega) (by rfl) (pa_cons (pv 0) pa_nil)) pa_nil)))) pss_nil)
      (pss_one (ps_ret (pv 2))))))), ?_⟩
    refine r_take rfl hp (by decide) (by decide) fun r H1 r0 r1 p1 x1 => ?_
    refine r_nameD rfl p1 fun z H2 hz p2 x2 => ?_
    have dec : ∀ {i : Int}, V.bl (decide (V.int r = V.int i)) = V.bl (decide (r = i)) := fun {i} => by congr 1; exact decide_eq_decide.mpr ⟨fun h => by injection h, fun h => by rw [h]⟩
    refine q_when (b := decide (r = 0)) (et_test (ev_is (ev_op (ev_var (v := .int r) rfl) (ev_c (v := .int 0)) (rv_eq rfl)) dec)) (fun _ H3 e3 => ?_) (fun _ H3 e3 => ?_)
    · exact r_draw rfl (p2.mono e3) fun v d H4 p4 x4 a4 n4 => k v d H4 p4 a4 (by omega)
    refine q_when (b := decide (r = 1)) (et_test (ev_is (ev_op (ev_var (v := .int r) rfl) (ev_c (v := .int 1)) (rv_eq rfl)) dec)) (fun _ H4 e4 => ?_) (fun _ H4 e4 => ?_)
    · exact ⟨_, rfl, show 1 ≤ sizeLine by decide, fun q hq => k _ (.tup [.str z]) _ (((p2.mono e3).mono e4).mono (Ex.new hq)) (.tup (st_of upd_same) (.cons (.str z hz.2) .nil) (show 1 ≤ 40000 by decide)) (by simp only [Tr.sz, Tr.szs]; omega)⟩
    refine q_when (b := decide (r = 2)) (et_test (ev_is (ev_op (ev_var (v := .int r) rfl) (ev_c (v := .int 2)) (rv_eq rfl)) dec)) (fun _ H5 e5 => ?_) (fun _ H5 e5 => ?_)
    · exact r_draw rfl (((p2.mono e3).mono e4).mono e5) fun v d H6 p6 x6 a6 n6 => ⟨show 1 ≤ sizeLine by decide, fun q hq => k _ (.tup [d]) _ (p6.mono (Ex.new hq)) (.tup (st_of upd_same) (.cons (a6.ex (Ex.new hq)) .nil) (show 1 ≤ 40000 by decide)) (by simp only [Tr.sz, Tr.szs]; omega)⟩
    exact s_ret (v := .str z) (ev_var rfl) fun H6 e6 => k _ (.str z) H6 ((((p2.mono e3).mono e4).mono e5).mono e6) (.str z hz.2) (by simp only [Tr.sz, Tr.szs]; omega)
end
end EE
set_option Elab.async false
set_option linter.all false
set_option maxRecDepth 100000
set_option maxHeartbeats 4000000
namespace EE
open PySem L2 Evl
open C8 (Cal Mak cal0 mak0 pe_c pe_mk pe_gc fnScope_by)
abbrev kinds7 : List Str := ["word", "row", "kept", "c", "d", "thing", "same"]
theorem kinds7_at {r : Int} (h0 : 0 ≤ r) (h1 : r < 7) : ∃ z, atI (kinds7.map V.str) r = some (.str z) ∧ z.length ≤ sizeLine := by
  have hl : r.toNat < kinds7.length := by show r.toNat < 7; omega
  have e : (kinds7.all fun z => decide (z.length ≤ 100)) = true := by decide +kernel
  exact ⟨kinds7[r.toNat], L2.at_of (j := r.toNat) (by omega) (by rw [List.getElem?_map, List.getElem?_eq_getElem hl]; rfl), sz_of (by have := of_decide_eq_true (List.all_eq_true.mp e _ (List.getElem_mem hl)); omega)⟩
section
variable {P : Program} {w : World} {K : PySem.W.Frag} {mg : Str → Option Value} {base : Heap}
def sp_dt (K : PySem.W.Frag) (n : Nat) : Sp := fun vs H Q _ => ∃ p g B, vs = [.ref p, .int (n : Nat)] ∧ PotAt B H p g ∧ ∀ v d H2, PotAt B H2 p g → AtX K H2 v d → d.sz ≤ 10 + 2 * n → Q v H2
def sp_dtU (K : PySem.W.Frag) (N : Nat) : Sp := fun vs H Q E => ∃ n, n ≤ N ∧ sp_dt K n vs H Q E
theorem sc_drawn_t : FnScope N__law_drawn_test P__law_drawn_test (C8.fnScope s__law_drawn_test) := fnScope_by (by decide +kernel)
theorem ok_drawn_t (T : TxtK w K mg) {k0 : Nat} (O : Cal P w K mg base k0 "_law_odd" (sp_draw K 5) []) : ∀ N, Cal P w K mg base (k0 + 4 + N) "_law_drawn_test" (sp_dtU K N) []
  | 0 => by
    refine mk_cal T.d_drawn_test sc_drawn_t (fun vs H Q E h => ?_) (fun f cdv A outer s H vs Q E hr h => ?_)
    · obtain ⟨_, _, _, _, _, rfl, _⟩ := h
      rfl
    · obtain ⟨n, hn, p, g, B, rfl, hp, k⟩ := h
      obtain rfl : n = 0 := by omega
      have nd := sc_drawn_t.nd
      have DE := ok_drawn_e T O
      refine ⟨_, pss_cons (ps_set (i := 2) nd rfl (Or.inl rfl) (pe_c (ok_take T) hr (by omega) (by rfl) (pa_cons (pv 0) (pa_cons pe_int pa_nil))))
        (pss_cons (ps_if (pt_cmpR op_gt (pv 1) pe_int (nomark _)) (pss_one (ps_ret (pe_tup (pa_cons pe_str (pa_cons pe_no pa_nil))))) pss_nil)
        (pss_cons (ps_set (i := 3) nd rfl (Or.inl rfl) (pe_c (ok_name T) hr (by omega) (by rfl) (pa_cons (pv 0) pa_nil)))
        (pss_cons (ps_if (pt_cmpR op_eq (pv 2) pe_int (nomark _)) (pss_one (ps_ret (pe_tup (pa_cons pe_str (pa_cons (pv 3) (pa_cons (pe_ix ix_list (pe_lst (pa_cons pe_str (pa_cons pe_str (pa_cons pe_str (pa_cons pe_str (pa_cons pe_str (pa_cons pe_str (pa_cons pe_str pa_nil)))))))) (pe_c (ok_take T) hr (by omega) (by rfl) (pa_cons (pv 0) (pa_cons pe_int pa_nil))) (fun _ _ => rfl)) pa_nil)))))) pss_nil)
        (pss_cons (ps_if (pt_cmpR op_eq (pv 2) pe_int (nomark _)) (pss_one (ps_ret (pe_tup (pa_cons pe_str (pa_cons (pe_tup (pa_cons (pv 3) pa_nil)) (pa_cons (pe_c DE hr (by omega) (by rfl) (pa_cons (pv 0) pa_nil)) pa_nil)))))) pss_nil)
        (pss_cons (ps_if (pt_cmpR op_eq (pv 2) pe_int (nomark _)) (pss_one (ps_ret (pe_tup (pa_cons pe_str (pa_cons (pe_c DE hr (by omega) (by rfl) (pa_cons (pv 0) pa_nil)) (pa_cons (pv 3) pa_nil)))))) pss_nil)
        (pss_one (ps_ret (pe_tup (pa_cons pe_str (pa_cons (pv 3) (pa_cons (pe_tup (pa_cons (pe_c (ok_name T) hr (by omega) (by rfl) (pa_cons (pv 0) pa_nil)) pa_nil)) pa_nil))))))))))), ?_⟩
      refine r_take rfl hp (by decide) (by decide) fun r H1 r0 r1 p1 x1 => ?_
      refine q_no (et_test (ev_is (ev_op (ev_var (v := .int ((0 : Nat) : Int)) rfl) (ev_c (v := .int 0)) rv_I0) (by decide))) fun H2 e2 => ?_
      have p2 := p1.mono e2
      refine r_nameD rfl p2 fun z H3 hz p3 x3 => ?_
      have dec : ∀ {i : Int}, V.bl (decide (V.int r = V.int i)) = V.bl (decide (r = i)) := fun {i} => by congr 1; exact decide_eq_decide.mpr ⟨fun h => by injection h, fun h => by rw [h]⟩
      refine q_when (b := decide (r = 0)) (et_test (ev_is (ev_op (ev_var (v := .int r) rfl) (ev_c (v := .int 0)) (rv_eq rfl)) dec)) (fun _ H4 e4 => ?_) (fun _ H4 e4 => ?_)
      · refine ⟨_, rfl, show 7 ≤ sizeLine by decide, fun ls hls => ?_⟩
        have p4 := p3.mono e4
        have hn := p4.new hls
        refine r_take rfl (p4.mono (Ex.new hls)) (by decide) (by decide) fun r2 H5 s0 s1 p5 x5 => ?_
        have h5 : H5 ls = some (.lst (kinds7.map V.str)) := x5 ls _ (by rw [hid_ne hn.1 hn.2]; exact upd_same)
        obtain ⟨y, hy, hyl⟩ := kinds7_at s0 s1
        exact ⟨ls, _, r2, .str y, rfl, rfl, sq_of h5, hy, show 3 ≤ sizeLine by decide, fun q hq => k _ (.tup [.str (Str.ofString "kind"), .str z, .str y]) _ (p5.mono (Ex.new hq)) (.tup (st_of upd_same) (.cons (.str _ (by decide)) (.cons (.str z hz.2) (.cons (.str y hyl) .nil))) (show 3 ≤ 40000 by decide)) (by simp only [Tr.sz, Tr.szs]; omega)⟩
      refine q_when (b := decide (r = 1)) (et_test (ev_is (ev_op (ev_var (v := .int r) rfl) (ev_c (v := .int 1)) (rv_eq rfl)) dec)) (fun _ H5 e5 => ?_) (fun _ H5 e5 => ?_)
      · have p5 := (p3.mono e4).mono e5
        refine ⟨_, rfl, show 1 ≤ sizeLine by decide, fun t ht => ?_⟩
        have hn := p5.new ht
        refine r_draw rfl (p5.mono (Ex.new ht)) fun v d H6 p6 x6 a6 n6 => ⟨show 3 ≤ sizeLine by decide, fun q hq => k _ (.tup [.str (Str.ofString "kind"), .tup [.str z], d]) _ (p6.mono (Ex.new hq)) (.tup (st_of upd_same) (.cons (.str _ (by decide)) (.cons (.tup ?_ (.cons (.str z hz.2) .nil) (show 1 ≤ 40000 by decide)) (.cons (a6.ex (Ex.new hq)) .nil))) (show 3 ≤ 40000 by decide)) (by simp only [Tr.sz, Tr.szs]; omega)⟩
        exact ex_t (Ex.new hq) (st_of (x6 t _ (by rw [hid_ne hn.1 hn.2]; exact upd_same)))
      refine q_when (b := decide (r = 2)) (et_test (ev_is (ev_op (ev_var (v := .int r) rfl) (ev_c (v := .int 2)) (rv_eq rfl)) dec)) (fun _ H6 e6 => ?_) (fun _ H6 e6 => ?_)
      · have p6 := ((p3.mono e4).mono e5).mono e6
        exact r_draw rfl p6 fun v d H7 p7 x7 a7 n7 => ⟨_, rfl, show 3 ≤ sizeLine by decide, fun q hq => k _ (.tup [.str (Str.ofString "same"), d, .str z]) _ (p7.mono (Ex.new hq)) (.tup (st_of upd_same) (.cons (.str _ (by decide)) (.cons (a7.ex (Ex.new hq)) (.cons (.str z hz.2) .nil))) (show 3 ≤ 40000 by decide)) (by simp only [Tr.sz, Tr.szs]; omega)⟩
      have p6 := ((p3.mono e4).mono e5).mono e6
      refine ⟨_, rfl, ?_⟩
      refine r_nameD rfl p6 fun y H7 hy p7 x7 => ⟨show 1 ≤ sizeLine by decide, fun t ht => ⟨show 3 ≤ sizeLine by decide, fun q hq => k _ (.tup [.str (Str.ofString "same"), .str z, .tup [.str y]]) _ ((p7.mono (Ex.new ht)).mono (Ex.new hq)) (.tup (st_of upd_same) (.cons (.str _ (by decide)) (.cons (.str z hz.2) (.cons (.tup (ex_t (Ex.new hq) (st_of upd_same)) (.cons (.str y hy.2) .nil) (show 1 ≤ 40000 by decide)) .nil))) (show 3 ≤ 40000 by decide)) (by simp only [Tr.sz, Tr.szs]; omega)⟩⟩
  | N + 1 => by
    have IH := ok_drawn_t T O N
    refine mk_cal (k := k0 + 4 + N) T.d_drawn_test sc_drawn_t (fun vs H Q E h => ?_) (fun f cdv A outer s H vs Q E hr h => ?_)
    · obtain ⟨_, _, _, _, _, rfl, _⟩ := h
      rfl
    · obtain ⟨n, hn, p, g, B, rfl, hp, k⟩ := h
      have nd := sc_drawn_t.nd
      have DE := ok_drawn_e T O
      refine ⟨_, pss_cons (ps_set (i := 2) nd rfl (Or.inl rfl) (pe_c (ok_take T) hr (by omega) (by rfl) (pa_cons (pv 0) (pa_cons pe_int pa_nil))))
        (pss_cons (ps_if (pt_cmpR op_gt (pv 1) pe_int (nomark _)) (pss_one (ps_ret (pe_tup (pa_cons pe_str (pa_cons (pe_c IH hr (by omega) (by rfl) (pa_cons (pv 0) (pa_cons (pe_op op_sub (pv 1) pe_int) pa_nil))) pa_nil))))) pss_nil)
        (pss_cons (ps_set (i := 3) nd rfl (Or.inl rfl) (pe_c (ok_name T) hr (by omega) (by rfl) (pa_cons (pv 0) pa_nil)))
        (pss_cons (ps_if (pt_cmpR op_eq (pv 2) pe_int (nomark _)) (pss_one (ps_ret (pe_tup (pa_cons pe_str (pa_cons (pv 3) (pa_cons (pe_ix ix_list (pe_lst (pa_cons pe_str (pa_cons pe_str (pa_cons pe_str (pa_cons pe_str (pa_cons pe_str (pa_cons pe_str (pa_cons pe_str pa_nil)))))))) (pe_c (ok_take T) hr (by omega) (by rfl) (pa_cons (pv 0) (pa_cons pe_int pa_nil))) (fun _ _ => rfl)) pa_nil)))))) pss_nil)
        (pss_cons (ps_if (pt_cmpR op_eq (pv 2) pe_int (nomark _)) (pss_one (ps_ret (pe_tup (pa_cons pe_str (pa_cons (pe_tup (pa_cons (pv 3) pa_nil)) (pa_cons (pe_c DE hr (by omega) (by rfl) (pa_cons (pv 0) pa_nil)) pa_nil)))))) pss_nil)
        (pss_cons (ps_if (pt_cmpR op_eq (pv 2) pe_int (nomark _)) (pss_one (ps_ret (pe_tup (pa_cons pe_str (pa_cons (pe_c DE hr (by omega) (by rfl) (pa_cons (pv 0) pa_nil)) (pa_cons (pv 3) pa_nil)))))) pss_nil)
        (pss_one (ps_ret (pe_tup (pa_cons pe_str (pa_cons (pv 3) (pa_cons (pe_tup (pa_cons (pe_c (ok_name T) hr (by omega) (by rfl) (pa_cons (pv 0) pa_nil)) pa_nil)) pa_nil))))))))))), ?_⟩
      refine r_take rfl hp (by decide) (by decide) fun r H1 r0 r1 p1 x1 => ?_
      cases n with
      | zero =>
        refine q_no (et_test (ev_is (ev_op (ev_var (v := .int ((0 : Nat) : Int)) rfl) (ev_c (v := .int 0)) rv_I0) (by decide))) fun H2 e2 => ?_
        have p2 := p1.mono e2
        refine r_nameD rfl p2 fun z H3 hz p3 x3 => ?_
        have dec : ∀ {i : Int}, V.bl (decide (V.int r = V.int i)) = V.bl (decide (r = i)) := fun {i} => by congr 1; exact decide_eq_decide.mpr ⟨fun h => by injection h, fun h => by rw [h]⟩
        refine q_when (b := decide (r = 0)) (et_test (ev_is (ev_op (ev_var (v := .int r) rfl) (ev_c (v := .int 0)) (rv_eq rfl)) dec)) (fun _ H4 e4 => ?_) (fun _ H4 e4 => ?_)
        · refine ⟨_, rfl, show 7 ≤ sizeLine by decide, fun ls hls => ?_⟩
          have p4 := p3.mono e4
          have hn := p4.new hls
          refine r_take rfl (p4.mono (Ex.new hls)) (by decide) (by decide) fun r2 H5 s0 s1 p5 x5 => ?_
          have h5 : H5 ls = some (.lst (kinds7.map V.str)) := x5 ls _ (by rw [hid_ne hn.1 hn.2]; exact upd_same)
          obtain ⟨y, hy, hyl⟩ := kinds7_at s0 s1
          exact ⟨ls, _, r2, .str y, rfl, rfl, sq_of h5, hy, show 3 ≤ sizeLine by decide, fun q hq => k _ (.tup [.str (Str.ofString "kind"), .str z, .str y]) _ (p5.mono (Ex.new hq)) (.tup (st_of upd_same) (.cons (.str _ (by decide)) (.cons (.str z hz.2) (.cons (.str y hyl) .nil))) (show 3 ≤ 40000 by decide)) (by simp only [Tr.sz, Tr.szs]; omega)⟩
        refine q_when (b := decide (r = 1)) (et_test (ev_is (ev_op (ev_var (v := .int r) rfl) (ev_c (v := .int 1)) (rv_eq rfl)) dec)) (fun _ H5 e5 => ?_) (fun _ H5 e5 => ?_)
        · have p5 := (p3.mono e4).mono e5
          refine ⟨_, rfl, show 1 ≤ sizeLine by decide, fun t ht => ?_⟩
          have hn := p5.new ht
          refine r_draw rfl (p5.mono (Ex.new ht)) fun v d H6 p6 x6 a6 n6 => ⟨show 3 ≤ sizeLine by decide, fun q hq => k _ (.tup [.str (Str.ofString "kind"), .tup [.str z], d]) _ (p6.mono (Ex.new hq)) (.tup (st_of upd_same) (.cons (.str _ (by decide)) (.cons (.tup ?_ (.cons (.str z hz.2) .nil) (show 1 ≤ 40000 by decide)) (.cons (a6.ex (Ex.new hq)) .nil))) (show 3 ≤ 40000 by decide)) (by simp only [Tr.sz, Tr.szs]; omega)⟩
          exact ex_t (Ex.new hq) (st_of (x6 t _ (by rw [hid_ne hn.1 hn.2]; exact upd_same)))
        refine q_when (b := decide (r = 2)) (et_test (ev_is (ev_op (ev_var (v := .int r) rfl) (ev_c (v := .int 2)) (rv_eq rfl)) dec)) (fun _ H6 e6 => ?_) (fun _ H6 e6 => ?_)
        · have p6 := ((p3.mono e4).mono e5).mono e6
          exact r_draw rfl p6 fun v d H7 p7 x7 a7 n7 => ⟨_, rfl, show 3 ≤ sizeLine by decide, fun q hq => k _ (.tup [.str (Str.ofString "same"), d, .str z]) _ (p7.mono (Ex.new hq)) (.tup (st_of upd_same) (.cons (.str _ (by decide)) (.cons (a7.ex (Ex.new hq)) (.cons (.str z hz.2) .nil))) (show 3 ≤ 40000 by decide)) (by simp only [Tr.sz, Tr.szs]; omega)⟩
        have p6 := ((p3.mono e4).mono e5).mono e6
        refine ⟨_, rfl, ?_⟩
        refine r_nameD rfl p6 fun y H7 hy p7 x7 => ⟨show 1 ≤ sizeLine by decide, fun t ht => ⟨show 3 ≤ sizeLine by decide, fun q hq => k _ (.tup [.str (Str.ofString "same"), .str z, .tup [.str y]]) _ ((p7.mono (Ex.new ht)).mono (Ex.new hq)) (.tup (st_of upd_same) (.cons (.str _ (by decide)) (.cons (.str z hz.2) (.cons (.tup (ex_t (Ex.new hq) (st_of upd_same)) (.cons (.str y hy.2) .nil) (show 1 ≤ 40000 by decide)) .nil))) (show 3 ≤ 40000 by decide)) (by simp only [Tr.sz, Tr.szs]; omega)⟩⟩
      | succ n =>
        refine q_when (b := true) (et_test (ev_is (ev_op (ev_var (v := .int ((n + 1 : Nat) : Int)) rfl) (ev_c (v := .int 0)) rv_I0) (by congr 1; exact decide_eq_true (by omega)))) (fun _ H2 e2 => ?_) (fun z => nomatch z)
        have p2 := p1.mono e2
        refine ⟨_, rfl, _, rfl, _, _, rfl, rfl, n, (show n ≤ N by omega), p, g, hid p g H2, (show [V.ref p, V.int (((n + 1 : Nat) : Int) - 1)] = [V.ref p, V.int (n : Nat)] by rw [show (((n + 1 : Nat) : Int) - 1) = (n : Nat) by omega]), p2.wide, fun v d H3 p3 a3 n3 => ⟨show 2 ≤ sizeLine by decide, fun q hq => k _ (.tup [.str (Str.ofString "not"), d]) _ ((p3.back p2.sub).mono (Ex.new hq)) (.tup (st_of upd_same) (.cons (.str _ (by decide)) (.cons (a3.ex (Ex.new hq)) .nil)) (show 2 ≤ 40000 by decide)) (by simp only [Tr.sz, Tr.szs]; omega)⟩⟩
end
end EE
set_option Elab.async false
set_option linter.all false
set_option maxRecDepth 100000
set_option maxHeartbeats 4000000
namespace EE
open PySem L2 Evl
open C8 (Cal Mak cal0 mak0 pe_c pe_mk pe_gc fnScope_by)
section
variable {P : Program} {w : World} {K : PySem.W.Frag} {mg : Str → Option Value} {base : Heap}
theorem sc_odd : FnScope N__law_odd P__law_odd (C8.fnScope s__law_odd) := fnScope_by (by decide +kernel)
theorem ok_odd (T : TxtK w K mg) : Cal P w K mg base 2 "_law_odd" (sp_draw K 5) [] := by
  refine mk_cal T.d_odd sc_odd (fun vs H Q E h => ?_) (fun f cdv A outer s H vs Q E hr h => ?_)
  · obtain ⟨_, _, _, rfl, _⟩ := h
    rfl
  · obtain ⟨p, g, B, rfl, hp, k⟩ := h
    have nd := sc_odd.nd
    refine ⟨_, pss_cons (ps_set (i := 1) nd rfl (Or.inl rfl) (pe_lst (pa_cons pe_non (pa_cons pe_bl (pa_cons pe_bl (pa_cons pe_int (pa_cons pe_int (pa_cons pe_int (pa_cons pe_int (pa_cons (pe_un un_neg pe_int) (pa_cons pe_int (pa_cons (pe_op op_pow pe_int pe_int) (pa_cons pe_str (pa_cons pe_str (pa_cons pe_str (pa_cons pe_str (pa_cons pe_str (pa_cons pe_str (pa_cons pe_str pa_nil)))))))))))))))))))
      (pss_cons (ps_set (i := 1) nd rfl (Or.inl rfl) (pe_op op_cat (pv 1) (pe_lst (pa_cons pe_str (pa_cons pe_str (pa_cons pe_str (pa_cons pe_str (pa_cons pe_str (pa_cons pe_str pa_nil)))))))))
      (pss_cons (ps_set (i := 2) nd rfl (Or.inl rfl) (pe_lst (pa_cons (pe_tup (pa_cons pe_str pa_nil)) (pa_cons (pe_tup pa_nil) (pa_cons (pe_lst pa_nil) (pa_cons (pe_lst (pa_cons pe_str pa_nil)) (pa_cons pe_dnewK (pa_cons (pe_disp (pps_cons pe_str pe_str pps_nil) (by rfl) (by rfl) (by simp) (by decide)) (pa_cons (pe_disp (pps_cons pe_str pe_int pps_nil) (by rfl) (by rfl) (by simp) (by decide)) (pa_cons (pe_tup (pa_cons pe_str (pa_cons (pe_tup (pa_cons pe_str pa_nil)) pa_nil))) (pa_cons (pe_tup (pa_cons pe_str (pa_cons pe_str pa_nil))) (pa_cons (pe_tup (pa_cons pe_str (pa_cons pe_str pa_nil))) (pa_cons (pe_tup (pa_cons (pe_tup (pa_cons pe_str pa_nil)) pa_nil)) pa_nil)))))))))))))
      (pss_cons (ps_set (i := 3) nd rfl (Or.inl rfl) (pe_lst (pa_cons (pe_tup (pa_cons pe_str (pa_cons pe_int pa_nil))) (pa_cons (pe_tup (pa_cons pe_str (pa_cons pe_str pa_nil))) (pa_cons (pe_tup (pa_cons (pe_tup (pa_cons pe_str (pa_cons pe_str pa_nil))) pa_nil)) (pa_cons (pe_tup (pa_cons (pe_tup (pa_cons pe_str (pa_cons pe_int pa_nil))) pa_nil)) (pa_cons (pe_tup (pa_cons (pe_tup (pa_cons pe_str (pa_cons pe_bl pa_nil))) pa_nil)) (pa_cons (pe_tup (pa_cons pe_str (pa_cons pe_str (pa_cons pe_str pa_nil)))) pa_nil))))))))
      (pss_cons (ps_set (i := 1) nd rfl (Or.inl rfl) (pe_op op_cat (pe_op op_cat (pv 1) (pv 2)) (pv 3)))
      (pss_one (ps_ret (pe_ix ix_list (pv 1) (pe_c (ok_take T) hr (by decide) (by rfl) (pa_cons (pv 0) (pa_cons (pe_callB call_len_seq (by rfl) T.len (by decide +kernel) (pa_cons (pv 1) pa_nil)) pa_nil))) (fun _ _ => rfl)))))))), ?_⟩
    refine q_asgDX (K := K) (dxl_lst (dx_cons dx_non (dx_cons dx_bl (dx_cons dx_bl (dx_cons dx_int (dx_cons dx_int (dx_cons dx_int (dx_cons dx_int (dx_cons (dx_neg) (dx_cons dx_int (dx_cons (dx_pow) (dx_cons (dx_str (by decide)) (dx_cons (dx_str (by decide)) (dx_cons (dx_str (by decide)) (dx_cons (dx_str (by decide)) (dx_cons (dx_str (by decide)) (dx_cons (dx_str (by decide)) (dx_cons (dx_str (by decide)) dx_nil))))))))))))))))) (show 17 ≤ 40000 by decide)) fun l1 w1 H1 hl1 e1 g1 a1 => ?_
    refine q_asgDX (K := K) (dxl_cat (dxm_var rfl g1 a1) (dxm_of (dxl_lst (dx_cons (dx_str (by decide)) (dx_cons (dx_str (by decide)) (dx_cons (dx_str (by decide)) (dx_cons (dx_str (by decide)) (dx_cons (dx_str (by decide)) (dx_cons (dx_str (by decide)) dx_nil)))))) (show 6 ≤ 40000 by decide))) (show 17 + 6 ≤ 100000 by decide)) fun l2 w2 H2 hl2 e2 g2 a2 => ?_
    refine q_asgDX (K := K) (dxl_lst (dx_cons (dx_tup (dx_cons (dx_str (by decide)) dx_nil) (show 1 ≤ 40000 by decide)) (dx_cons (dx_tup dx_nil (show 0 ≤ 40000 by decide)) (dx_cons (dx_lst dx_nil (show 0 ≤ 40000 by decide)) (dx_cons (dx_lst (dx_cons (dx_str (by decide)) dx_nil) (show 1 ≤ 40000 by decide)) (dx_cons dx_d0 (dx_cons (dx_d1 (fun _ => .str _ (by decide))) (dx_cons (dx_d1 (fun _ => .int _)) (dx_cons (dx_tup (dx_cons (dx_str (by decide)) (dx_cons (dx_tup (dx_cons (dx_str (by decide)) dx_nil) (show 1 ≤ 40000 by decide)) dx_nil)) (show 2 ≤ 40000 by decide)) (dx_cons (dx_tup (dx_cons (dx_str (by decide)) (dx_cons (dx_str (by decide)) dx_nil)) (show 2 ≤ 40000 by decide)) (dx_cons (dx_tup (dx_cons (dx_str (by decide)) (dx_cons (dx_str (by decide)) dx_nil)) (show 2 ≤ 40000 by decide)) (dx_cons (dx_tup (dx_cons (dx_tup (dx_cons (dx_str (by decide)) dx_nil) (show 1 ≤ 40000 by decide)) dx_nil) (show 1 ≤ 40000 by decide)) dx_nil))))))))))) (show 11 ≤ 40000 by decide)) fun l3 w3 H3 hl3 e3 g3 a3 => ?_
    refine q_asgDX (K := K) (dxl_lst (dx_cons (dx_tup (dx_cons (dx_str (by decide)) (dx_cons dx_int dx_nil)) (show 2 ≤ 40000 by decide)) (dx_cons (dx_tup (dx_cons (dx_str (by decide)) (dx_cons (dx_str (by decide)) dx_nil)) (show 2 ≤ 40000 by decide)) (dx_cons (dx_tup (dx_cons (dx_tup (dx_cons (dx_str (by decide)) (dx_cons (dx_str (by decide)) dx_nil)) (show 2 ≤ 40000 by decide)) dx_nil) (show 1 ≤ 40000 by decide)) (dx_cons (dx_tup (dx_cons (dx_tup (dx_cons (dx_str (by decide)) (dx_cons dx_int dx_nil)) (show 2 ≤ 40000 by decide)) dx_nil) (show 1 ≤ 40000 by decide)) (dx_cons (dx_tup (dx_cons (dx_tup (dx_cons (dx_str (by decide)) (dx_cons dx_bl dx_nil)) (show 2 ≤ 40000 by decide)) dx_nil) (show 1 ≤ 40000 by decide)) (dx_cons (dx_tup (dx_cons (dx_str (by decide)) (dx_cons (dx_str (by decide)) (dx_cons (dx_str (by decide)) dx_nil))) (show 3 ≤ 40000 by decide)) dx_nil)))))) (show 6 ≤ 40000 by decide)) fun l4 w4 H4 hl4 e4 g4 a4 => ?_
    have e34 := e3.trans e4
    refine q_asgDX (K := K) (dxl_cat (dxm_of (dxl_cat (dxm_var rfl (e34 _ _ g2) (a2.ex e34)) (dxm_var rfl (e4 _ _ g3) (a3.ex e4)) (show 23 + 11 ≤ 100000 by decide))) (dxm_var rfl g4 a4) (show 34 + 6 ≤ 100000 by decide)) fun l5 w5 H5 hl5 e5 g5 a5 => ?_
    have p5 := hp.mono ((((e1.trans e2).trans e3).trans e4).trans e5)
    have hl0 : H l5 = none := fresh_back (((e1.trans e2).trans e3).trans e4) hl5
    have hn := hp.new hl0
    have hw : w5.length = 40 := a5.len
    refine ⟨_, rfl, _, rfl, ?_⟩
    refine ⟨_, rfl, l5, w5, rfl, .inl (sq_of g5), p, g, (w5.length : Nat), hid p g H5, rfl, by rw [hw]; decide, by rw [hw]; decide, p5.wide, fun r H6 r0 r1 q6 => ?_⟩
    have x6 := q6.ex
    have h6 : H6 l5 = some (.lst w5) := x6 l5 _ (by rw [hid_ne hn.1 hn.2]; exact g5)
    have hri : r.toNat < w5.length := by omega
    obtain ⟨d, hd, had⟩ := a5.get (List.getElem?_eq_getElem hri)
    refine ⟨l5, w5, r, _, rfl, rfl, sq_of h6, L2.at_of (j := r.toNat) (by omega) (List.getElem?_eq_getElem hri), k _ d H6 (q6.back p5.sub) (AtX.pot p5 x6 q6 had) ?_⟩
    have gen : ∀ {ds : List Tr} {i : Nat} {d : Tr}, (ds.all fun d => decide (d.sz ≤ 5)) = true → ds[i]? = some d → d.sz ≤ 5 := fun h1 h2 => by simpa using List.all_eq_true.mp h1 _ (List.mem_of_getElem? h2)
    exact gen (by decide +kernel) hd
end
end EE
set_option Elab.async false
set_option linter.all false
set_option maxRecDepth 100000
set_option maxHeartbeats 4000000
namespace EE
open PySem L2 Evl
section
variable {m k n c : Nat} {e r d b : Dt} {kn : Kn}
theorem few_all : ∀ {xs : List Dt}, (∀ x ∈ xs, FewS 1 x) → FewS xs.length (.tup xs)
  | [], _ => few_nil
  | x :: xs, h => few_le (few_cons (h x (List.mem_cons_self ..)) (few_all fun y hy => h y (List.mem_cons_of_mem _ hy))) (by rw [List.length_cons]; omega)
theorem few_isS {z : Str} (h : isS z d = true) : FewS 1 d := by cases d <;> first | exact few_str | cases h
theorem few_words (h : wordsD d = true) : FewS 3 d := by
  cases d with
  | tup xs =>
    replace h : ((((decide ((xs.length : Int) ≤ 3) && (xs.map nmD).all id) && decide ((xs.map unD).Nodup))) && decide (2 ≤ xs.length)) = true := h
    simp only [Bool.and_eq_true] at h
    have h3 := of_decide_eq_true h.1.1.1
    exact few_le (few_all fun y hy => few_nm (all_map.mp h.1.1.2 y hy)) (by omega)
  | _ => cases h
theorem few_core (h : coreD kn d = true) : FewS 3 d := by
  cases d with
  | tup xs =>
    replace h : (decide (xs.length = 3) && (if isS "same" (xs.headD .non) then exprD (xs.getD 1 .non) && exprD (xs.getD 2 .non) else isS "kind" (xs.headD .non) && (exprD (xs.getD 1 .non) && kindD kn (xs.getD 2 .non)))) = true := h
    rw [Bool.and_eq_true] at h
    obtain ⟨h1, h2⟩ := h
    match xs, of_decide_eq_true h1 with
    | [a, b, c], _ =>
      replace h2 : (if isS "same" a then exprD b && exprD c else isS "kind" a && (exprD b && kindD kn c)) = true := h2
      have hh : FewS 1 a ∧ FewS 1 b ∧ FewS 1 c := by
        split at h2
        · rename_i hs
          rw [Bool.and_eq_true] at h2
          exact ⟨few_isS hs, few_ex h2.1, few_ex h2.2⟩
        · simp only [Bool.and_eq_true] at h2
          refine ⟨few_isS h2.1, few_ex h2.2.1, ?_⟩
          have h3 := h2.2.2
          cases c with
          | str z => exact few_str
          | tup ys => simp [kindD, inS, nmIn] at h3
          | _ => simp [kindD, inS, nmIn] at h3
      exact few_le (few_cons hh.1 (few_cons hh.2.1 (few_cons hh.2.2 few_nil))) (by omega)
  | _ => cases h
theorem few_strip1 (h : FewS c (strip1 d)) : FewS (c + 1) d := by
  cases hn : isNot d with
  | false =>
    rw [show strip1 d = d from if_neg (by rw [hn]; decide)] at h
    exact few_le h (by omega)
  | true =>
    obtain ⟨a, b, rfl⟩ := isNot_snd hn
    rw [show strip1 (.tup [a, b]) = b from if_pos hn] at h
    have ha : isS "not" a = true := by
      have hn' : (decide (2 = 2) && isS "not" a) = true := hn
      rw [Bool.and_eq_true] at hn'
      exact hn'.2
    exact few_le (few_cons (few_isS ha) (few_cons h few_nil)) (by omega)
theorem few_test (h : testD kn d = true) : FewS 6 d := few_strip1 (few_strip1 (few_strip1 (few_core h)))
/-- the other statements of the law -/
theorem bk_ask (hn : n ≤ 4) (h : dueD n (.tup [.str (Str.ofString "ask"), .str (Str.ofString "x"), e]) = true) : RightBk ⟨["a"], 2, blkN (.tup [.str (Str.ofString "ask"), .str (Str.ofString "x"), e]) n⟩ ∧ sizeD 6 (plF (Str.ofString "g", ⟨["a"], 2, blkN (.tup [.str (Str.ofString "ask"), .str (Str.ofString "x"), e]) n⟩)).2.blk ≤ 80000 :=
  right_bk hn h tame_ask (few_le (few_cons few_str (few_cons few_str (few_cons (few_words (by rw [← due_ask hn]; exact h)) few_nil))) (by decide))
theorem bk_pay {i : Int} (hn : n ≤ 4) (h : dueD n (.tup [.str (Str.ofString "pay"), .int i]) = true) : RightBk ⟨["a"], 2, blkN (.tup [.str (Str.ofString "pay"), .int i]) n⟩ ∧ sizeD 6 (plF (Str.ofString "g", ⟨["a"], 2, blkN (.tup [.str (Str.ofString "pay"), .int i]) n⟩)).2.blk ≤ 80000 :=
  right_bk hn h tame_pay (few_le (few_cons few_str (few_cons few_int few_nil)) (by decide))
theorem bk_if (hn : n ≤ 4) (h : dueD n (.tup [.str (Str.ofString "if"), e, .tup [], .tup []]) = true) : RightBk ⟨["a"], 2, blkN (.tup [.str (Str.ofString "if"), e, .tup [], .tup []]) n⟩ ∧ sizeD 6 (plF (Str.ofString "g", ⟨["a"], 2, blkN (.tup [.str (Str.ofString "if"), e, .tup [], .tup []]) n⟩)).2.blk ≤ 80000 :=
  right_bk hn h tame_if (few_le (few_cons few_str (few_cons (few_test (by rw [← due_if hn]; exact h)) (few_cons few_nil (few_cons few_nil few_nil)))) (by decide))
theorem bk_loop (hn : n ≤ 4) (h : dueD n (.tup [.str (Str.ofString "loop"), e, .tup [.tup [.str (Str.ofString "pay"), .int 1]]]) = true) : RightBk ⟨["a"], 2, blkN (.tup [.str (Str.ofString "loop"), e, .tup [.tup [.str (Str.ofString "pay"), .int 1]]]) n⟩ ∧ sizeD 6 (plF (Str.ofString "g", ⟨["a"], 2, blkN (.tup [.str (Str.ofString "loop"), e, .tup [.tup [.str (Str.ofString "pay"), .int 1]]]) n⟩)).2.blk ≤ 80000 :=
  right_bk hn h tame_loop (few_le (few_cons few_str (few_cons (few_test (by rw [← due_loop hn]; exact h)) (few_cons (few_cons (few_cons few_str (few_cons few_int few_nil)) few_nil) few_nil))) (by decide))
end
end EE
set_option Elab.async false
set_option linter.all false
set_option maxRecDepth 100000
set_option maxHeartbeats 4000000
namespace EE
open PySem L2 Evl
open C8 (Cal Mak cal0 mak0 pe_c pe_mk pe_gc fnScope_by)
/-- d.pop(k), there -/
def rPopD : V → List V → Hp → VK → Prop := fun x vs H Q => ∃ d kvs k v, x = .ref d ∧ vs = [kV k] ∧ H d = some (.dK kvs) ∧ valV kvs k = some v ∧ Q v (upd H d (.dK (dropK kvs k)))
theorem mt_popD {X : Cx} : MtR X "dict.pop" rPopD := by
  intro pins s σ H x vs v us Q I rx rv h
  obtain ⟨d, kvs, k, w, rfl, rfl, hd, hv, q⟩ := h
  cases rx
  obtain ⟨u, rfl, ru⟩ := rv.one
  exact d_pop I hd ru hv (.inl rfl) fun w' s' I' rw' => ⟨w, _, I', rw', q⟩
section
variable {K : PySem.W.Frag} {σ : L2.St} {B H H' : Hp} {ta tb tc te tv : TE} {t u : TA} {x y z v : V} {d : Dt} {ds es : List Dt}
theorem r_takeE {i : Nat} {p g : Addr} {m : Int} {E : XK} {Q : VK} (hv : σ[i]? = some (some (.ref p))) (hp : PotAt B H p g) (he : Ev te σ H (.int m)) (h1 : 1 ≤ m) (h2 : m ≤ 1000) (k : ∀ r H2, 0 ≤ r → r < m → PotAt B H2 p g → Ex (hid p g H) H2 → Q (.int r) H2) :
    tCall sp_take [] E (tCons (tVar i) (tCons te tNil)) σ H Q := ⟨_, hv, he H (Ex.refl _) _ fun H1 e1 => ⟨p, g, m, hid p g H1, rfl, h1, h2, (hp.mono e1).wide, fun r H2 r1 r2 q => k r H2 r1 r2 (q.back (hp.mono e1).sub) (((hp.wide.mono e1).sub).trans q.ex)⟩⟩
/-- take(..) > 0, as a test -/
theorem r_takeT {i : Nat} {p g : Addr} {m : Int} {E : XK} {Q : Bool → Hp → Prop} (hv : σ[i]? = some (some (.ref p))) (hp : PotAt B H p g) (h1 : 1 ≤ m) (h2 : m ≤ 1000) (k : ∀ b H2, PotAt B H2 p g → Ex (hid p g H) H2 → Q b H2) :
    tTest (tOp (rI0 fun i j => V.bl (decide (j < i))) (tCall sp_take [] E (tCons (tVar i) (tCons (tC (.int m)) tNil))) (tC (.int 0))) σ H Q :=
  r_take hv hp h1 h2 fun r H2 _ _ p2 x2 => ⟨r, 0, rfl, rfl, _, rfl, k _ H2 p2 x2⟩
theorem r_catX {a b : Addr} {xs ys : List V} {Q : VK} (ha : SqT K H a xs) (hb : SqT K H b ys) (hz : xs.length + ys.length ≤ 100000) (k : ∀ c H2, Ex H H2 → SqT K H2 c (xs ++ ys) → Q (.ref c) H2) : rCatA K (.ref a) (.ref b) H Q :=
  ⟨a, b, xs, ys, rfl, rfl, ha, hb, sz_of hz, fun e => k b H (Ex.refl H) (by subst e; exact hb), fun _ e => k a H (Ex.refl H) (by subst e; rw [List.append_nil]; exact ha), fun _ _ p hp => k p _ (Ex.new hp) (st_of upd_same)⟩
theorem r_slX {a : Addr} {xs : List V} {lo hi : Option Int} {Q : VK} (ha : SqT K H a xs) (k : ∀ c H2, Ex H H2 → SqT K H2 c (cutV xs lo hi) → Q (.ref c) H2) : rSlA K (.ref a) lo hi H Q :=
  ⟨a, xs, rfl, ha, fun e => k a H (Ex.refl H) (by
    unfold cutV
    rw [e.1, e.2, Nat.sub_zero, List.drop_zero, List.take_length]
    exact ha), fun _ p hp => k p _ (Ex.new hp) (st_of upd_same)⟩
theorem cut_to {xs : List V} {i : Nat} (h : i ≤ xs.length) : cutV xs none (some (i : Int)) = xs.take i := by
  unfold cutV
  rw [HT.sIx_none, HT.sIx_nat, List.drop_zero, Nat.sub_zero, Nat.min_eq_left h]
theorem cut_from {xs : List V} {i : Nat} (h : i ≤ xs.length) : cutV xs (some (i : Int)) none = xs.drop i := by
  unfold cutV
  rw [HT.sIx_none, HT.sIx_nat, Nat.min_eq_left h, List.take_of_length_le (by rw [List.length_drop]; omega)]
theorem AtL.drop : ∀ {vs : List V} {ds : List Dt} (n : Nat), AtL K H vs ds → AtL K H (vs.drop n) (ds.drop n)
  | _, _, 0, h => h
  | _, _, _ + 1, .nil => .nil
  | _, _, n + 1, .cons _ t => AtL.drop n t
theorem AtL.take : ∀ {vs : List V} {ds : List Dt} (n : Nat), AtL K H vs ds → AtL K H (vs.take n) (ds.take n)
  | _, _, 0, _ => by rw [List.take_zero, List.take_zero]; exact .nil
  | _, _, _ + 1, .nil => by rw [List.take_nil, List.take_nil]; exact .nil
  | _, _, n + 1, .cons h t => .cons h (AtL.take n t)
end
theorem nodesL_app : ∀ {xs ys : List Dt}, Dt.nodesL (xs ++ ys) = Dt.nodesL xs + Dt.nodesL ys
  | [], ys => by rw [List.nil_append, show Dt.nodesL [] = 0 by rw [Dt.nodesL], Nat.zero_add]
  | x :: xs, ys => by rw [List.cons_append, Dt.nodesL, Dt.nodesL, nodesL_app (xs := xs), Nat.add_assoc]
theorem nodesL_take {xs : List Dt} {i : Nat} : Dt.nodesL (xs.take i) ≤ Dt.nodesL xs := by
  have h : xs = xs.take i ++ xs.drop i := (List.take_append_drop i xs).symm
  have := nodesL_app (xs := xs.take i) (ys := xs.drop i)
  rw [← h] at this
  omega
theorem nodesL_drop {xs : List Dt} {i : Nat} : Dt.nodesL (xs.drop i) ≤ Dt.nodesL xs := by
  have h : xs = xs.take i ++ xs.drop i := (List.take_append_drop i xs).symm
  have := nodesL_app (xs := xs.take i) (ys := xs.drop i)
  rw [← h] at this
  omega
theorem nodesL_at {xs : List Dt} {i : Nat} {x : Dt} (h : xs[i]? = some x) : Dt.nodesL (xs.take i) + (x.nodes + Dt.nodesL (xs.drop (i + 1))) = Dt.nodesL xs := by
  have hi := (List.getElem?_eq_some_iff.mp h).1
  have e : xs = xs.take i ++ x :: xs.drop (i + 1) := by
    have := List.take_append_drop i xs
    rw [List.drop_eq_getElem_cons hi, (List.getElem?_eq_some_iff.mp h).2] at this
    exact this.symm
  have := nodesL_app (xs := xs.take i) (ys := x :: xs.drop (i + 1))
  rw [← e] at this
  rw [this, Dt.nodesL]
theorem nodesL_len : ∀ {xs : List Dt}, xs.length ≤ Dt.nodesL xs
  | [] => Nat.zero_le _
  | x :: xs => by
    have := nodes_pos x
    have := nodesL_len (xs := xs)
    rw [List.length_cons, Dt.nodesL]
    omega
theorem deep_pos (t : Tr) : 1 ≤ t.deep := by
  cases t <;> rw [Tr.deep] <;> omega
section
variable {P : Program} {w : World} {K : PySem.W.Frag} {mg : Str → Option Value} {base : Heap}
/-! a key -/
def KeyX (K : PySem.W.Frag) (H : Hp) (v : V) : Prop := v = .non ∨ (∃ b, v = .bl b) ∨ (∃ k : Key, v = kV k) ∨ ∃ (b : Addr) (ks : List Key), v = .ref b ∧ SqT K H b (ks.map kV)
def keyT : Tr → Bool
  | .non => true
  | .bl _ => true
  | .int _ => true
  | .str _ => true
  | .tup [.str _] => true
  | _ => false
theorem key_ofX {H : Hp} {v : V} {t : Tr} (h : AtX K H v t) (ht : keyT t = true) : KeyX K H v := by
  cases h with
  | non => exact .inl rfl
  | bl b => exact .inr (.inl ⟨b, rfl⟩)
  | int i => exact .inr (.inr (.inl ⟨Sum.inl i, rfl⟩))
  | str z h => exact .inr (.inr (.inl ⟨Sum.inr z, rfl⟩))
  | @tup a vs xs h r hz =>
    match xs, ht, r with
    | [.str z], _, .cons (.str _ _) .nil => exact .inr (.inr (.inr ⟨a, [Sum.inr z], rfl, h⟩))
  | lst h => cases ht
  | d0 h => cases ht
  | d1 h r => cases ht
def sp_key (K : PySem.W.Frag) : Sp := fun vs H Q _ => ∃ p g B, vs = [.ref p] ∧ PotAt B H p g ∧ ∀ v H2, PotAt B H2 p g → KeyX K H2 v → Q v H2
theorem r_key {σ : L2.St} {B H : Hp} {i : Nat} {p g : Addr} {E : XK} {Q : VK} (hv : σ[i]? = some (some (.ref p))) (hp : PotAt B H p g) (k : ∀ v H2, PotAt B H2 p g → Ex (hid p g H) H2 → KeyX K H2 v → Q v H2) :
    tCall (sp_key K) [] E (tCons (tVar i) tNil) σ H Q := ⟨_, hv, p, g, hid p g H, rfl, hp.wide, fun v H2 q a => k v H2 (q.back hp.sub) q.ex a⟩
theorem sc_key : FnScope N__law_key P__law_key (C8.fnScope s__law_key) := fnScope_by (by decide +kernel)
theorem ok_key (T : TxtK w K mg) : Cal P w K mg base 2 "_law_key" (sp_key K) [] := by
  refine mk_cal T.d_key sc_key (fun vs H Q E h => ?_) (fun f cdv A outer s H vs Q E hr h => ?_)
  · obtain ⟨_, _, _, rfl, _⟩ := h
    rfl
  · obtain ⟨p, g, B, rfl, hp, k⟩ := h
    have nd := sc_key.nd
    refine ⟨_, pss_cons (ps_set (i := 1) nd rfl (Or.inl rfl) (pe_lst (pa_cons pe_non (pa_cons pe_bl (pa_cons pe_int (pa_cons pe_int (pa_cons pe_str (pa_cons pe_str (pa_cons pe_str (pa_cons (pe_tup (pa_cons pe_str pa_nil)) (pa_cons pe_str (pa_cons pe_str (pa_cons pe_str (pa_cons pe_str (pa_cons pe_str (pa_cons pe_str (pa_cons pe_str (pa_cons pe_str pa_nil))))))))))))))))))
      (pss_one (ps_ret (pe_ix ix_list (pv 1) (pe_c (ok_take T) hr (by decide) (by rfl) (pa_cons (pv 0) (pa_cons (pe_callB call_len_seq (by rfl) T.len (by decide +kernel) (pa_cons (pv 1) pa_nil)) pa_nil))) (fun _ _ => rfl)))), ?_⟩
    refine q_asgDX (K := K) (dxl_lst (dx_cons dx_non (dx_cons dx_bl (dx_cons dx_int (dx_cons dx_int (dx_cons (dx_str (by decide)) (dx_cons (dx_str (by decide)) (dx_cons (dx_str (by decide)) (dx_cons (dx_tup (dx_cons (dx_str (by decide)) dx_nil) (show 1 ≤ 40000 by decide)) (dx_cons (dx_str (by decide)) (dx_cons (dx_str (by decide)) (dx_cons (dx_str (by decide)) (dx_cons (dx_str (by decide)) (dx_cons (dx_str (by decide)) (dx_cons (dx_str (by decide)) (dx_cons (dx_str (by decide)) (dx_cons (dx_str (by decide)) dx_nil)))))))))))))))) (show 16 ≤ 40000 by decide)) fun l1 w1 H1 hl1 e1 g1 a1 => ?_
    have p1 := hp.mono e1
    have hn := hp.new hl1
    have hw : w1.length = 16 := a1.len
    refine ⟨_, rfl, r_takeE rfl p1 (ev_cb (ea_cons (ev_var rfl) ea_nil) (rc_lenS (.inl (sq_of g1)))) (by rw [hw]; decide) (by rw [hw]; decide) fun r H2 r0 r1 p2 x2 => ?_⟩
    have h2 : H2 l1 = some (.lst w1) := x2 l1 _ (by rw [hid_ne hn.1 hn.2]; exact g1)
    have hri : r.toNat < w1.length := by omega
    obtain ⟨d, hd, had⟩ := a1.get (List.getElem?_eq_getElem hri)
    refine ⟨l1, w1, r, _, rfl, rfl, sq_of h2, L2.at_of (j := r.toNat) (by omega) (List.getElem?_eq_getElem hri), k _ H2 p2 (key_ofX (AtX.pot p1 x2 p2 had) ?_)⟩
    have gen : ∀ {ds : List Tr} {i : Nat} {d : Tr}, (ds.all keyT) = true → ds[i]? = some d → keyT d = true := fun h1 h2 => List.all_eq_true.mp h1 _ (List.mem_of_getElem? h2)
    exact gen (by rfl) hd
/-! spoiled things -/
def sp_spd (K : PySem.W.Frag) (n : Nat) : Sp := fun vs H Q _ => ∃ p g B a z t, vs = [.ref p, .ref a] ∧ PotAt B H p g ∧ AtX K H (.ref a) (.d1 z t) ∧ t.deep ≤ n ∧ t.sz ≤ 1000 ∧ ∀ v H2, PotAt B H2 p g → At K H2 v .oth → Q v H2
def sp_spoil (K : PySem.W.Frag) (n : Nat) : Sp := fun vs H Q _ => ∃ p g B v t, vs = [.ref p, v] ∧ PotAt B H p g ∧ AtX K H v t ∧ t.deep ≤ n ∧ t.sz ≤ 1000 ∧ ∀ v d H2, PotAt B H2 p g → At K H2 v d → d.nodes ≤ 2 * t.sz + 10 → Q v H2
theorem r_spoil {n : Nat} {σ : L2.St} {B H : Hp} {te : TE} {i : Nat} {p g : Addr} {v : V} {t : Tr} {E : XK} {Q : VK} (hv : σ[i]? = some (some (.ref p))) (hp : PotAt B H p g) (he : Ev te σ H v) (ha : AtX K H v t) (hd : t.deep ≤ n) (hn : t.sz ≤ 1000)
    (k : ∀ v d H2, PotAt B H2 p g → Ex (hid p g H) H2 → At K H2 v d → d.nodes ≤ 2 * t.sz + 10 → Q v H2) : tCall (sp_spoil K n) [] E (tCons (tVar i) (tCons te tNil)) σ H Q :=
  ⟨_, hv, he H (Ex.refl _) _ fun H1 e1 => ⟨p, g, hid p g H1, v, t, rfl, (hp.mono e1).wide, ha.ex e1, hd, hn, fun v d H2 q a b => k v d H2 (q.back (hp.mono e1).sub) (((hp.wide.mono e1).sub).trans q.ex) a b⟩⟩
theorem sc_spd : FnScope N__law_spoiled_dict P__law_spoiled_dict (C8.fnScope s__law_spoiled_dict) := fnScope_by (by decide +kernel)
theorem ok_spd (T : TxtK w K mg) {k0 n : Nat} (hk : 2 ≤ k0) (S : Cal P w K mg base k0 "_law_spoiled" (sp_spoil K n) []) : Cal P w K mg base (k0 + 1) "_law_spoiled_dict" (sp_spd K n) [] := by
  refine mk_cal (k := k0) T.d_spoiled_dict sc_spd (fun vs H Q E h => ?_) (fun f cdv A outer s H vs Q E hr h => ?_)
  · obtain ⟨_, _, _, _, _, _, rfl, _⟩ := h
    rfl
  · obtain ⟨p, g, B, a, z, t, rfl, hp, ha, hd, hn, k⟩ := h
    have nd := sc_spd.nd
    have hu := hu_of hr
    refine ⟨_, pss_cons (ps_set (i := 2) nd rfl (Or.inl rfl) (pe_callTy cr_copyD (by rfl) T.dictT (by decide +kernel) (pa_cons (pv 1) pa_nil)))
      (pss_cons (ps_set (i := 3) nd rfl (Or.inl rfl) (pe_ix ix_list (pe_callB (cr_sortD rfl) (by rfl) T.sortedT (by decide +kernel) (pa_cons (pv 1) pa_nil)) (pe_c (ok_take T) hr (by omega) (by rfl) (pa_cons (pv 0) (pa_cons (pe_callB call_lenD (by rfl) T.len (by decide +kernel) (pa_cons (pv 1) pa_nil)) pa_nil))) (fun _ _ => rfl)))
      (pss_cons (ps_set (i := 4) nd rfl (Or.inl rfl) (pe_c (ok_take T) hr (by omega) (by rfl) (pa_cons (pv 0) (pa_cons pe_int pa_nil))))
      (pss_cons (ps_if (pt_cmpR op_eq (pv 4) pe_int (nomark _)) (pss_one (ps_expr (pe_bm PySem.F.plainAttrs_dict PySem.F.slot_dict_pop PySem.F.type_dict_pop mt_popD (pv 2) (pa_cons (pv 3) pa_nil))))
        (pss_one (ps_if (pt_cmpR op_eq (pv 4) pe_int (nomark _))
          (pss_cons (ps_set (i := 5) nd rfl (Or.inl rfl) (pe_c (ok_key T) hr (by omega) (by rfl) (pa_cons (pv 0) pa_nil))) (pss_one (ps_oput hu (pv 2) (pv 5) (pe_dget hu (pv 1) (pv 3) (fun _ _ => rfl)) (by rfl))))
          (pss_one (ps_dput hu (pv 2) (pv 3) (pe_c S hr (by omega) (by rfl) (pa_cons (pv 0) (pa_cons (pe_dget hu (pv 1) (pv 3) (fun _ _ => rfl)) pa_nil))) (by rfl))))))
      (pss_one (ps_ret (pv 2)))))), ?_⟩
    cases ha with
    | @d1 _ _ w0 _ ha hw =>
    refine ⟨_, rfl, a, _, rfl, .inl ha, fun c hc => ?_⟩
    have hB : B c = none := fresh_back hp.ex hc
    have hcn := hp.new hc
    have e1 : Ex H (upd H c (.dK [(Sum.inr z, w0)])) := Ex.new hc
    have gc : upd H c (.dK [(Sum.inr z, w0)]) c = some (.dK [(Sum.inr z, w0)]) := upd_same
    generalize upd H c (.dK [(Sum.inr z, w0)]) = H1 at e1 gc ⊢
    have p1 := hp.mono e1
    have a1 := e1 _ _ ha
    have hca : c ≠ a := fun e => by subst e; rw [ha] at hc; cases hc
    -- sorted(thing)[take(pot, len(thing))]
    refine ⟨_, rfl, a, _, [z], rfl, .inl a1, rfl, (show 1 < 64 by decide), fun ys q hperm hsrt hq => ?_⟩
    obtain rfl : ys = [z] := List.perm_singleton.mp hperm
    have e2 : Ex H1 (upd H1 q (.lst ([z].map V.str))) := Ex.new hq
    have gq : upd H1 q (.lst ([z].map V.str)) q = some (.lst [.str z]) := upd_same
    generalize upd H1 q (.lst ([z].map V.str)) = H2 at e2 gq ⊢
    have p2 := p1.mono e2
    have hqn := p1.new hq
    refine r_takeE (m := 1) rfl p2 (ev_cb (ea_cons (ev_var rfl) ea_nil) (rc_lenD (e2 _ _ a1))) (by decide) (by decide) fun r H3 r0 r1 p3 x3 => ?_
    have hr0 : r = 0 := by omega
    subst hr0
    have g3 : H3 q = some (.lst [.str z]) := x3 q _ (by rw [hid_ne hqn.1 hqn.2]; exact gq)
    refine ⟨q, _, 0, .str z, rfl, rfl, sq_of g3, rfl, ?_⟩
    have a3 : H3 a = some (.dK [(Sum.inr z, w0)]) := dK_pot p2 x3 (e2 _ _ a1)
    have c3 : H3 c = some (.dK [(Sum.inr z, w0)]) := dK_pot p2 x3 (e2 _ _ gc)
    have w3 : AtX K H3 w0 t := AtX.pot p2 x3 p3 (hw.ex (e1.trans e2))
    -- way
    refine r_take rfl p3 (by decide) (by decide) fun r H4 r0 r1 p4 x4 => ?_
    have a4 := dK_pot p3 x4 a3
    have c4 := dK_pot p3 x4 c3
    have w4 : AtX K H4 w0 t := AtX.pot p3 x4 p4 w3
    have dec : ∀ {i : Int}, V.bl (decide (V.int r = V.int i)) = V.bl (decide (r = i)) := fun {i} => by congr 1; exact decide_eq_decide.mpr ⟨fun h => by injection h, fun h => by rw [h]⟩
    have fin : ∀ {G : Hp} {σ' : L2.St}, σ'[2]? = some (some (.ref c)) → PotAt B G p g → At K G (.ref c) .oth → tRet (tVar 2) { nx := fun _ H' => Q .non H', rt := Q } σ' G := fun h1 h2 h3 => ⟨_, h1, k _ _ h2 h3⟩
    refine s_if (D := { nx := tRet (tVar 2) { nx := fun _ H' => Q .non H', rt := Q }, rt := Q }) (b := decide (r = 0)) (et_test (ev_is (ev_op (ev_var (v := .int r) rfl) (ev_c (v := .int 0)) (rv_eq rfl)) dec)) (fun _ H5 e5 => ?_) (fun _ H5 e5 => ?_)
    · have c5 := e5 _ _ c4
      refine ⟨_, rfl, Or.inr (Or.inr (Or.inl ⟨rfl, .inl ⟨_, c5⟩⟩)), _, rfl, c, _, Sum.inr z, w0, rfl, rfl, c5, by simp [valV], ?_⟩
      exact fin rfl ((p4.mono e5).upd hB hcn.1 hcn.2) (.dic (.inl upd_same))
    refine s_if (D := { nx := tRet (tVar 2) { nx := fun _ H' => Q .non H', rt := Q }, rt := Q }) (b := decide (r = 1)) (et_test (ev_is (ev_op (ev_var (v := .int r) rfl) (ev_c (v := .int 1)) (rv_eq rfl)) dec)) (fun _ H6 e6 => ?_) (fun _ H6 e6 => ?_)
    · have p6 := (p4.mono e5).mono e6
      refine r_key rfl p6 fun y H7 p7 x7 hy => ?_
      have a7 := dK_pot p6 x7 (e6 _ _ (e5 _ _ a4))
      have c7 := dK_pot p6 x7 (e6 _ _ (e5 _ _ c4))
      refine ⟨_, rfl, _, rfl, a, w0, rfl, .inl ⟨_, Sum.inr z, .inl a7, rfl, by simp [valV]⟩, _, rfl, _, rfl, ?_⟩
      rcases hy with rfl | ⟨b, rfl⟩ | ⟨ky, rfl⟩ | ⟨b, ks, rfl, hb⟩
      · exact ⟨c, _, rfl, .inr ⟨⟨_, c7⟩, .inl rfl, rfl⟩, fin rfl (p7.upd hB hcn.1 hcn.2) (.odd (.inl upd_same))⟩
      · exact ⟨c, _, rfl, .inr ⟨⟨_, c7⟩, .inr (.inl ⟨b, rfl⟩), rfl⟩, fin rfl (p7.upd hB hcn.1 hcn.2) (.odd (.inl upd_same))⟩
      · exact ⟨c, _, rfl, .inl (DPut.k (k := ky) c7 (show 1 < sizeLine by decide)), fin rfl (p7.upd hB hcn.1 hcn.2) (.dic (.inl upd_same))⟩
      · exact ⟨c, _, rfl, .inr ⟨⟨_, c7⟩, .inr (.inr ⟨b, ks, rfl, hb⟩), rfl⟩, fin rfl (p7.upd hB hcn.1 hcn.2) (.odd (.inl upd_same))⟩
    · have p6 := (p4.mono e5).mono e6
      refine r_spoil rfl p6 (ev_dget (k := Sum.inr z) (ev_var rfl) (ev_var rfl) (.inl (e6 _ _ (e5 _ _ a4))) (by simp [valV])) (w4.ex (e5.trans e6)) hd hn fun y d H7 p7 x7 hy _ => ?_
      have c7 := dK_pot p6 x7 (e6 _ _ (e5 _ _ c4))
      exact ⟨_, rfl, _, rfl, c, _, rfl, DPut.k (k := Sum.inr z) c7 (show 1 < sizeLine by decide), fin rfl (p7.upd hB hcn.1 hcn.2) (.dic (.inl upd_same))⟩
end
end EE
set_option Elab.async false
set_option linter.all false
set_option maxRecDepth 100000
set_option maxHeartbeats 4000000
namespace EE
open PySem L2 Evl
open C8 (Cal Mak cal0 mak0 pe_c pe_mk pe_gc fnScope_by)
def Tr.isDict : Tr → Bool
  | .d0 => true
  | .d1 _ _ => true
  | _ => false
def Tr.isTup : Tr → Bool
  | .tup _ => true
  | _ => false
section
variable {K : PySem.W.Frag} {σ : L2.St} {B H H' : Hp} {ta tb tc te tv : TE} {t u : TA} {x y z v : V} {d : Tr} {ds es : List Tr}
theorem atx_isDict (h : AtX K H v d) : ∃ t, TyX K H v t ∧ PySem.W.kitOne K t (.type "dict") = some d.isDict := by
  cases h with
  | non => exact ⟨_, .base .non, kit_ty (by decide +kernel)⟩
  | bl b => exact ⟨_, .base (.bl b), kit_ty (show kitB "bool" "dict" = some false from by decide +kernel)⟩
  | int i => exact ⟨_, .base (.int i), kit_ty (show kitB "int" "dict" = some false from by decide +kernel)⟩
  | str z h => exact ⟨_, .base (.str z), kit_ty (show kitB "str" "dict" = some false from by decide +kernel)⟩
  | tup h r hz0 => exact ⟨_, tyx_sqT h, kit_ty (show kitB "tuple" "dict" = some false from by decide +kernel)⟩
  | lst h => exact ⟨_, tyx_sqL h, kit_ty (by decide +kernel)⟩
  | d0 h => exact ⟨_, tyx_rdD (.inl h), kit_ty (by decide +kernel)⟩
  | d1 h r => exact ⟨_, tyx_rdD (.inl h), kit_ty (show kitB "dict" "dict" = some true from by decide +kernel)⟩
theorem et_isDictX (h : AtX K H v d) (he : Ev te σ H v) : EvT (tB (tCB (rIsi K) (tCons te (tCons (tC (.ty "dict")) tNil)))) σ H d.isDict := by
  obtain ⟨t, h1, h2⟩ := atx_isDict h
  exact et_B (ev_cb (ea_cons he (ea_cons ev_c ea_nil)) (rc_isi (.ty "dict") h1 h2))
theorem dt_isTup : d.dt.isTup = d.isTup := by
  cases d <;> rw [Tr.dt] <;> rfl
theorem et_isTupX (h : AtX K H v d) (he : Ev te σ H v) : EvT (tB (tCB (rIsi K) (tCons te (tCons (tC (.ty "tuple")) tNil)))) σ H d.isTup := et_is (et_isTup h.at he) dt_isTup
theorem r_sl {tl th : TO} {a : Addr} {xs : List V} {lo hi : Option Int} {Q : VK} (h : Ev te σ H (.ref a)) (h1 : EvO tl σ H lo) (h2 : EvO th σ H hi) (hs : SqT K H a xs) (k : ∀ c H2, Ex H H2 → SqT K H2 c (cutV xs lo hi) → Q (.ref c) H2) : tSl (rSlA K) te tl th σ H Q :=
  h H (Ex.refl H) _ fun H1 e1 => h1 H1 e1 _ fun H2 e2 => h2 H2 (e1.trans e2) _ fun H3 e3 => r_slX (ex_t ((e1.trans e2).trans e3) hs) fun c H4 e4 h4 => k c H4 (((e1.trans e2).trans e3).trans e4) h4
theorem ev_neg1 : Ev (tUn (rU fun i => V.int (-i)) (tC (V.int 1))) σ H (.int (-1)) := fun H1 e Q q => ⟨1, rfl, q H1 (Ex.refl H1)⟩
/-- an if whose test may change what stands -/
theorem q_ifR {c : TT} {tu tz : TS} {D : Ends} (M : Bool → Hp → Prop) (run : ∀ R : Bool → Hp → Prop, (∀ b H1, M b H1 → R b H1) → c σ H R) (h1 : ∀ H1, M true H1 → tu { D with nx := tz D } σ H1) (h2 : ∀ H1, M false H1 → tz D σ H1) : tSeq (tIfS c tu tNext) tz D σ H :=
  run _ fun b H1 m => by
    cases b with
    | true => exact iteT (h1 H1 m)
    | false => exact iteF (h2 H1 m)
theorem dts_take {xs : List Tr} {i : Nat} : (Tr.dts xs).take i = Tr.dts (xs.take i) := by rw [dts_map, dts_map, List.map_take]
theorem dts_drop {xs : List Tr} {i : Nat} : (Tr.dts xs).drop i = Tr.dts (xs.drop i) := by rw [dts_map, dts_map, List.map_drop]
end
section
variable {P : Program} {w : World} {K : PySem.W.Frag} {mg : Str → Option Value} {base : Heap}
theorem sc_spoiled : FnScope N__law_spoiled P__law_spoiled (C8.fnScope s__law_spoiled) := fnScope_by (by decide +kernel)
theorem ok_spoil (T : TxtK w K mg) : ∀ n : Nat, Cal P w K mg base (6 + 2 * n) "_law_spoiled" (sp_spoil K n) []
  | 0 => mk_cal (k := 5) T.d_spoiled sc_spoiled (fun vs H Q E h => by obtain ⟨_, _, _, _, _, rfl, _⟩ := h; rfl) (fun f cdv A outer s H vs Q E hr h => by
      obtain ⟨_, _, _, _, t, _, _, _, hd, _⟩ := h
      have := deep_pos t
      omega)
  | n + 1 => by
    have IH := ok_spoil T n
    have SD := ok_spd (P := P) (base := base) T (show 2 ≤ 6 + 2 * n by omega) IH
    rw [show 6 + 2 * (n + 1) = 7 + 2 * n + 1 by omega]
    refine mk_cal (k := 7 + 2 * n) T.d_spoiled sc_spoiled (fun vs H Q E h => ?_) (fun f cdv A outer s H vs Q E hr h => ?_)
    · obtain ⟨_, _, _, _, _, rfl, _⟩ := h
      rfl
    · obtain ⟨p, g, B, v, t, rfl, hp, ha, hd, hn, k⟩ := h
      have nd := sc_spoiled.nd
      have OD := ok_odd (P := P) (base := base) T
      refine ⟨_, pss_cons (ps_if (PW.pt (pw_and (pt_val (pe_callB call_isi (by rfl) T.isi (by decide +kernel) (pa_cons (pv 1) (pa_cons (pe_bltn (v := .ty "dict") (by rfl) T.dictT (u := .type "dict") (by decide +kernel) (by rfl)) pa_nil))))
          (pw_and (pt_cmpR op_gt (pe_callB call_lenD (by rfl) T.len (by decide +kernel) (pa_cons (pv 1) pa_nil)) pe_int (nomark _)) (pw_and1 (pt_cmpR op_gt (pe_c (ok_take T) hr (by omega) (by rfl) (pa_cons (pv 0) (pa_cons pe_int pa_nil))) pe_int (nomark _)))))) (pss_one (ps_ret (pe_c SD hr (by omega) (by rfl) (pa_cons (pv 0) (pa_cons (pv 1) pa_nil))))) pss_nil)
        (pss_cons (ps_if (pt_not (pt_val (pe_callB call_isi (by rfl) T.isi (by decide +kernel) (pa_cons (pv 1) (pa_cons (pe_bltn (v := .ty "tuple") (by rfl) T.tupT (u := .type "tuple") (by decide +kernel) (by rfl)) pa_nil))))) (pss_one (ps_ret (pe_c OD hr (by omega) (by rfl) (pa_cons (pv 0) pa_nil)))) pss_nil)
        (pss_cons (ps_if (PW.pt (pw_and (pt_cmpR op_gt (pe_callB call_len_seq (by rfl) T.len (by decide +kernel) (pa_cons (pv 1) pa_nil)) pe_int (nomark _)) (pw_and1 (pt_cmpR op_gt (pe_c (ok_take T) hr (by omega) (by rfl) (pa_cons (pv 0) (pa_cons pe_int pa_nil))) pe_int (nomark _)))))
          (pss_cons (ps_set (i := 2) nd rfl (Or.inl rfl) (pe_c (ok_take T) hr (by omega) (by rfl) (pa_cons (pv 0) (pa_cons (pe_callB call_len_seq (by rfl) T.len (by decide +kernel) (pa_cons (pv 1) pa_nil)) pa_nil))))
          (pss_one (ps_ret (pe_op op_catA (pe_op op_catA (pe_slice sl_tupA (pv 1) po_none (po_some (pv 2))) (pe_tup (pa_cons (pe_c IH hr (by omega) (by rfl) (pa_cons (pv 0) (pa_cons (pe_ix ix_tup (pv 1) (pv 2) (fun _ _ => rfl)) pa_nil))) pa_nil))) (pe_slice sl_tupA (pv 1) (po_some (pe_op op_add (pv 2) pe_int)) po_none))))) pss_nil)
        (pss_cons (ps_set (i := 3) nd rfl (Or.inl rfl) (pe_c (ok_take T) hr (by omega) (by rfl) (pa_cons (pv 0) (pa_cons pe_int pa_nil))))
        (pss_cons (ps_if (pt_cmpR op_eq (pv 3) pe_int (nomark _)) (pss_one (ps_ret (pe_callTy call_list_of (by rfl) T.listT (by decide +kernel) (pa_cons (pv 1) pa_nil)))) pss_nil)
        (pss_cons (ps_if (pt_cmpR op_eq (pv 3) pe_int (nomark _)) (pss_one (ps_ret (pe_op op_catA (pv 1) (pe_tup (pa_cons (pe_c OD hr (by omega) (by rfl) (pa_cons (pv 0) pa_nil)) pa_nil))))) pss_nil)
        (pss_cons (ps_if (pt_cmpR op_eq (pv 3) pe_int (nomark _)) (pss_one (ps_ret (pe_slice sl_tupA (pv 1) po_none (po_some (pe_un un_neg pe_int))))) pss_nil)
        (pss_cons (ps_if (pt_cmpR op_eq (pv 3) pe_int (nomark _)) (pss_one (ps_ret (pe_op op_catA (pv 1) (pv 1)))) pss_nil)
        (pss_one (ps_ret (pe_c OD hr (by omega) (by rfl) (pa_cons (pv 0) pa_nil))))))))))), ?_⟩
      have odd : ∀ {σ' : L2.St} {G : Hp} {E' : XK}, σ'[0]? = some (some (.ref p)) → PotAt B G p g → tCall (sp_draw K 5) [] E' (tCons (tVar 0) tNil) σ' G Q := fun h1 h2 => r_draw h1 h2 fun y d H2 p2 x2 a2 n2 => k y d.dt H2 p2 a2.at (by have := nodes_sz d; omega)
      have hoth : Dt.oth.nodes = 1 := by rw [Dt.nodes]
      refine q_ifR (fun b H1 => PotAt B H1 p g ∧ AtX K H1 v t ∧ (b = true → ∃ z t', t = .d1 z t')) (fun R hR => ?_) ?_ ?_
      · cases hdc : t.isDict with
        | false => exact (et_is (et_and (a := false) (b := false) (et_is (et_isDictX ha (ev_var rfl)) hdc) (fun z => nomatch z)) rfl : EvT _ _ _ false) H (Ex.refl H) R fun H1 e1 => hR _ _ ⟨hp.mono e1, ha.ex e1, fun z => nomatch z⟩
        | true =>
          refine (et_is (et_isDictX ha (ev_var rfl)) hdc : EvT _ _ _ true) H (Ex.refl H) _ fun H1 e1 => iteT ?_
          cases ha with
          | @d0 a h =>
            refine (et_test (ev_is (ev_op (ev_cb (ea_cons (ev_var rfl) ea_nil) (rc_lenD (e1 _ _ h))) (ev_c (v := .int 0)) rv_I0) (show V.bl (decide ((0 : Int) < (0 : Nat))) = V.bl false by decide)) : EvT _ _ _ false) H1 (Ex.refl H1) _ fun H2 e2 => iteF (hR _ _ ⟨hp.mono (e1.trans e2), .d0 (e2 _ _ (e1 _ _ h)), fun z => nomatch z⟩)
          | @d1 a z w0 t' h hw =>
            refine (et_test (ev_is (ev_op (ev_cb (ea_cons (ev_var rfl) ea_nil) (rc_lenD (e1 _ _ h))) (ev_c (v := .int 0)) rv_I0) (show V.bl (decide ((0 : Int) < (1 : Nat))) = V.bl true by decide)) : EvT _ _ _ true) H1 (Ex.refl H1) _ fun H2 e2 => iteT ?_
            have p2 := hp.mono (e1.trans e2)
            exact r_takeT rfl p2 (by decide) (by decide) fun b H3 p3 x3 => hR _ _ ⟨p3, AtX.pot p2 x3 p3 (.d1 (e2 _ _ (e1 _ _ h)) (hw.ex (e1.trans e2))), fun _ => ⟨z, t', rfl⟩⟩
          | _ => cases hdc
      · rintro H1 ⟨p1, a1, hz⟩
        obtain ⟨z, t', rfl⟩ := hz rfl
        rw [Tr.deep] at hd
        rw [Tr.sz] at hn
        cases a1 with
        | d1 h hw => exact ⟨_, rfl, _, rfl, p, g, B, _, z, t', rfl, p1, .d1 h hw, by omega, by omega, fun y H2 p2 a2 => k y .oth H2 p2 a2 (by rw [hoth]; omega)⟩
      rintro H1 ⟨p1, a1, _⟩
      cases ht : t.isTup with
      | false => exact q_when (b := true) (et_is (et_not (et_isTupX a1 (ev_var rfl))) (by rw [ht]; rfl)) (fun _ H2 e2 => odd rfl (p1.mono e2)) (fun z => nomatch z)
      | true =>
      refine q_no (et_is (et_not (et_isTupX a1 (ev_var rfl))) (by rw [ht]; rfl)) fun H2 e2 => ?_
      have p2 := p1.mono e2
      have a2 := a1.ex e2
      clear a1 p1 e2 ha hp
      cases t with
      | tup xs =>
        cases a2 with
        | @tup a vs _ h r hz =>
        rw [Tr.sz] at hn k
        rw [Tr.deep] at hd
        have hlen : vs.length ≤ 1000 := by rw [r.len]; have := szs_len (xs := xs); omega
        have hnl := nodesL_szs xs
        refine q_ifR (fun b H1 => PotAt B H1 p g ∧ AtX K H1 (.ref a) (.tup xs) ∧ SqT K H1 a vs ∧ AtXL K H1 vs xs ∧ (b = true → 0 < vs.length)) (fun R hR => ?_) ?_ ?_
        · refine (et_test (ev_op (ev_cb (ea_cons (ev_var rfl) ea_nil) (rc_lenS (.inr h))) (ev_c (v := .int 0)) rv_I0) : EvT _ _ _ (decide ((0 : Int) < (vs.length : Nat)))) H2 (Ex.refl H2) _ fun H3 e3 => ?_
          have p3 := p2.mono e3
          by_cases hv : 0 < vs.length
          · rw [decide_eq_true (show (0 : Int) < (vs.length : Nat) by omega)]
            exact iteT (r_takeT rfl p3 (by decide) (by decide) fun b H4 p4 x4 => hR _ _ ⟨p4, AtX.pot p3 x4 p4 (.tup (ex_t e3 h) (r.ex e3) hz), sqT_pot p3 x4 (ex_t e3 h), AtXL.pot p3 x4 p4 (r.ex e3), fun _ => hv⟩)
          · rw [decide_eq_false (show ¬ (0 : Int) < (vs.length : Nat) by omega)]
            exact iteF (hR _ _ ⟨p3, .tup (ex_t e3 h) (r.ex e3) hz, ex_t e3 h, r.ex e3, fun z => nomatch z⟩)
        · rintro H3 ⟨p3, a3, h3, r3, hv⟩
          have hv := hv rfl
          refine r_takeE (m := (vs.length : Nat)) rfl p3 (ev_cb (ea_cons (ev_var rfl) ea_nil) (rc_lenS (.inr h3))) (by omega) (by omega) fun i H4 i0 i1 p4 x4 => ?_
          obtain ⟨j, rfl⟩ : ∃ j : Nat, i = (j : Nat) := ⟨i.toNat, by omega⟩
          have hj : j < vs.length := by omega
          have h4 := sqT_pot p3 x4 h3
          have r4 := AtXL.pot p3 x4 p4 r3
          obtain ⟨x, hx, hax⟩ := r4.get (List.getElem?_eq_getElem hj)
          have hsz := szs_at hx
          refine r_sl (ev_var (v := .ref a) rfl) eo_none (eo_some (ev_var (v := .int (j : Nat)) rfl)) h4 fun c1 H5 e5 h5 => ?_
          rw [cut_to (by omega)] at h5
          have p5 := p4.mono e5
          refine r_spoil rfl p5 (ev_op (ev_var (v := .ref a) rfl) (ev_var (v := .int (j : Nat)) rfl) (rv_ixT (ex_t e5 h4) (L2.at_of (j := j) rfl (List.getElem?_eq_getElem hj)))) (hax.ex e5) (by have := deeps_mem (List.mem_of_getElem? hx); omega) (by omega) fun y d' H6 p6 x6 hy hny => ⟨show 1 ≤ sizeLine by decide, fun q hq => ?_⟩
          have e7 := Ex.new (o := .tup [y]) hq
          have g7 : SqT K (upd H6 q (.tup [y])) q [y] := st_of upd_same
          generalize upd H6 q (.tup [y]) = H7 at e7 g7 ⊢
          refine r_catX (ex_t e7 (sqT_pot p5 x6 h5)) g7 (by rw [List.length_take, List.length_singleton]; omega) fun c2 H8 e8 h8 => ?_
          have h8v : SqT K H8 a vs := ex_t (e7.trans e8) (sqT_pot p5 x6 (ex_t e5 h4))
          refine r_sl (ev_var (v := .ref a) rfl) (eo_some (ev_op (ev_var (v := .int (j : Nat)) rfl) (ev_c (v := .int 1)) rv_I0)) eo_none h8v fun c3 H9 e9 h9 => ?_
          rw [show ((j : Nat) : Int) + 1 = ((j + 1 : Nat) : Int) by omega, cut_from (by omega)] at h9
          refine r_catX (ex_t e9 h8) h9 (by rw [List.length_append, List.length_take, List.length_singleton, List.length_drop]; omega) fun c4 H10 e10 h10 => ?_
          have e710 := e7.trans ((e8.trans e9).trans e10)
          have r10 := ((AtXL.pot p5 x6 p6 (r4.ex e5)).ex e710).at
          have hall := (((r10.take j).app (.cons (hy.ex e710) .nil)).app (r10.drop (j + 1)))
          have n1 := nodesL_szs (xs.take j)
          have n2 := nodesL_szs (xs.drop (j + 1))
          refine k _ _ H10 (p6.mono e710) (.tup h10 hall (by rw [List.length_append, List.length_append, List.length_take, List.length_singleton, List.length_drop]; omega)) ?_
          rw [nodes_tup, nodesL_app, nodesL_app, dts_take, dts_drop, show Dt.nodesL [d'] = d'.nodes by rw [Dt.nodesL, Dt.nodesL]; omega]
          omega
        · rintro H3 ⟨p3, a3, h3, r3, _⟩
          refine r_take rfl p3 (by decide) (by decide) fun i H4 i0 i1 p4 x4 => ?_
          have h4 := sqT_pot p3 x4 h3
          have r4 := AtXL.pot p3 x4 p4 r3
          have dec : ∀ {j : Int}, V.bl (decide (V.int i = V.int j)) = V.bl (decide (i = j)) := fun {j} => by congr 1; exact decide_eq_decide.mpr ⟨fun h => by injection h, fun h => by rw [h]⟩
          refine q_when (b := decide (i = 0)) (et_test (ev_is (ev_op (ev_var (v := .int i) rfl) (ev_c (v := .int 0)) (rv_eq rfl)) dec)) (fun _ H5 e5 => ?_) (fun _ H5 e5 => ?_)
          · exact ⟨_, rfl, a, vs, rfl, .inr (ex_t e5 h4), fun l hl => k _ .oth _ ((p4.mono e5).mono (Ex.new hl)) (.lst (sq_of upd_same)) (by rw [hoth]; omega)⟩
          refine q_when (b := decide (i = 1)) (et_test (ev_is (ev_op (ev_var (v := .int i) rfl) (ev_c (v := .int 1)) (rv_eq rfl)) dec)) (fun _ H6 e6 => ?_) (fun _ H6 e6 => ?_)
          · have p6 := (p4.mono e5).mono e6
            refine ⟨_, rfl, r_draw rfl p6 fun y d H7 p7 x7 a7 n7 => ⟨show 1 ≤ sizeLine by decide, fun q hq => ?_⟩⟩
            have e8 := Ex.new (o := .tup [y]) hq
            refine r_catX (ex_t e8 (sqT_pot p6 x7 (ex_t (e5.trans e6) h4))) (st_of upd_same) (by rw [List.length_singleton]; omega) fun c H9 e9 h9 => ?_
            have r9 := ((AtXL.pot p6 x7 p7 (r4.ex (e5.trans e6))).ex (e8.trans e9)).at
            refine k _ _ H9 (p7.mono (e8.trans e9)) (.tup h9 (r9.app (.cons (a7.at.ex (e8.trans e9)) .nil)) (by rw [List.length_append, List.length_singleton]; omega)) ?_
            have := nodes_sz d
            rw [nodes_tup, nodesL_app, show Dt.nodesL [d.dt] = d.dt.nodes by rw [Dt.nodesL, Dt.nodesL]; omega]
            omega
          refine q_when (b := decide (i = 2)) (et_test (ev_is (ev_op (ev_var (v := .int i) rfl) (ev_c (v := .int 2)) (rv_eq rfl)) dec)) (fun _ H7 e7 => ?_) (fun _ H7 e7 => ?_)
          · refine r_sl (hi := some (-1)) (ev_var (v := .ref a) rfl) eo_none (eo_some (ev_neg1)) (ex_t ((e5.trans e6).trans e7) h4) fun c H8 e8 h8 => ?_
            have e48 := ((e5.trans e6).trans e7).trans e8
            have r8 := (r4.ex e48).at
            refine k _ _ H8 (p4.mono e48) (.tup h8 ((r8.drop _).take _) (by have := cutV_length vs none (some (-1)); omega)) ?_
            rw [nodes_tup]
            have n1 := nodesL_take (xs := (Tr.dts xs).drop (HT.sIx vs.length 0 none)) (i := HT.sIx vs.length vs.length (some (-1)) - HT.sIx vs.length 0 none)
            have n2 := nodesL_drop (xs := Tr.dts xs) (i := HT.sIx vs.length 0 none)
            omega
          refine q_when (b := decide (i = 3)) (et_test (ev_is (ev_op (ev_var (v := .int i) rfl) (ev_c (v := .int 3)) (rv_eq rfl)) dec)) (fun _ H8 e8 => ?_) (fun _ H8 e8 => ?_)
          · have e48 := ((e5.trans e6).trans e7).trans e8
            refine ⟨_, rfl, _, rfl, r_catX (ex_t e48 h4) (ex_t e48 h4) (by omega) fun c H9 e9 h9 => ?_⟩
            have r9 := (r4.ex (e48.trans e9)).at
            refine k _ _ H9 (p4.mono (e48.trans e9)) (.tup h9 (r9.app r9) (by rw [List.length_append]; omega)) ?_
            rw [nodes_tup, nodesL_app]
            omega
          exact odd rfl ((((p4.mono e5).mono e6).mono e7).mono e8)
      | _ => cases ht
end
end EE
set_option Elab.async false
set_option linter.all false
set_option maxRecDepth 100000
set_option maxHeartbeats 4000000
namespace EE
open PySem L2 Evl
open C8 (Cal Mak cal0 mak0 pe_c pe_mk pe_gc fnScope_by)
abbrev zz : Str := Str.ofString "zz"
abbrev yy : Str := Str.ofString "yy"
theorem nm_zz : isNm zz = true := by decide +kernel
theorem nm_yy : isNm yy = true := by decide +kernel
theorem zz_yy : zz ≠ yy := by decide
def otherD (d : Dt) : Bool := nmD d && !isS zz d
def firstD (d : Dt) : Bool := nmD d && !inS [zz, yy] d
theorem words2 {a b : Dt} : wordsD (.tup [a, b]) = ((nmD a && nmD b) && decide ([unD a, unD b].Nodup)) := by
  show (((decide ((2 : Int) ≤ 3) && (nmD a && (nmD b && true))) && decide (([a, b].map unD).Nodup)) && decide (2 ≤ 2)) = _
  simp
theorem words3 {a b c : Dt} : wordsD (.tup [a, b, c]) = ((nmD a && (nmD b && nmD c)) && decide ([unD a, unD b, unD c].Nodup)) := by
  show (((decide ((3 : Int) ≤ 3) && (nmD a && (nmD b && (nmD c && true)))) && decide (([a, b, c].map unD).Nodup)) && decide (2 ≤ 3)) = _
  simp
theorem wd_first {d : Dt} : wordsD (.tup [.str zz, .str yy, d]) = firstD d := by
  rw [words3]
  cases d with
  | str z =>
    show ((isNm zz && (isNm yy && isNm z)) && decide ([zz, yy, z].Nodup)) = (isNm z && !decide (z ∈ [zz, yy]))
    rw [nm_zz, nm_yy, Bool.true_and, Bool.true_and]
    congr 1
    rw [← decide_not]
    refine decide_eq_decide.mpr ⟨fun h => ?_, fun h => ?_⟩
    · simp only [List.nodup_cons, List.mem_cons, List.not_mem_nil, or_false, not_or] at h ⊢
      exact ⟨fun e => h.1.2 e.symm, fun e => h.2.1 e.symm⟩
    · simp only [List.nodup_cons, List.mem_cons, List.not_mem_nil, or_false, not_or, List.nodup_nil, and_true, not_false_eq_true] at h ⊢
      exact ⟨⟨zz_yy, fun e => h.1 e.symm⟩, fun e => h.2 e.symm⟩
  | _ => simp [firstD, nmD]
theorem wd_zn {d : Dt} : wordsD (.tup [.str zz, d]) = otherD d := by
  rw [words2]
  cases d with
  | str z =>
    show ((isNm zz && isNm z) && decide ([zz, z].Nodup)) = (isNm z && !decide (z = zz))
    rw [nm_zz, Bool.true_and]
    congr 1
    rw [← decide_not]
    refine decide_eq_decide.mpr ⟨fun h => ?_, fun h => ?_⟩
    · simp only [List.nodup_cons, List.mem_cons, List.not_mem_nil, or_false] at h
      exact fun e => h.1 e.symm
    · simp only [List.nodup_cons, List.mem_cons, List.not_mem_nil, or_false, List.nodup_nil, and_true, not_false_eq_true]
      exact fun e => h e.symm
  | _ => simp [otherD, nmD]
theorem wd_nz {d : Dt} : wordsD (.tup [d, .str zz]) = otherD d := by
  rw [words2]
  cases d with
  | str z =>
    show ((isNm z && isNm zz) && decide ([z, zz].Nodup)) = (isNm z && !decide (z = zz))
    rw [nm_zz, Bool.and_true]
    congr 1
    rw [← decide_not]
    refine decide_eq_decide.mpr ⟨fun h => ?_, fun h => ?_⟩
    · simp only [List.nodup_cons, List.mem_cons, List.not_mem_nil, or_false] at h
      exact h.1
    · simp only [List.nodup_cons, List.mem_cons, List.not_mem_nil, or_false, List.nodup_nil, and_true, not_false_eq_true]
      exact h
  | _ => simp [otherD, nmD]
theorem wd_nn {d : Dt} : wordsD (.tup [d, d]) = false := by
  rw [words2]
  simp
theorem wd_znz {d : Dt} : wordsD (.tup [.str zz, d, .str zz]) = false := by
  rw [words3]
  show ((isNm zz && (nmD d && isNm zz)) && decide ([zz, unD d, zz].Nodup)) = false
  simp
section
variable {K : PySem.W.Frag} {σ : L2.St} {H H' : Hp} {ta tb tc te tv : TE} {t u : TA} {x y z v : V} {d : Dt} {ds es : List Dt} {D : Ends} {tu tz : TS}
/-- for x in a list of data: a body that makes new things alone -/
theorem q_forD {j : Nat} (h : DvL K te σ H ds) (S : L2.St → Prop) (h0 : S σ)
    (hs : ∀ (i : Nat) r w σ' H1, ds[i]? = some r → Ex H H1 → S σ' → At K H1 w r → ∀ D' : Ends, (∀ σ2 H2, S σ2 → Ex H1 H2 → D'.nx σ2 H2) → tu D' (σ'.set j (some w)) H1) (k : ∀ σ' H1, S σ' → Ex H H1 → tz D σ' H1) :
    tSeq (tFor (iList K te) (gName j) tu) tz D σ H :=
  h H (Ex.refl H) _ fun p ws H2 hp e2 h2 a2 => ⟨p, rfl, ⟨_, sq_of h2⟩,
    for_list (D := { D with nx := tz D }) (xs := ws) (fun _ σ' H' => S σ' ∧ Ex H2 H') ⟨h0, Ex.refl _⟩ (fun i σ' H' _ w => sq_of (w.2 _ _ h2)) (fun i y σ' H' hy w => by
      obtain ⟨r, hr, ha⟩ := a2.get hy
      exact hs i r y σ' H' hr (e2.trans w.2) w.1 (ha.ex w.2) _ fun σ2 H3 s e => ⟨s, w.2.trans e⟩) (fun σ' H' w => k σ' H' w.1 (e2.trans w.2))⟩
theorem dl_rows {f : Dt → List Dt} {E : XK} (h : Ev te σ H v) (ha : At K H v d) : DvL K (tCall (sp_rows K f) [] E (tCons te tNil)) σ H (f d) := fun H1 e Q q =>
  h H1 e _ fun H2 e2 => ⟨v, d, rfl, ha.ex (e.trans e2), fun l ws H3 hl e3 h3 a3 => q l ws H3 (fresh_back e2 hl) (e2.trans e3) h3 a3⟩
theorem ev_right {n : Nat} {b : Bool} {E : XK} (h : DvE K te σ H d) (h1 : Ev tb σ H (.bl b)) (h2 : Ev tc σ H (.int (n : Nat))) (hb : dueD n d = b) (hz : d.nodes ≤ 38000) (hn : n ≤ 4)
    (hk : dueD n d = true → RightBk ⟨["a"], 2, blkN d n⟩ ∧ sizeD 6 (plF ("g", ⟨["a"], 2, blkN d n⟩)).2.blk ≤ 80000) : Ev (tCall (sp_right10 K) [] E (tCons te (tCons tb (tCons tc tNil)))) σ H (.bl true) := fun H1 e Q q =>
  h H1 e _ fun v H2 e2 a2 => h1 H2 (e.trans e2) _ fun H3 e3 => h2 H3 ((e.trans e2).trans e3) _ fun H4 e4 => ⟨.bl true, ⟨v, d, n, by rw [hb]; rfl, a2.ex (e3.trans e4), hz, hn, hk, rfl⟩, fun H5 e5 => q H5 (((e2.trans e3).trans e4).trans e5)⟩
theorem at_bl {b : Bool} (h : At K H v (.bl b)) : v = .bl b := by cases h; rfl
theorem ev_notinL {z : Str} {zs : List Str} (h : Ev ta σ H (.str z)) (hl : EvL tb σ H (zs.map V.str)) : Ev (tOp (rIn K true) ta tb) σ H (.bl (!decide (z ∈ zs))) := fun H1 e Q q =>
  h H1 e _ fun H2 e2 => hl H2 (e.trans e2) _ fun p H3 _ e3 h3 => ⟨p, zs.map V.str, rfl, .inl (sq_of h3), rfl, flat_strs zs, by
    show Q (.bl (!inV (.str z) (zs.map V.str))) H3
    rw [inV_strs]
    exact q H3 (e2.trans e3)⟩
theorem ev_tst {i : Nat} {E : XK} (h : σ[i]? = some (some v)) (ha : At K H v d) : Ev (tCall (sp_tst K 3) [] E (tCons (tDisp [(tC (.str (Str.ofString "c")), tC (.int 0))]) (tCons (tVar i) (tCons (tC (.int 3)) tNil)))) σ H (.bl (testD kn10 d)) := fun H1 e Q q => fun p hp =>
  ⟨upd_same, [(Sum.inr (Str.ofString "c"), .int 0)], rfl, (show 1 ≤ 15 by decide), _, h, by
    have e2 : Ex H1 (upd (upd H1 p (.dK [])) p (.dK (mergeK [] [(Sum.inr (Str.ofString "c"), .int 0)]))) := (Ex.new hp).mut hp
    have hk : KeysOf (upd (upd H1 p (.dK [])) p (.dK (mergeK [] [(Sum.inr (Str.ofString "c"), .int 0)]))) p [Str.ofString "c"] := ⟨_, .inl upd_same, rfl⟩
    have z := v_tst (n := 3) hk (ha.ex (e.trans e2))
    rw [test_law] at z
    exact z _ (Ex.refl _) Q (fun H3 e3 => q H3 (e2.trans e3)) E⟩
/-- a part of a row -/
theorem dv_ix {i : Nat} {p : Dt} (he : Ev te σ H v) (ha : At K H v (.tup ds)) (hp : ds[i]? = some p) : DvE K (tOp (rIxT K) te (tC (.int (i : Nat)))) σ H p := by
  cases ha with
  | tup h r hz =>
    obtain ⟨w0, a1, a2, a3⟩ := ev_ixA (σ := σ) (te := te) (i := i) he h r (d := p) hp
    exact dd_of a3 a1
theorem ev_ixBl {i : Nat} {b : Bool} (he : Ev te σ H v) (ha : At K H v (.tup ds)) (hp : ds[i]? = some (.bl b)) : Ev (tOp (rIxT K) te (tC (.int (i : Nat)))) σ H (.bl b) := by
  cases ha with
  | tup h r hz =>
    obtain ⟨w0, a1, a2, a3⟩ := ev_ixA (σ := σ) (te := te) (i := i) he h r (d := .bl b) hp
    rw [at_bl a1] at a3
    exact a3
end
/-! how much the rows are -/
theorem rows_exp {e r : Dt} (hr : r ∈ expRows e) : r.nodes ≤ e.nodes + 30 := by
  simp only [expRows, List.mem_cons, List.not_mem_nil, or_false] at hr
  rcases hr with rfl | rfl | rfl | rfl | rfl | rfl | rfl | rfl | rfl | rfl | rfl | rfl | rfl | rfl | rfl | rfl | rfl | rfl | rfl | rfl | rfl <;> simp only [Dt.nodes, Dt.nodesL] <;> omega
theorem rows_nam {e r : Dt} (hr : r ∈ namRows e) : r.nodes ≤ e.nodes + 30 := by
  simp only [namRows, List.mem_cons, List.not_mem_nil, or_false] at hr
  rcases hr with rfl | rfl | rfl | rfl | rfl | rfl | rfl | rfl | rfl | rfl | rfl | rfl | rfl | rfl | rfl <;> simp only [Dt.nodes, Dt.nodesL] <;> omega
section
variable {P : Program} {w : World} {K : PySem.W.Frag} {mg : Str → Option Value} {base : Heap} {sa : Addr} {rs : Str → Addr}
def sp_law (K : PySem.W.Frag) : Sp := PuV fun vs H z => ∃ (a : Addr) (ns : List Int), vs = [.ref a] ∧ SqL K H a (ns.map V.int) ∧ ns.length ≤ 63 ∧ z = .bl true
theorem sc_law : FnScope N_law P_law (C8.fnScope s_law) := fnScope_by (by decide +kernel)
theorem fn_law (T : TxtK w K mg) (S : Shp w K mg sa rs) (PP : ∀ C, mg "Program" = some (.ref C) → PropX K C "functions" "Program.functions" s_Program_functions) {f : Addr} {fd : FuncData} (F : C8.Fun K "law" "law" s_law f fd) : FnOk P w K mg base C8.CX0 60 f fd P_law (sp_law K) := by
  have OD := ok_odd (P := P) (base := base) T
  have DE := ok_drawn_e (P := P) (base := base) T OD
  have DT := ok_drawn_t (P := P) (base := base) T OD 4
  have SPO := ok_spoil (P := P) (base := base) T 20
  have RI := ok_right10 (P := P) (base := base) T S right_cs10 PP
  have TS := ok_tested (P := P) (base := base) T 3
  refine C8.fn0 F sc_law (fun vs H Q E h => ?_) (fun cdv A outer s H vs Q E hr h => ?_)
  · obtain ⟨_, ⟨_, _, rfl, _⟩, _⟩ := h
    rfl
  · obtain ⟨_, ⟨a, ns, rfl, hns, hlen, rfl⟩, k⟩ := h
    have nd := sc_law.nd
    have hu1 : (A.deeper (PyProof.Rows.envOfC "law" (C8.fnScope s_law) s.heap.objs.size f cdv)).units + 1 < cLine := hu_of hr
    have RIGHT : ∀ {X : Cx} {e1 e2 e3 : Expr} {t1 t2 t3 : TE}, True := trivial
    refine ⟨_, pss_cons (ps_set (i := 1) nd rfl (Or.inl rfl) (pe_c (ok_pot T) hr (by decide) (by rfl) (pa_cons (pv 0) (pa_cons pe_int pa_nil))))
      (pss_cons (ps_set (i := 2) nd rfl (Or.inl rfl) (pe_c (ok_take T) hr (by decide) (by rfl) (pa_cons (pv 1) (pa_cons pe_int pa_nil))))
      (pss_cons (ps_set (i := 3) nd rfl (Or.inl rfl) (pe_c (ok_take T) hr (by decide) (by rfl) (pa_cons (pv 1) (pa_cons pe_int pa_nil))))
      (pss_cons (ps_set (i := 4) nd rfl (Or.inl rfl) (pe_c DE hr (by decide) (by rfl) (pa_cons (pv 1) pa_nil)))
      (pss_cons (ps_set (i := 5) nd rfl (Or.inl rfl) (pe_ix ix_list (pe_lst (pa_cons (pe_c (ok_name T) hr (by decide) (by rfl) (pa_cons (pv 1) pa_nil)) (pa_cons (pe_c OD hr (by decide) (by rfl) (pa_cons (pv 1) pa_nil)) pa_nil))) (pe_c (ok_take T) hr (by decide) (by rfl) (pa_cons (pv 1) (pa_cons pe_int pa_nil))) (fun _ _ => rfl)))
      (pss_cons (ps_set (i := 6) nd rfl (Or.inl rfl) (pe_c DT hr (by decide) (by rfl) (pa_cons (pv 1) (pa_cons (pe_c (ok_take T) hr (by decide) (by rfl) (pa_cons (pv 1) (pa_cons pe_int pa_nil))) pa_nil))))
      (Evl.pss_cut (ps_if (pt_cmpR op_eq (pv 2) pe_int (nomark _)) (pss_one (ps_set (i := 6) nd rfl (Or.inl rfl) (pe_c SPO hr (by decide) (by rfl) (pa_cons (pv 1) (pa_cons (pv 6) pa_nil))))) pss_nil)
      (pss_cons (ps_for PassesOwn.never rfl (pi_list (pe_c (ok_at_expressions T) hr (by decide) (by rfl) (pa_cons (pv 4) pa_nil))) (pg_name (i := 7) nd rfl (Or.inl rfl))
        (pss_one (ps_if (pt_not (pt_val (pe_c RI hr (by decide) (by rfl) (pa_cons (pv 7) (pa_cons (pe_c (ok_expressed T) hr (by decide) (by rfl) (pa_cons (pv 4) pa_nil)) (pa_cons (pv 3) pa_nil)))))) (pss_one (ps_ret pe_bl)) pss_nil)))
      (pss_cons (ps_for PassesOwn.never rfl (pi_list (pe_c (ok_at_names T) hr (by decide) (by rfl) (pa_cons (pv 5) pa_nil))) (pg_name (i := 7) nd rfl (Or.inl rfl))
        (pss_one (ps_if (pt_not (pt_val (pe_c RI hr (by decide) (by rfl) (pa_cons (pv 7) (pa_cons (pe_c (ok_named T) hr (by decide) (by rfl) (pa_cons (pv 5) pa_nil)) (pa_cons (pv 3) pa_nil)))))) (pss_one (ps_ret pe_bl)) pss_nil)))
      (pss_cons (ps_if (pt_not (pt_val (pe_c RI hr (by decide) (by rfl) (pa_cons (pe_tup (pa_cons pe_str (pa_cons pe_str (pa_cons (pe_tup (pa_cons pe_str (pa_cons pe_str (pa_cons (pv 5) pa_nil)))) pa_nil)))) (pa_cons (pe_and (pe_c (ok_named T) hr (by decide) (by rfl) (pa_cons (pv 5) pa_nil)) (pe_one (pe_cmpR (show OpR _ (compareOp .NotIn) (rIn K true) from op_notIn_seq) (pv 5) (pe_lst (pa_cons pe_str (pa_cons pe_str pa_nil))) (by rfl)))) (pa_cons (pv 3) pa_nil)))))) (pss_one (ps_ret pe_bl)) pss_nil)
      (pss_cons (ps_set (i := 8) nd rfl (Or.inl rfl) (pe_and (pe_c (ok_named T) hr (by decide) (by rfl) (pa_cons (pv 5) pa_nil)) (pe_one (pe_cmpR op_ne (pv 5) pe_str (nomark _)))))
      (pss_cons (ps_for PassesOwn.never rfl (pi_list (pe_lst (pa_cons (pe_tup (pa_cons (pe_tup (pa_cons pe_str (pa_cons (pv 5) pa_nil))) (pa_cons (pv 8) pa_nil))) (pa_cons (pe_tup (pa_cons (pe_tup (pa_cons (pv 5) (pa_cons pe_str pa_nil))) (pa_cons (pv 8) pa_nil))) (pa_cons (pe_tup (pa_cons (pe_tup (pa_cons (pv 5) (pa_cons (pv 5) pa_nil))) (pa_cons pe_bl pa_nil))) (pa_cons (pe_tup (pa_cons (pe_tup (pa_cons pe_str (pa_cons (pv 5) (pa_cons pe_str pa_nil)))) (pa_cons pe_bl pa_nil))) pa_nil)))))) (pg_name (i := 9) nd rfl (Or.inl rfl))
        (pss_one (ps_if (pt_not (pt_val (pe_c RI hr (by decide) (by rfl) (pa_cons (pe_tup (pa_cons pe_str (pa_cons pe_str (pa_cons (pe_ix ix_tup (pv 9) pe_int (fun _ _ => rfl)) pa_nil)))) (pa_cons (pe_ix ix_tup (pv 9) pe_int (fun _ _ => rfl)) (pa_cons (pv 3) pa_nil)))))) (pss_one (ps_ret pe_bl)) pss_nil)))
      (pss_cons (ps_for PassesOwn.never rfl (pi_list (pe_lst (pa_cons (pe_tup (pa_cons pe_bl (pa_cons pe_bl pa_nil))) (pa_cons (pe_tup (pa_cons pe_bl (pa_cons pe_bl pa_nil))) (pa_cons (pe_tup (pa_cons pe_int (pa_cons pe_bl pa_nil))) (pa_cons (pe_tup (pa_cons pe_int (pa_cons pe_bl pa_nil))) (pa_cons (pe_tup (pa_cons pe_int (pa_cons pe_bl pa_nil))) (pa_cons (pe_tup (pa_cons pe_int (pa_cons pe_bl pa_nil))) (pa_cons (pe_tup (pa_cons (pe_un un_neg pe_int) (pa_cons pe_bl pa_nil))) pa_nil))))))))) (pg_name (i := 9) nd rfl (Or.inl rfl))
        (pss_one (ps_if (pt_not (pt_val (pe_c RI hr (by decide) (by rfl) (pa_cons (pe_tup (pa_cons pe_str (pa_cons (pe_ix ix_tup (pv 9) pe_int (fun _ _ => rfl)) pa_nil))) (pa_cons (pe_ix ix_tup (pv 9) pe_int (fun _ _ => rfl)) (pa_cons (pv 3) pa_nil)))))) (pss_one (ps_ret pe_bl)) pss_nil)))
      (pss_cons (ps_set (i := 10) nd rfl (Or.inl rfl) (pe_c TS hr (by decide) (by rfl) (pa_cons (pe_disp (pps_cons pe_str pe_int pps_nil) (by rfl) (by rfl) (by simp) (by decide)) (pa_cons (pv 6) (pa_cons pe_int pa_nil)))))
      (pss_cons (ps_for PassesOwn.never rfl (pi_list (pe_lst (pa_cons (pe_tup (pa_cons pe_str (pa_cons (pv 6) (pa_cons (pe_tup pa_nil) (pa_cons (pe_tup pa_nil) pa_nil))))) (pa_cons (pe_tup (pa_cons pe_str (pa_cons (pv 6) (pa_cons (pe_tup (pa_cons (pe_tup (pa_cons pe_str (pa_cons pe_int pa_nil))) pa_nil)) pa_nil)))) (pa_cons (pe_tup (pa_cons pe_str (pa_cons (pv 6) (pa_cons (pe_tup (pa_cons (pe_tup (pa_cons pe_str (pa_cons pe_str (pa_cons pe_str pa_nil)))) pa_nil)) (pa_cons (pe_tup pa_nil) pa_nil))))) pa_nil))))) (pg_name (i := 7) nd rfl (Or.inl rfl))
        (pss_one (ps_if (pt_not (pt_val (pe_c RI hr (by decide) (by rfl) (pa_cons (pv 7) (pa_cons (pv 10) (pa_cons (pv 3) pa_nil)))))) (pss_one (ps_ret pe_bl)) pss_nil)))
      (pss_one (ps_ret pe_bl)))))))))))))))), ?_⟩
    -- the draws
    refine ⟨_, rfl, a, ns, 0, rfl, hns, hlen, fun p g H1 p1 => ?_⟩
    refine r_take rfl p1 (by decide) (by decide) fun sp H2 s0 s1 p2 x2 => ?_
    refine r_take rfl p2 (by decide) (by decide) fun dp H3 d0 d1 p3 x3 => ?_
    obtain ⟨n, rfl⟩ : ∃ n : Nat, dp = (n : Nat) := ⟨dp.toNat, by omega⟩
    have hn : n ≤ 4 := by omega
    refine r_draw rfl p3 fun ve te H4 p4 x4 ae ze => ?_
    refine r_nameD rfl p4 fun z1 H5 hz1 p5 x5 => ?_
    have ae5 := AtX.pot p4 x5 p5 ae
    refine r_draw rfl p5 fun vo to H6 p6 x6 ao zo => ?_
    have ae6 := AtX.pot p5 x6 p6 ae5
    refine ⟨show 2 ≤ sizeLine by decide, fun ls hls => ?_⟩
    have hln := p6.new hls
    have e7 := Ex.new (o := .lst [.str z1, vo]) hls
    have g7 : upd H6 ls (.lst [.str z1, vo]) ls = some (.lst [.str z1, vo]) := upd_same
    generalize upd H6 ls (.lst [.str z1, vo]) = H7 at e7 g7 ⊢
    have p7 := p6.mono e7
    refine r_take rfl p7 (by decide) (by decide) fun r8 H8 r80 r81 p8 x8 => ?_
    have g8 : H8 ls = some (.lst [.str z1, vo]) := x8 ls _ (by rw [hid_ne hln.1 hln.2]; exact g7)
    have ae8 := AtX.pot p7 x8 p8 (ae6.ex e7)
    have ao8 := AtX.pot p7 x8 p8 (ao.ex e7)
    obtain ⟨vn, dn, hvn, an8, zn⟩ : ∃ vn dn, atI [V.str z1, vo] r8 = some vn ∧ AtX K H8 vn dn ∧ dn.sz ≤ 5 := by
      rcases (show r8 = 0 ∨ r8 = 1 by omega) with rfl | rfl
      · exact ⟨.str z1, .str z1, rfl, .str z1 hz1.2, by rw [Tr.sz]; omega⟩
      · exact ⟨vo, to, rfl, ao8, zo⟩
    refine ⟨ls, _, r8, vn, rfl, rfl, sq_of g8, hvn, ?_⟩
    refine ⟨_, rfl, r_take rfl p8 (by decide) (by decide) fun r9 H9 r90 r91 p9 x9 => ?_⟩
    obtain ⟨m, rfl⟩ : ∃ m : Nat, r9 = (m : Nat) := ⟨r9.toNat, by omega⟩
    refine ⟨m, by omega, p, g, hid p g H9, rfl, p9.wide, fun vt tt H10 q10 at10 zt => ?_⟩
    have p10 := q10.back p9.sub
    have ae10 := AtX.pot p9 q10.ex p10 (AtX.pot p8 x9 p9 ae8)
    have an10 := AtX.pot p9 q10.ex p10 (AtX.pot p8 x9 p9 an8)
    have zt : tt.sz ≤ 18 := by omega
    refine q_cut (M := fun σ'' H'' => ∃ v d, σ'' = [some (.ref a), some (.ref p), some (.int sp), some (.int (n : Nat)), some ve, some vn, some v, none, none, none, none] ∧ PotAt H H'' p g ∧ At K H'' ve te.dt ∧ At K H'' vn dn.dt ∧ At K H'' v d ∧ d.nodes ≤ 100) ?_ ?_
    · refine s_when (b := decide (sp = 1)) (et_test (ev_is (ev_op (ev_var (v := .int sp) rfl) (ev_c (v := .int 1)) (rv_eq rfl)) (by congr 1; exact decide_eq_decide.mpr ⟨fun h => by injection h, fun h => by rw [h]⟩))) (fun _ H11 e11 => ?_) (fun _ H11 e11 => ?_)
      · have p11 := p10.mono e11
        exact r_spoil rfl p11 (ev_var rfl) (at10.ex e11) (by have := deep_sz tt; omega) (by omega) fun v d H12 p12 x12 a12 z12 => ⟨v, d, rfl, p12, (AtX.pot p11 x12 p12 (ae10.ex e11)).at, (AtX.pot p11 x12 p12 (an10.ex e11)).at, a12, by omega⟩
      · exact ⟨vt, tt.dt, rfl, p10.mono e11, (ae10.ex e11).at, (an10.ex e11).at, (at10.ex e11).at, by have := nodes_sz tt; omega⟩
    rintro σ'' G ⟨v, d, rfl, pG, aE, aN, aT, zT⟩
    have e0 := pG.ex
    have zE := nodes_sz te
    have zN := nodes_sz dn
    generalize te.dt = dE at aE zE
    generalize dn.dt = dN at aN zN
    have zE : dE.nodes ≤ 6 := by omega
    have zN : dN.nodes ≤ 5 := by omega
    clear pG ae10 an10 p10 q10 at10 p9 x9 x8 p8 g8 an8 ao8 ae8 p7 hln hls e7 g7 ao ae6 p6 x6 ae5 p5 x5 p4 x4 ae p3 x3 p2 x2 p1
    -- expressions
    refine q_forD (ds := expRows dE) (dl_rows (ev_var rfl) aE) (fun σ' => ∃ v7, σ' = [some (.ref a), some (.ref p), some (.int sp), some (.int (n : Nat)), some ve, some vn, some v, v7, none, none, none]) ⟨_, rfl⟩ ?_ ?_
    · rintro i r w0 σ' H1 hr e1 ⟨v7, rfl⟩ aw D hD
      have hm := List.mem_of_getElem? hr
      exact s_when (b := false) (et_is (et_not (et_B (ev_right (d := r) (dd_var rfl aw) (ev_call (ea_cons (ev_var rfl) ea_nil) (v_ask (f := exprD) (aE.ex e1))) (ev_var rfl) (due_exp hn hm) (by have := rows_exp hm; omega) hn (bk_exp hn hm)))) rfl) (fun z => nomatch z) fun _ H2 e2 => hD _ _ ⟨_, rfl⟩ e2
    rintro σ' G1 ⟨v7, rfl⟩ f1
    -- names
    refine q_forD (ds := namRows dN) (dl_rows (ev_var rfl) (aN.ex f1)) (fun σ' => ∃ v7, σ' = [some (.ref a), some (.ref p), some (.int sp), some (.int (n : Nat)), some ve, some vn, some v, v7, none, none, none]) ⟨_, rfl⟩ ?_ ?_
    · rintro i r w0 σ' H1 hr e1 ⟨v7, rfl⟩ aw D hD
      have hm := List.mem_of_getElem? hr
      exact s_when (b := false) (et_is (et_not (et_B (ev_right (d := r) (dd_var rfl aw) (ev_call (ea_cons (ev_var rfl) ea_nil) (v_ask (f := nmD) (aN.ex (f1.trans e1)))) (ev_var rfl) (due_nam hn hm) (by have := rows_nam hm; omega) hn (bk_nam hn hm)))) rfl) (fun z => nomatch z) fun _ H2 e2 => hD _ _ ⟨_, rfl⟩ e2
    rintro σ' G2 ⟨v7, rfl⟩ f2
    have f02 := f1.trans f2
    have named : ∀ {σ' : L2.St} {H' : Hp} {E' : XK}, σ'[5]? = some (some vn) → Ex G H' → Ev (tCall (sp_ask K nmD) [] E' (tCons (tVar 5) tNil)) σ' H' (.bl (nmD dN)) := fun h1 h2 => ev_call (ea_cons (ev_var h1) ea_nil) (v_ask (f := nmD) (aN.ex h2))
    have isStr : nmD dN = true → ∃ z, dN = .str z ∧ vn = .str z := fun h => by
      obtain ⟨z, rfl⟩ := nm_strD h
      cases aN
      exact ⟨z, rfl, rfl⟩
    -- three words
    refine q_no (et_is (et_not (et_B (ev_right (d := .tup [.str (Str.ofString "ask"), .str (Str.ofString "x"), .tup [.str zz, .str yy, dN]]) (b := firstD dN)
      (dd_tup (dd_cons (dd_str (by decide)) (dd_cons (dd_str (by decide)) (dd_cons (dd_tup (dd_cons (dd_str (by decide)) (dd_cons (dd_str (by decide)) (dd_cons (dd_var rfl (aN.ex f02)) dd_nil))) (show 3 ≤ 40000 by decide)) dd_nil))) (show 3 ≤ 40000 by decide))
      (ev_andV (a := nmD dN) (b := !inS [zz, yy] dN) (named rfl f02) fun h => by
        obtain ⟨z, rfl, rfl⟩ := isStr h
        exact ev_notinL (zs := [zz, yy]) (ev_var rfl) (el_lst (ea_cons ev_c (ea_cons ev_c ea_nil)) (show 2 ≤ 100000 by decide)))
      (ev_var rfl) (by rw [due_ask hn, wd_first]) (by simp only [Dt.nodes, Dt.nodesL]; omega) hn (bk_ask hn)))) rfl) fun G3 f3 => ?_
    have f03 := f02.trans f3
    refine q_asg (v := .bl (otherD dN)) (ev_andV (a := nmD dN) (b := !isS zz dN) (named rfl f03) fun h => by
      obtain ⟨z, rfl, rfl⟩ := isStr h
      exact ev_is (ev_op (ev_var (v := .str z) rfl) (ev_c (v := .str zz)) (rv_ne rfl)) (by show V.bl (!decide (V.str z = V.str zz)) = V.bl (!decide (z = zz)); simp)) fun G4 f4 => ?_
    have f04 := f03.trans f4
    -- two words
    refine q_forD (ds := [.tup [.tup [.str zz, dN], .bl (otherD dN)], .tup [.tup [dN, .str zz], .bl (otherD dN)], .tup [.tup [dN, dN], .bl false], .tup [.tup [.str zz, dN, .str zz], .bl false]])
      (dl_lst (dd_cons (dd_tup (dd_cons (dd_tup (dd_cons (dd_str (by decide)) (dd_cons (dd_var rfl (aN.ex f04)) dd_nil)) (show 2 ≤ 40000 by decide)) (dd_cons (dd_var rfl (.bl _)) dd_nil)) (show 2 ≤ 40000 by decide))
        (dd_cons (dd_tup (dd_cons (dd_tup (dd_cons (dd_var rfl (aN.ex f04)) (dd_cons (dd_str (by decide)) dd_nil)) (show 2 ≤ 40000 by decide)) (dd_cons (dd_var rfl (.bl _)) dd_nil)) (show 2 ≤ 40000 by decide))
        (dd_cons (dd_tup (dd_cons (dd_tup (dd_cons (dd_var rfl (aN.ex f04)) (dd_cons (dd_var rfl (aN.ex f04)) dd_nil)) (show 2 ≤ 40000 by decide)) (dd_cons (dd_of ev_c (.bl _)) dd_nil)) (show 2 ≤ 40000 by decide))
        (dd_cons (dd_tup (dd_cons (dd_tup (dd_cons (dd_str (by decide)) (dd_cons (dd_var rfl (aN.ex f04)) (dd_cons (dd_str (by decide)) dd_nil))) (show 3 ≤ 40000 by decide)) (dd_cons (dd_of ev_c (.bl _)) dd_nil)) (show 2 ≤ 40000 by decide)) dd_nil)))) (show 4 ≤ 40000 by decide))
      (fun σ' => ∃ v9, σ' = [some (.ref a), some (.ref p), some (.int sp), some (.int (n : Nat)), some ve, some vn, some v, v7, some (.bl (otherD dN)), v9, none]) ⟨_, rfl⟩ ?_ ?_
    · rintro i r w0 σ' H1 hr e1 ⟨v9, rfl⟩ aw D hD
      obtain ⟨q, hq, rfl⟩ : ∃ q : Dt, q.nodes ≤ 20 ∧ r = .tup [q, .bl (wordsD q)] := by
        have hm := List.mem_of_getElem? hr
        simp only [List.mem_cons, List.not_mem_nil, or_false] at hm
        rcases hm with rfl | rfl | rfl | rfl
        · exact ⟨.tup [.str zz, dN], by simp only [Dt.nodes, Dt.nodesL]; omega, by rw [wd_zn]⟩
        · exact ⟨.tup [dN, .str zz], by simp only [Dt.nodes, Dt.nodesL]; omega, by rw [wd_nz]⟩
        · exact ⟨.tup [dN, dN], by simp only [Dt.nodes, Dt.nodesL]; omega, by rw [wd_nn]⟩
        · exact ⟨.tup [.str zz, dN, .str zz], by simp only [Dt.nodes, Dt.nodesL]; omega, by rw [wd_znz]⟩
      exact s_when (b := false) (et_is (et_not (et_B (ev_right (d := .tup [.str (Str.ofString "ask"), .str (Str.ofString "x"), q]) (b := wordsD q) (dd_tup (dd_cons (dd_str (by decide)) (dd_cons (dd_str (by decide)) (dd_cons (dv_ix (i := 0) (ev_var rfl) aw rfl) dd_nil))) (show 3 ≤ 40000 by decide)) (ev_ixBl (i := 1) (ev_var rfl) aw rfl) (ev_var rfl) (due_ask hn) (by simp only [Dt.nodes, Dt.nodesL]; omega) hn (bk_ask hn)))) rfl) (fun z => nomatch z) fun _ H2 e2 => hD _ _ ⟨_, rfl⟩ e2
    rintro σ' G5 ⟨v9, rfl⟩ f5
    have f05 := f04.trans f5
    -- prices
    refine q_forD (ds := [.tup [.bl true, .bl false], .tup [.bl false, .bl false], .tup [.int 0, .bl true], .tup [.int 1, .bl true], .tup [.int 9, .bl true], .tup [.int 10, .bl false], .tup [.int (-1), .bl false]])
      (dl_lst (dd_cons (dd_tup (dd_cons (dd_of ev_c (.bl _)) (dd_cons (dd_of ev_c (.bl _)) dd_nil)) (show 2 ≤ 40000 by decide)) (dd_cons (dd_tup (dd_cons (dd_of ev_c (.bl _)) (dd_cons (dd_of ev_c (.bl _)) dd_nil)) (show 2 ≤ 40000 by decide))
        (dd_cons (dd_tup (dd_cons dd_int (dd_cons (dd_of ev_c (.bl _)) dd_nil)) (show 2 ≤ 40000 by decide)) (dd_cons (dd_tup (dd_cons dd_int (dd_cons (dd_of ev_c (.bl _)) dd_nil)) (show 2 ≤ 40000 by decide)) (dd_cons (dd_tup (dd_cons dd_int (dd_cons (dd_of ev_c (.bl _)) dd_nil)) (show 2 ≤ 40000 by decide)) (dd_cons (dd_tup (dd_cons dd_int (dd_cons (dd_of ev_c (.bl _)) dd_nil)) (show 2 ≤ 40000 by decide))
        (dd_cons (dd_tup (dd_cons (dd_of ev_neg1 (.int _)) (dd_cons (dd_of ev_c (.bl _)) dd_nil)) (show 2 ≤ 40000 by decide)) dd_nil))))))) (show 7 ≤ 40000 by decide))
      (fun σ' => ∃ v9, σ' = [some (.ref a), some (.ref p), some (.int sp), some (.int (n : Nat)), some ve, some vn, some v, v7, some (.bl (otherD dN)), v9, none]) ⟨_, rfl⟩ ?_ ?_
    · rintro i r w0 σ' H1 hr e1 ⟨v9, rfl⟩ aw D hD
      obtain ⟨q, hq, hb, rfl⟩ : ∃ q : Dt, q.nodes ≤ 20 ∧ ((∃ i, q = .int i) ∨ priceD q = false) ∧ r = .tup [q, .bl (priceD q)] := by
        have hm := List.mem_of_getElem? hr
        simp only [List.mem_cons, List.not_mem_nil, or_false] at hm
        rcases hm with rfl | rfl | rfl | rfl | rfl | rfl | rfl
        · exact ⟨.bl true, by rw [Dt.nodes]; omega, .inr rfl, rfl⟩
        · exact ⟨.bl false, by rw [Dt.nodes]; omega, .inr rfl, rfl⟩
        · exact ⟨.int 0, by rw [Dt.nodes]; omega, .inl ⟨_, rfl⟩, by rw [show priceD (.int 0) = true from by decide +kernel]⟩
        · exact ⟨.int 1, by rw [Dt.nodes]; omega, .inl ⟨_, rfl⟩, by rw [show priceD (.int 1) = true from by decide +kernel]⟩
        · exact ⟨.int 9, by rw [Dt.nodes]; omega, .inl ⟨_, rfl⟩, by rw [show priceD (.int 9) = true from by decide +kernel]⟩
        · exact ⟨.int 10, by rw [Dt.nodes]; omega, .inl ⟨_, rfl⟩, by rw [show priceD (.int 10) = false from by decide +kernel]⟩
        · exact ⟨.int (-1), by rw [Dt.nodes]; omega, .inl ⟨_, rfl⟩, by rw [show priceD (.int (-1)) = false from by decide +kernel]⟩
      refine s_when (b := false) (et_is (et_not (et_B (ev_right (d := .tup [.str (Str.ofString "pay"), q]) (b := priceD q) (dd_tup (dd_cons (dd_str (by decide)) (dd_cons (dv_ix (i := 0) (ev_var rfl) aw rfl) dd_nil)) (show 2 ≤ 40000 by decide)) (ev_ixBl (i := 1) (ev_var rfl) aw rfl) (ev_var rfl) (due_pay hn) (by simp only [Dt.nodes, Dt.nodesL]; omega) hn fun hd => ?_))) rfl) (fun z => nomatch z) fun _ H2 e2 => hD _ _ ⟨_, rfl⟩ e2
      rcases hb with ⟨i, rfl⟩ | hb
      · exact bk_pay hn hd
      · rw [due_pay hn, hb] at hd
        cases hd
    rintro σ' G6 ⟨v9', rfl⟩ f6
    have f06 := f05.trans f6
    -- tests
    refine q_asg (v := .bl (testD kn10 d)) (ev_tst rfl (aT.ex f06)) fun G7 f7 => ?_
    have f07 := f06.trans f7
    refine q_forD (ds := [.tup [.str (Str.ofString "if"), d, .tup [], .tup []], .tup [.str (Str.ofString "loop"), d, .tup [.tup [.str (Str.ofString "pay"), .int 1]]], .tup [.str (Str.ofString "if"), d, .tup [.tup [.str (Str.ofString "set"), .str (Str.ofString "a"), .str (Str.ofString "a")]], .tup []]])
      (dl_lst (dd_cons (dd_tup (dd_cons (dd_str (by decide)) (dd_cons (dd_var rfl (aT.ex f07)) (dd_cons (dd_tup dd_nil (show 0 ≤ 40000 by decide)) (dd_cons (dd_tup dd_nil (show 0 ≤ 40000 by decide)) dd_nil)))) (show 4 ≤ 40000 by decide))
        (dd_cons (dd_tup (dd_cons (dd_str (by decide)) (dd_cons (dd_var rfl (aT.ex f07)) (dd_cons (dd_tup (dd_cons (dd_tup (dd_cons (dd_str (by decide)) (dd_cons dd_int dd_nil)) (show 2 ≤ 40000 by decide)) dd_nil) (show 1 ≤ 40000 by decide)) dd_nil))) (show 3 ≤ 40000 by decide))
        (dd_cons (dd_tup (dd_cons (dd_str (by decide)) (dd_cons (dd_var rfl (aT.ex f07)) (dd_cons (dd_tup (dd_cons (dd_tup (dd_cons (dd_str (by decide)) (dd_cons (dd_str (by decide)) (dd_cons (dd_str (by decide)) dd_nil))) (show 3 ≤ 40000 by decide)) dd_nil) (show 1 ≤ 40000 by decide)) (dd_cons (dd_tup dd_nil (show 0 ≤ 40000 by decide)) dd_nil)))) (show 4 ≤ 40000 by decide)) dd_nil))) (show 3 ≤ 40000 by decide))
      (fun σ' => ∃ v7, σ' = [some (.ref a), some (.ref p), some (.int sp), some (.int (n : Nat)), some ve, some vn, some v, v7, some (.bl (otherD dN)), v9', some (.bl (testD kn10 d))]) ⟨_, rfl⟩ ?_ ?_
    · rintro i r w0 σ' H1 hr e1 ⟨v7, rfl⟩ aw D hD
      obtain ⟨hz, hb, hk⟩ : r.nodes ≤ 200 ∧ dueD n r = testD kn10 d ∧ (dueD n r = true → RightBk ⟨["a"], 2, blkN r n⟩ ∧ sizeD 6 (plF ("g", ⟨["a"], 2, blkN r n⟩)).2.blk ≤ 80000) := by
        have hm := List.mem_of_getElem? hr
        simp only [List.mem_cons, List.not_mem_nil, or_false] at hm
        rcases hm with rfl | rfl | rfl
        · exact ⟨by simp only [Dt.nodes, Dt.nodesL]; omega, due_if hn, bk_if hn⟩
        · exact ⟨by simp only [Dt.nodes, Dt.nodesL]; omega, due_loop hn, bk_loop hn⟩
        · exact ⟨by simp only [Dt.nodes, Dt.nodesL]; omega, due_if2 hn, fun h => right_bk hn h tame_if2 (few_le (few_cons few_str (few_cons (few_test (by rw [← due_if2 hn]; exact h)) (few_cons (few_cons (few_cons few_str (few_cons few_str (few_cons few_str few_nil))) few_nil) (few_cons few_nil few_nil)))) (by decide))⟩
      exact s_when (b := false) (et_is (et_not (et_B (ev_right (d := r) (dd_var rfl aw) (ev_var rfl) (ev_var rfl) hb (by omega) hn hk))) rfl) (fun z => nomatch z) fun _ H2 e2 => hD _ _ ⟨_, rfl⟩ e2
    rintro σ' G8 ⟨v7, rfl⟩ f8
    exact s_ret (v := .bl true) ev_c fun G9 f9 => k G9 ((e0.trans (f07.trans f8)).trans f9)
end
end EE
set_option Elab.async false
set_option linter.all false
set_option maxRecDepth 100000
set_option maxHeartbeats 4000000
namespace EE
open PySem L2 Evl
open C8 (Cal cal0 pe_c fnScope_by)
section
variable {w : World} {K : PySem.W.Frag} {mg : Str → Option Value} {h : Heap}
theorem defx_mk (X : K.In h) (G : h.Ns mainGlobals mg) {x : Str} {st : Stmt} {ps : List Str} {f : Addr} {oc kV dc pm cd ct : Value} {od an : Option Addr} {sl : Array (Option Value)}
    (a : PySem.W.nsIn K mainGlobals x = some (some (.ref f))) (l : K.lookup f = some ⟨oc, od, .func (PySem.W.fnOf x x (C8.fnArgs st) (C8.fnBody st) (C8.fnScope st) .none kV dc pm an cd ct), sl⟩) (c : PySem.W.codeIn K cd x = true) (k : PySem.W.keepIn K (.ref f) = true)
    (hb : ∀ (kV doc pm : Value) (an : Option Addr) (cdv ct : Value) (us : List Value), us.length = ps.length → bindArgs (PySem.W.fnOf x x (C8.fnArgs st) (C8.fnBody st) (C8.fnScope st) .none kV doc pm an cdv ct) ⟨us, []⟩ = pure (ps.zip us)) : DefX K mg x st ps := by
  have F : C8.Fun K x x st f (PySem.W.fnOf x x (C8.fnArgs st) (C8.fnBody st) (C8.fnScope st) .none kV dc pm an cd ct) := ⟨oc, od, .none, kV, dc, pm, an, cd, ct, sl, rfl, l, c⟩
  exact ⟨f, _, ⟨F, PySem.W.mg_of X G a, k⟩, F.binds rfl hb⟩
theorem cval_mk (X : K.In h) (G : h.Ns mainGlobals mg) {x : Str} {v : V} {u : Value} (a : PySem.W.nsIn K mainGlobals x = some (some u)) (r : RelV v u) : ∃ u, mg x = some u ∧ RelV v u := ⟨_, PySem.W.mg_of X G a, r⟩
theorem ktup_mk {a : Addr} {xs : List V} {od : Option Addr} {its : Array Value} {n : Nat} {sl : Array (Option Value)} (l : K.lookup a = some ⟨.type "tuple", od, .seq its n, sl⟩) (hz : its.size ≤ sizeLine) (hv : Vals xs its.toList) : ∀ H, SqT K H a xs :=
  fun H => .inr ⟨_, its, n, l, rfl, rfl, hz, hv⟩
theorem ctup_mk (X : K.In h) (G : h.Ns mainGlobals mg) {x : Str} {a : Addr} {xs : List V} {od : Option Addr} {its : Array Value} {n : Nat} {sl : Array (Option Value)} (e : PySem.W.nsIn K mainGlobals x = some (some (.ref a))) (l : K.lookup a = some ⟨.type "tuple", od, .seq its n, sl⟩) (hz : its.size ≤ sizeLine) (hv : Vals xs its.toList) :
    ∃ a, mg x = some (.ref a) ∧ ∀ H, SqT K H a xs := ⟨a, PySem.W.mg_of X G e, ktup_mk l hz hv⟩
theorem shapes_mk (X : K.In h) (G : h.Ns mainGlobals mg) {x key : Str} {a r : Addr} {xs : List V} {es : Array DictEntry} {m : Nat} {od : Option Addr} {its : Array Value} {n : Nat} {sl : Array (Option Value)} (e : PySem.W.nsIn K mainGlobals x = some (some (.ref a)))
    (d : K.lookup a = some ⟨.type "dict", none, .dict es m, #[]⟩) (kl : PySem.W.KeysLit w.params es.toList) (ns : (a == sysModules) = false) (g : PySem.W.nsIn K a key = some (some (.ref r)))
    (l : K.lookup r = some ⟨.type "tuple", od, .seq its n, sl⟩) (hz : its.size ≤ sizeLine) (hv : Vals xs its.toList) :
    ∃ a r, mg x = some (.ref a) ∧ KD K w a ∧ PySem.W.nsIn K a key = some (some (.ref r)) ∧ ∀ H, SqT K H r xs := ⟨a, r, PySem.W.mg_of X G e, ⟨es, m, d, kl, ns⟩, g, ktup_mk l hz hv⟩
theorem checks_mk (X : K.In h) (G : h.Ns mainGlobals mg) {x y key : Str} {a f : Addr} {es : Array DictEntry} {m : Nat} (e : PySem.W.nsIn K mainGlobals x = some (some (.ref a)))
    (d : K.lookup a = some ⟨.type "dict", none, .dict es m, #[]⟩) (kl : PySem.W.KeysLit w.params es.toList) (ns : (a == sysModules) = false) (e2 : PySem.W.nsIn K mainGlobals y = some (some (.ref f))) (g : PySem.W.nsIn K a key = some (some (.ref f))) :
    ∃ a f, mg x = some (.ref a) ∧ KD K w a ∧ mg y = some (.ref f) ∧ PySem.W.nsIn K a key = some (some (.ref f)) := ⟨a, f, PySem.W.mg_of X G e, ⟨es, m, d, kl, ns⟩, PySem.W.mg_of X G e2, g⟩
theorem no_nil {C : Addr} : ∀ n ∈ ([] : List Str), NoAttr K C n := fun _ h => by cases h
theorem no_cons {C : Addr} {f : Str} {fs : List Str} (h : PySem.W.findIn K (.ref C) f = some none) (t : ∀ n ∈ fs, NoAttr K C n) : ∀ n ∈ f :: fs, NoAttr K C n := fun n hn => by
  rcases List.mem_cons.mp hn with rfl | hn
  · exact h
  · exact t n hn
theorem mkC_mk (X : K.In h) (G : h.Ns mainGlobals mg) {x qual : Str} {st : Stmt} {ps fields : List Str} {C f : Addr} {oc kV dc pm cd ct : Value} {od an : Option Addr} {sl : Array (Option Value)} (a : PySem.W.nsIn K mainGlobals x = some (some (.ref C)))
    (pg : PySem.W.plainGet K C Str.empty = true) (hd : PySem.W.hasDictIn K C = true) (po : PySem.W.plainOver K C = true) (sa : PySem.W.findIn K (.ref C) "__setattr__" = some (some (.builtin "object.__setattr__")))
    (mk : PySem.W.makesIn K C = true) (i : PySem.W.findIn K (.ref C) "__init__" = some (some (.ref f))) (isf : PySem.W.isFn K (.ref f) = true) (kc : PySem.W.keepIn K (.ref C) = true)
    (l : K.lookup f = some ⟨oc, od, .func (PySem.W.fnOf "__init__" qual (C8.fnArgs st) (C8.fnBody st) (C8.fnScope st) .none kV dc pm an cd ct), sl⟩) (c : PySem.W.codeIn K cd qual = true) (no : ∀ n ∈ fields, NoAttr K C n)
    (hb : ∀ (kV doc pm : Value) (an : Option Addr) (cdv ct : Value) (us : List Value), us.length = ps.length → bindArgs (PySem.W.fnOf "__init__" qual (C8.fnArgs st) (C8.fnBody st) (C8.fnScope st) .none kV doc pm an cdv ct) ⟨us, []⟩ = pure (ps.zip us)) : ∃ C, MkC K mg x qual st ps fields C := by
  have F : C8.Fun K "__init__" qual st f (PySem.W.fnOf "__init__" qual (C8.fnArgs st) (C8.fnBody st) (C8.fnScope st) .none kV dc pm an cd ct) := ⟨oc, od, .none, kV, dc, pm, an, cd, ct, sl, rfl, l, c⟩
  exact ⟨C, PySem.W.mg_of X G a, ⟨pg, hd, po, sa⟩, ⟨f, _, ⟨mk, i, isf, kc⟩, F, F.binds rfl hb⟩, no⟩
theorem exm_own {C : Addr} (b : PySem.W.subIn K (.ref C) (.type "BaseException") = some true) (i : PySem.W.isClsIn K C = true) (t : PySem.W.typeIn K (.ref C) = some (.type "type")) (s : PySem.W.subIn K (.ref C) (.ref C) = some true) : PySem.W.exmOne K (.ref C) (.ref C) = some true := by
  unfold PySem.W.exmOne
  rw [b]
  show PySem.W.kitCls K (.ref C) (.ref C) = some true
  unfold PySem.W.kitCls
  have q : (PySem.W.clsIn K C).isSome = true := i
  simp [q, t, s]
theorem bp_mk (X : K.In h) (G : h.Ns mainGlobals mg) {C f N : Addr} {nm q : Str} {bs bm sub : List Value} {sn : List Str} {ab : Bool} {col : Option Bool} {dd : Option Addr} {k0 k1 k2 k3 k5 : Option Value} {oc kV dc pm cd ct : Value} {od an : Option Addr} {sl : Array (Option Value)} (a : PySem.W.nsIn K mainGlobals "BadProgram" = some (some (.ref C)))
    (cl : K.lookup C = some (PySem.excClassObj nm q C N bs bm true sn sub ab col dd k0 k1 k2 k3 k5 "ValueError.__new__")) (rv : PySem.HandSPX.refsVE bm = true)
    (sa : PySem.W.findIn K (.ref C) "__setattr__" = some (some (.builtin "object.__setattr__"))) (exC : PySem.W.subIn K (.ref C) (.type "BaseException") = some true) (tyC : PySem.W.typeIn K (.ref C) = some (.type "type")) (kC : PySem.W.keepIn K (.ref C) = true)
    (ga : PySem.W.findIn K (.ref C) "__getattribute__" = some (some (.builtin "BaseException.__getattribute__"))) (gg : PySem.W.findIn K (.ref C) "__getattr__" = some none) (hdC : PySem.W.hasDictIn K C = true)
    (no : PySem.W.findIn K (.ref C) "part" = some none) (is : PySem.W.isClsIn K C = true) (sb : PySem.W.subIn K (.ref C) (.ref C) = some true) (i : PySem.W.findIn K (.ref C) "__init__" = some (some (.ref f))) (ti : PySem.W.typeIn K (.ref f) = some (.type "function"))
    (l : K.lookup f = some ⟨oc, od, .func (PySem.W.fnOf "__init__" "BadProgram.__init__" (C8.fnArgs s_BadProgram_init) (C8.fnBody s_BadProgram_init) (C8.fnScope s_BadProgram_init) .none kV dc pm an cd ct), sl⟩) (c : PySem.W.codeIn K cd "BadProgram.__init__" = true)
    (hb : ∀ (kV doc pm : Value) (an : Option Addr) (cdv ct : Value) (us : List Value), us.length = P_BadProgram_init.length → bindArgs (PySem.W.fnOf "__init__" "BadProgram.__init__" (C8.fnArgs s_BadProgram_init) (C8.fnBody s_BadProgram_init) (C8.fnScope s_BadProgram_init) .none kV doc pm an cdv ct) ⟨us, []⟩ = pure (P_BadProgram_init.zip us)) : ∃ C, BpX K mg C := by
  have F : C8.Fun K "__init__" "BadProgram.__init__" s_BadProgram_init f (PySem.W.fnOf "__init__" "BadProgram.__init__" (C8.fnArgs s_BadProgram_init) (C8.fnBody s_BadProgram_init) (C8.fnScope s_BadProgram_init) .none kV dc pm an cd ct) := ⟨oc, od, .none, kV, dc, pm, an, cd, ct, sl, rfl, l, c⟩
  exact ⟨C, PySem.W.mg_of X G a, ⟨⟨_, _, _, _, _, _, _, _, _, _, _, _, _, _, _, cl, rv⟩, sa, exC, tyC, kC⟩, ⟨ga, gg, exC, hdC⟩, no, exm_own exC is tyC sb, f, _, i, ti, F, F.binds rfl hb⟩
/-! the forms of statements -/
def Ents : List DictEntry → List (Str × Addr) → Prop
  | [], [] => True
  | e :: l, p :: kvs => (∃ t h, e = ⟨h, .str p.1 t, .ref p.2⟩) ∧ Ents l kvs
  | _, _ => False
theorem isStr_str (x z : Str) (t : Tok) : (Value.str x t).isStr z = decide (x = z) := by
  show (x == z) = _
  by_cases e : x = z
  · subst e; simp
  · simp [e]
theorem ents_find : ∀ {l : List DictEntry} {kvs : List (Str × Addr)} (z : Str), Ents l kvs → (match l.find? (·.key.isStr z) with | some e => some (some e.val) | none => if l.any (·.refKey) then none else some none) = (match kvs.lookup z with | some r => some (some (Value.ref r)) | none => (some none : Option (Option Value)))
  | [], [], _, _ => rfl
  | e :: l, p :: kvs, z, h => by
    obtain ⟨⟨t, hh, rfl⟩, h2⟩ := h
    have ih := ents_find z h2
    rw [List.find?_cons, List.lookup_cons]
    have hk : (Value.str p.1 t).isStr z = decide (p.1 = z) := isStr_str _ _ _
    dsimp only
    rw [hk]
    by_cases e : p.1 = z
    · subst e
      rw [decide_eq_true rfl]
      simp
    · have e' : (z == p.1) = false := by simpa using fun h : z = p.1 => e h.symm
      rw [decide_eq_false e, e']
      exact ih
  | [], _ :: _, _, h => h.elim
  | _ :: _, [], _, h => h.elim
theorem ents_ns {a : Addr} {es : Array DictEntry} {m : Nat} {kvs : List (Str × Addr)} (d : K.lookup a = some ⟨.type "dict", none, .dict es m, #[]⟩) (h : Ents es.toList kvs) (z : Str) : PySem.W.nsIn K a z = (match kvs.lookup z with | some r => some (some (Value.ref r)) | none => some none) := by
  unfold PySem.W.nsIn
  rw [d]
  exact ents_find z h
def Fits (K : PySem.W.Frag) : List (Str × Addr) → List (Str × List Str) → Prop
  | [], [] => True
  | p :: kvs, q :: sh => p.1 = q.1 ∧ (∀ H, SqT K H p.2 (q.2.map V.str)) ∧ Fits K kvs sh
  | _, _ => False
theorem fit_nil : Fits K [] [] := trivial
theorem fit_cons {x z : Str} {r : Addr} {ks : List Str} {kvs : List (Str × Addr)} {sh : List (Str × List Str)} {od : Option Addr} {its : Array Value} {n : Nat} {sl : Array (Option Value)} (k : x = z) (l : K.lookup r = some ⟨.type "tuple", od, .seq its n, sl⟩) (hz : its.size ≤ sizeLine) (hv : Vals (ks.map V.str) its.toList) (t : Fits K kvs sh) :
    Fits K ((x, r) :: kvs) ((z, ks) :: sh) := ⟨k, ktup_mk l hz hv, t⟩
theorem fits_yes : ∀ {kvs : List (Str × Addr)} {sh : List (Str × List Str)}, Fits K kvs sh → ∀ z ks, sh.lookup z = some ks → ∃ r, kvs.lookup z = some r ∧ ∀ H, SqT K H r (ks.map V.str)
  | [], [], _, _, _, h => by cases h
  | (x, r) :: kvs, (y, k1) :: sh, ⟨h1, h2, h3⟩, z, ks, h => by
    replace h1 : x = y := h1
    subst h1
    rw [List.lookup_cons] at h ⊢
    by_cases e : z = x
    · subst e
      simp only [beq_self_eq_true] at h ⊢
      cases h
      exact ⟨r, rfl, h2⟩
    · have e' : (z == x) = false := by simpa using e
      rw [e'] at h ⊢
      exact fits_yes h3 z ks h
  | [], _ :: _, h, _, _, _ => h.elim
  | _ :: _, [], h, _, _, _ => h.elim
theorem fits_no : ∀ {kvs : List (Str × Addr)} {sh : List (Str × List Str)}, Fits K kvs sh → ∀ z, sh.lookup z = none → kvs.lookup z = none
  | [], [], _, _, _ => rfl
  | (x, r) :: kvs, (y, k1) :: sh, ⟨h1, _, h3⟩, z, h => by
    replace h1 : x = y := h1
    subst h1
    rw [List.lookup_cons] at h ⊢
    by_cases e : z = x
    · subst e
      simp only [beq_self_eq_true] at h
      cases h
    · have e' : (z == x) = false := by simpa using e
      rw [e'] at h ⊢
      exact fits_no h3 z h
  | [], _ :: _, h, _, _ => h.elim
  | _ :: _, [], h, _, _ => h.elim
theorem shp_mk (X : K.In h) (G : h.Ns mainGlobals mg) {a : Addr} {es : Array DictEntry} {m : Nat} {kvs : List (Str × Addr)} (e : PySem.W.nsIn K mainGlobals "SHAPES" = some (some (.ref a)))
    (d : K.lookup a = some ⟨.type "dict", none, .dict es m, #[]⟩) (kl : PySem.W.KeysLit w.params es.toList) (ns : (a == sysModules) = false) (en : Ents es.toList kvs) (ft : Fits K kvs shapes) : ∃ a rs, Shp w K mg a rs := by
  refine ⟨a, fun z => (kvs.lookup z).getD 0, PySem.W.mg_of X G e, ⟨es, m, d, kl, ns⟩, fun z ks hz => ?_, fun z hz => ?_⟩
  · obtain ⟨r, h1, h2⟩ := fits_yes ft z ks hz
    rw [ents_ns d en z, h1]
    exact ⟨rfl, h2⟩
  · rw [ents_ns d en z, fits_no ft z hz]
theorem shp_mk19 (X : K.In h) (G : h.Ns mainGlobals mg) {a : Addr} {es : Array DictEntry} {m : Nat} {r0 r1 r2 r3 r4 r5 r6 r7 r8 r9 r10 r11 r12 r13 r14 r15 r16 r17 r18 : Addr} (e : PySem.W.nsIn K mainGlobals "SHAPES" = some (some (.ref a)))
    (d : K.lookup a = some ⟨.type "dict", none, .dict es m, #[]⟩) (kl : PySem.W.KeysLit w.params es.toList) (ns : (a == sysModules) = false) (en : Ents es.toList [(Str.ofString "set", r0), (Str.ofString "share", r1), (Str.ofString "pay", r2), (Str.ofString "ask", r3), (Str.ofString "if", r4), (Str.ofString "loop", r5), (Str.ofString "return", r6), (Str.ofString "raise", r7), (Str.ofString "try", r8), (Str.ofString "last", r9), (Str.ofString "call", r10), (Str.ofString "apply", r11), (Str.ofString "send", r12), (Str.ofString "new", r13), (Str.ofString "keep", r14), (Str.ofString "get", r15), (Str.ofString "with", r16), (Str.ofString "push", r17), (Str.ofString "pop", r18)]) (ft : Fits K [(Str.ofString "set", r0), (Str.ofString "share", r1), (Str.ofString "pay", r2), (Str.ofString "ask", r3), (Str.ofString "if", r4), (Str.ofString "loop", r5), (Str.ofString "return", r6), (Str.ofString "raise", r7), (Str.ofString "try", r8), (Str.ofString "last", r9), (Str.ofString "call", r10), (Str.ofString "apply", r11), (Str.ofString "send", r12), (Str.ofString "new", r13), (Str.ofString "keep", r14), (Str.ofString "get", r15), (Str.ofString "with", r16), (Str.ofString "push", r17), (Str.ofString "pop", r18)] shapes) : ∃ a rs, Shp w K mg a rs := shp_mk X G e d kl ns en ft
def AllC (K : PySem.W.Frag) (a : Addr) : List (Str × Str) → Prop
  | [] => True
  | p :: l => (∃ f, PySem.W.nsIn K a p.1 = some (some (.ref f)) ∧ PySem.W.nsIn K mainGlobals p.2 = some (some (.ref f))) ∧ AllC K a l
theorem allC_nil {a : Addr} : AllC K a [] := trivial
theorem allC_cons {a : Addr} {k x : Str} {f : Addr} {l : List (Str × Str)} (g : PySem.W.nsIn K a k = some (some (.ref f))) (e : PySem.W.nsIn K mainGlobals x = some (some (.ref f))) (t : AllC K a l) : AllC K a ((k, x) :: l) := ⟨⟨f, g, e⟩, t⟩
theorem allC_look {a : Addr} : ∀ {l : List (Str × Str)}, AllC K a l → ∀ k x, l.lookup k = some x → ∃ f, PySem.W.nsIn K a k = some (some (.ref f)) ∧ PySem.W.nsIn K mainGlobals x = some (some (.ref f))
  | [], _, _, _, h => by cases h
  | (k1, x1) :: l, ⟨⟨f, h1, h2⟩, h3⟩, k, x, h => by
    rw [List.lookup_cons] at h
    by_cases e : k = k1
    · subst e
      simp only [beq_self_eq_true] at h
      cases h
      exact ⟨f, h1, h2⟩
    · have e' : (k == k1) = false := by simpa using e
      rw [e'] at h
      exact allC_look h3 k x h
theorem chk_mk (X : K.In h) (G : h.Ns mainGlobals mg) {a : Addr} {es : Array DictEntry} {m : Nat} (e : PySem.W.nsIn K mainGlobals "CHECKS" = some (some (.ref a)))
    (d : K.lookup a = some ⟨.type "dict", none, .dict es m, #[]⟩) (kl : PySem.W.KeysLit w.params es.toList) (ns : (a == sysModules) = false) (al : AllC K a checkOf) :
    ∃ a, mg "CHECKS" = some (.ref a) ∧ KD K w a ∧ ∀ k x, checkOf.lookup k = some x → ∃ f, PySem.W.nsIn K a k = some (some (.ref f)) ∧ mg x = some (.ref f) :=
  ⟨a, PySem.W.mg_of X G e, ⟨es, m, d, kl, ns⟩, fun k x hk => by
    obtain ⟨f, h1, h2⟩ := allC_look al k x hk
    exact ⟨f, h1, PySem.W.mg_of X G h2⟩⟩
theorem propx_mk (X : K.In h) (G : h.Ns mainGlobals mg) {C0 p g : Addr} {rest : List Value} {oc kV dc pm cd ct : Value} {od an : Option Addr} {sl : Array (Option Value)} (a : PySem.W.nsIn K mainGlobals "Program" = some (some (.ref C0)))
    (at_ : PySem.W.findIn K (.ref C0) "functions" = some (some (.ref p))) (get : PySem.W.specialIn K (.ref p) "__get__" = some (some (.builtin "property.__get__"))) (tak : PySem.W.takesIn K (.ref p) = some true) (rc : PySem.W.recIn K p "property" = some (.ref g :: rest))
    (l : K.lookup g = some ⟨oc, od, .func (PySem.W.fnOf "functions" "Program.functions" (C8.fnArgs s_Program_functions) (C8.fnBody s_Program_functions) (C8.fnScope s_Program_functions) .none kV dc pm an cd ct), sl⟩) (c : PySem.W.codeIn K cd "Program.functions" = true)
    (hb : ∀ (kV doc pm : Value) (an : Option Addr) (cdv ct : Value) (us : List Value), us.length = (["self"] : List Str).length → bindArgs (PySem.W.fnOf "functions" "Program.functions" (C8.fnArgs s_Program_functions) (C8.fnBody s_Program_functions) (C8.fnScope s_Program_functions) .none kV doc pm an cdv ct) ⟨us, []⟩ = pure ((["self"] : List Str).zip us)) :
    ∀ C, mg "Program" = some (.ref C) → PropX K C "functions" "Program.functions" s_Program_functions := fun C hC => by
  have e := hC.symm.trans (PySem.W.mg_of X G a)
  cases e
  have F : C8.Fun K "functions" "Program.functions" s_Program_functions g (PySem.W.fnOf "functions" "Program.functions" (C8.fnArgs s_Program_functions) (C8.fnBody s_Program_functions) (C8.fnScope s_Program_functions) .none kV dc pm an cd ct) := ⟨oc, od, .none, kV, dc, pm, an, cd, ct, sl, rfl, l, c⟩
  exact ⟨p, g, _, ⟨at_, get, tak, ⟨rest, rc⟩⟩, F, F.binds rfl hb⟩
theorem fin {l : PySem.W.OpenLaw} {fa f : Addr} {oc kV dc pm cd ct : Value} {od an : Option Addr} {sl : Array (Option Value)} (X : K.In h) (G : h.Ns mainGlobals mg) (hfa : mg "law" = some (.ref fa)) (T : TxtK w K mg) (S : ∃ a rs, Shp w K mg a rs) (PP : ∀ C, mg "Program" = some (.ref C) → PropX K C "functions" "Program.functions" s_Program_functions)
    (a : PySem.W.nsIn K mainGlobals "law" = some (some (.ref f))) (lk : K.lookup f = some ⟨oc, od, .func (PySem.W.fnOf "law" "law" (C8.fnArgs s_law) (C8.fnBody s_law) (C8.fnScope s_law) .none kV dc pm an cd ct), sl⟩) (c : PySem.W.codeIn K cd "law" = true) :
    ∃ fd : FuncData, (∀ (s : Shared) (v : Value), BindsTo s fd ⟨[v], []⟩ [("script", v)]) ∧ ∀ base : Heap, K.In base → base.Ns mainGlobals mg → FnOk l.prog w K mg base C8.CX0 60 fa fd ["script"] (sp_law K) := by
  obtain ⟨sa, rs, S⟩ := S
  have e := hfa.symm.trans (PySem.W.mg_of X G a)
  cases e
  have F : C8.Fun K "law" "law" s_law fa (PySem.W.fnOf "law" "law" (C8.fnArgs s_law) (C8.fnBody s_law) (C8.fnScope s_law) .none kV dc pm an cd ct) := ⟨oc, od, .none, kV, dc, pm, an, cd, ct, sl, rfl, lk, c⟩
  exact ⟨_, fun s v => .of_eq rfl, fun base _ _ => fn_law T S PP F⟩
end
end EE
set_option Elab.async false
open PySem PySem.W PyProof.Rows
set_option maxRecDepth 100000
set_option maxHeartbeats 0
open_top hd10 for PySem.Challenge.rw_everyend_k10_expressions_and_tests_refus
set_option Elab.async false
set_option linter.all false
open PySem PySem.W PyProof.Rows in
set_option maxRecDepth 100000 in
set_option maxHeartbeats 0 in
theorem PySem.Challenge.cw_everyend_k10_expressions_and_tests_refus_holds : PySem.Challenge.rw_everyend_k10_expressions_and_tests_refus.Holds := by
  refine hd10 ?_
  k_fill
  refine L2.walk_ofK (l := PySem.Challenge.rw_everyend_k10_expressions_and_tests_refus) (n := 63) (k := 60) (x := "script") (CX := C8.CX0) (sp := EE.sp_law) rfl (by decide) rfl ⟨rfl, by decide, by decide⟩ (fun w h Y => PySem.W.kIn_of Y) ?F ?G fun _ _ _ _ z => z
  case G => exact fun K H a ns hl _ hS => ⟨.bl true, ⟨a, ns, rfl, hS, hl, rfl⟩, fun _ _ => rfl⟩
  case F =>
    intro w mg fa h KX G hmg
    refine' EE.fin KX G hmg ?T ?SS ?PP ?a ?lk ?c
    (case a => k_is)
    (case lk => k_is)
    (case c => k_is)
    (case SS => refine' EE.shp_mk19 KX G ?a ?d ?kl ?ns ?en ?ft; (case a => k_is); (case d => k_is); (case kl => exact ⟨⟨_, _, rfl, rfl⟩, ⟨⟨_, _, rfl, rfl⟩, ⟨⟨_, _, rfl, rfl⟩, ⟨⟨_, _, rfl, rfl⟩, ⟨⟨_, _, rfl, rfl⟩, ⟨⟨_, _, rfl, rfl⟩, ⟨⟨_, _, rfl, rfl⟩, ⟨⟨_, _, rfl, rfl⟩, ⟨⟨_, _, rfl, rfl⟩, ⟨⟨_, _, rfl, rfl⟩, ⟨⟨_, _, rfl, rfl⟩, ⟨⟨_, _, rfl, rfl⟩, ⟨⟨_, _, rfl, rfl⟩, ⟨⟨_, _, rfl, rfl⟩, ⟨⟨_, _, rfl, rfl⟩, ⟨⟨_, _, rfl, rfl⟩, ⟨⟨_, _, rfl, rfl⟩, ⟨⟨_, _, rfl, rfl⟩, ⟨⟨_, _, rfl, rfl⟩, trivial⟩⟩⟩⟩⟩⟩⟩⟩⟩⟩⟩⟩⟩⟩⟩⟩⟩⟩⟩); (case ns => decide); (case en => exact ⟨⟨_, _, rfl⟩, ⟨⟨_, _, rfl⟩, ⟨⟨_, _, rfl⟩, ⟨⟨_, _, rfl⟩, ⟨⟨_, _, rfl⟩, ⟨⟨_, _, rfl⟩, ⟨⟨_, _, rfl⟩, ⟨⟨_, _, rfl⟩, ⟨⟨_, _, rfl⟩, ⟨⟨_, _, rfl⟩, ⟨⟨_, _, rfl⟩, ⟨⟨_, _, rfl⟩, ⟨⟨_, _, rfl⟩, ⟨⟨_, _, rfl⟩, ⟨⟨_, _, rfl⟩, ⟨⟨_, _, rfl⟩, ⟨⟨_, _, rfl⟩, ⟨⟨_, _, rfl⟩, ⟨⟨_, _, rfl⟩, trivial⟩⟩⟩⟩⟩⟩⟩⟩⟩⟩⟩⟩⟩⟩⟩⟩⟩⟩⟩); (case ft => refine' EE.fit_cons ?k0 ?l0 ?hz0 ?hv0 (EE.fit_cons ?k1 ?l1 ?hz1 ?hv1 (EE.fit_cons ?k2 ?l2 ?hz2 ?hv2 (EE.fit_cons ?k3 ?l3 ?hz3 ?hv3 (EE.fit_cons ?k4 ?l4 ?hz4 ?hv4 (EE.fit_cons ?k5 ?l5 ?hz5 ?hv5 (EE.fit_cons ?k6 ?l6 ?hz6 ?hv6 (EE.fit_cons ?k7 ?l7 ?hz7 ?hv7 (EE.fit_cons ?k8 ?l8 ?hz8 ?hv8 (EE.fit_cons ?k9 ?l9 ?hz9 ?hv9 (EE.fit_cons ?k10 ?l10 ?hz10 ?hv10 (EE.fit_cons ?k11 ?l11 ?hz11 ?hv11 (EE.fit_cons ?k12 ?l12 ?hz12 ?hv12 (EE.fit_cons ?k13 ?l13 ?hz13 ?hv13 (EE.fit_cons ?k14 ?l14 ?hz14 ?hv14 (EE.fit_cons ?k15 ?l15 ?hz15 ?hv15 (EE.fit_cons ?k16 ?l16 ?hz16 ?hv16 (EE.fit_cons ?k17 ?l17 ?hz17 ?hv17 (EE.fit_cons ?k18 ?l18 ?hz18 ?hv18 (EE.fit_nil))))))))))))))))))); (case k0 => rfl); (case l0 => k_is); (case hz0 => decide); (case hv0 => exact .cons ⟨_, rfl⟩ (.cons ⟨_, rfl⟩ (.nil))); (case k1 => rfl); (case l1 => k_is); (case hz1 => decide); (case hv1 => exact .cons ⟨_, rfl⟩ (.cons ⟨_, rfl⟩ (.nil))); (case k2 => rfl); (case l2 => k_is); (case hz2 => decide); (case hv2 => exact .cons ⟨_, rfl⟩ (.nil)); (case k3 => rfl); (case l3 => k_is); (case hz3 => decide); (case hv3 => exact .cons ⟨_, rfl⟩ (.cons ⟨_, rfl⟩ (.nil))); (case k4 => rfl); (case l4 => k_is); (case hz4 => decide); (case hv4 => exact .cons ⟨_, rfl⟩ (.cons ⟨_, rfl⟩ (.cons ⟨_, rfl⟩ (.nil)))); (case k5 => rfl); (case l5 => k_is); (case hz5 => decide); (case hv5 => exact .cons ⟨_, rfl⟩ (.cons ⟨_, rfl⟩ (.nil))); (case k6 => rfl); (case l6 => k_is); (case hz6 => decide); (case hv6 => exact .cons ⟨_, rfl⟩ (.nil)); (case k7 => rfl); (case l7 => k_is); (case hz7 => decide); (case hv7 => exact .cons ⟨_, rfl⟩ (.nil)); (case k8 => rfl); (case l8 => k_is); (case hz8 => decide); (case hv8 => exact .cons ⟨_, rfl⟩ (.cons ⟨_, rfl⟩ (.cons ⟨_, rfl⟩ (.nil)))); (case k9 => rfl); (case l9 => k_is); (case hz9 => decide); (case hv9 => exact .cons ⟨_, rfl⟩ (.cons ⟨_, rfl⟩ (.nil))); (case k10 => rfl); (case l10 => k_is); (case hz10 => decide); (case hv10 => exact .cons ⟨_, rfl⟩ (.cons ⟨_, rfl⟩ (.cons ⟨_, rfl⟩ (.nil)))); (case k11 => rfl); (case l11 => k_is); (case hz11 => decide); (case hv11 => exact .cons ⟨_, rfl⟩ (.cons ⟨_, rfl⟩ (.cons ⟨_, rfl⟩ (.nil)))); (case k12 => rfl); (case l12 => k_is); (case hz12 => decide); (case hv12 => exact .cons ⟨_, rfl⟩ (.cons ⟨_, rfl⟩ (.cons ⟨_, rfl⟩ (.cons ⟨_, rfl⟩ (.nil))))); (case k13 => rfl); (case l13 => k_is); (case hz13 => decide); (case hv13 => exact .cons ⟨_, rfl⟩ (.cons ⟨_, rfl⟩ (.cons ⟨_, rfl⟩ (.nil)))); (case k14 => rfl); (case l14 => k_is); (case hz14 => decide); (case hv14 => exact .cons ⟨_, rfl⟩ (.cons ⟨_, rfl⟩ (.cons ⟨_, rfl⟩ (.nil)))); (case k15 => rfl); (case l15 => k_is); (case hz15 => decide); (case hv15 => exact .cons ⟨_, rfl⟩ (.cons ⟨_, rfl⟩ (.cons ⟨_, rfl⟩ (.nil)))); (case k16 => rfl); (case l16 => k_is); (case hz16 => decide); (case hv16 => exact .cons ⟨_, rfl⟩ (.cons ⟨_, rfl⟩ (.cons ⟨_, rfl⟩ (.cons ⟨_, rfl⟩ (.nil))))); (case k17 => rfl); (case l17 => k_is); (case hz17 => decide); (case hv17 => exact .cons ⟨_, rfl⟩ (.cons ⟨_, rfl⟩ (.cons ⟨_, rfl⟩ (.nil)))); (case k18 => rfl); (case l18 => k_is); (case hz18 => decide); (case hv18 => exact .cons ⟨_, rfl⟩ (.cons ⟨_, rfl⟩ (.nil)))))
    (case PP => refine' EE.propx_mk KX G ?a ?t ?get ?tak ?rc ?l ?c ?hb; (case a => k_is); (case t => k_is); (case get => k_is); (case tak => k_is); (case rc => k_is); (case l => k_is); (case c => k_is); (case hb => exact fun _ _ _ _ _ _ us hl => match us, hl with | [_], _ => rfl))
    (case T =>
      refine' EE.TxtK.mk ?to6 ?absT ?d_pot ?d_take ?d_name ?d_named ?d_expressed ?d_tested ?d_odd ?d_key ?d_spoiled_dict ?d_spoiled ?d_drawn_expression ?d_drawn_test ?d_at_expressions ?d_at_names ?d_right ?d_law
      (case to6 =>
        refine' EE.TxtP.mk ?to5 ?m_Program ?m_Bad
        (case to5 =>
          refine' EE.TxtH.mk ?to4 ?m_Sheet
          (case to4 =>
            refine' EE.TxtL.mk ?to3 ?m_Spot ?d_lay_try ?enumT
            (case to3 =>
              refine' EE.TxtE.mk ?to2 ?d_nots_and_core ?d_expressions_of_test
              (case to2 =>
                refine' EE.TxtS.mk ?to1 ?c_CHK
                (case to1 =>
                  refine' EE.TxtG.mk ?to0 ?d_is_any_name ?d_is_shared_name ?d_is_class_name ?d_is_function_name ?d_is_price ?d_are_words_to_ask ?d_are_expressions ?d_is_test ?d_is_kind ?rangeG ?c_DEAREST ?c_MOST_EXPRESSIONS ?c_MOST_NOTS
                  (case to0 =>
                    refine' EE.Txt.mk ?isi ?len ?all ?strT ?d_is_name ?d_are_names ?setT ?intT ?boolT ?tupT ?dictT ?listT ?d_is_integer_between ?d_is_tuple_of_names ?d_is_tuple_of_unlike_names ?d_family_of ?d_goes_in_a_ring ?d_all_fields ?d_all_methods ?revT ?any ?zipT ?sumT ?sortedT ?d_is_block ?d_is_statement ?d_shape_of ?d_is_part ?d_has_return ?d_blocks_of ?d_parts_of ?d_statements_of ?d_size_of ?d_is_expression ?d_plain_functions ?d_count_lasts ?d_free_names ?d_strings_in ?d_without_lasts ?d_plain_statements ?d_spots_of ?d_lay_block ?d_lay_statement ?d_lay_inner ?d_expressions_of ?d_copy_of_classes ?d_are_classes ?d_is_class ?d_has_right_family ?d_are_functions ?d_is_function ?d_are_methods_of ?d_first_wrong_part ?c_MOST_SHARED ?c_MOST_CLASSES ?c_MOST_FUNCTIONS ?c_MOST_PARAMETERS ?c_MOST_OWN_FIELDS ?c_MOST_FIELDS ?c_SHAPES ?c_CHECKS ?c_BLOCKS ?c_MOST_DEEP ?c_MOST_STATEMENTS ?c_SECOND_LETTERS ?c_KINDS ?d_is_dict_of_names
                    (case isi => refine' PySem.W.mg_none_of KX G ?_; k_is)
                    (case len => refine' PySem.W.mg_none_of KX G ?_; k_is)
                    (case all => refine' PySem.W.mg_none_of KX G ?_; k_is)
                    (case strT => refine' PySem.W.mg_none_of KX G ?_; k_is)
                    (case d_is_name => refine' EE.defx_mk KX G ?a ?l ?c ?k ?hb; (case a => k_is); (case l => k_is); (case c => k_is); (case k => k_is); (case hb => exact fun _ _ _ _ _ _ us hl => match us, hl with | [_], _ => rfl))
                    (case d_are_names => refine' EE.defx_mk KX G ?a ?l ?c ?k ?hb; (case a => k_is); (case l => k_is); (case c => k_is); (case k => k_is); (case hb => exact fun _ _ _ _ _ _ us hl => match us, hl with | [_], _ => rfl))
                    (case setT => refine' PySem.W.mg_none_of KX G ?_; k_is)
                    (case intT => refine' PySem.W.mg_none_of KX G ?_; k_is)
                    (case boolT => refine' PySem.W.mg_none_of KX G ?_; k_is)
                    (case tupT => refine' PySem.W.mg_none_of KX G ?_; k_is)
                    (case dictT => refine' PySem.W.mg_none_of KX G ?_; k_is)
                    (case listT => refine' PySem.W.mg_none_of KX G ?_; k_is)
                    (case d_is_integer_between => refine' EE.defx_mk KX G ?a ?l ?c ?k ?hb; (case a => k_is); (case l => k_is); (case c => k_is); (case k => k_is); (case hb => exact fun _ _ _ _ _ _ us hl => match us, hl with | [_, _, _], _ => rfl))
                    (case d_is_tuple_of_names => refine' EE.defx_mk KX G ?a ?l ?c ?k ?hb; (case a => k_is); (case l => k_is); (case c => k_is); (case k => k_is); (case hb => exact fun _ _ _ _ _ _ us hl => match us, hl with | [_, _], _ => rfl))
                    (case d_is_tuple_of_unlike_names => refine' EE.defx_mk KX G ?a ?l ?c ?k ?hb; (case a => k_is); (case l => k_is); (case c => k_is); (case k => k_is); (case hb => exact fun _ _ _ _ _ _ us hl => match us, hl with | [_, _], _ => rfl))
                    (case d_family_of => refine' EE.defx_mk KX G ?a ?l ?c ?k ?hb; (case a => k_is); (case l => k_is); (case c => k_is); (case k => k_is); (case hb => exact fun _ _ _ _ _ _ us hl => match us, hl with | [_, _], _ => rfl))
                    (case d_goes_in_a_ring => refine' EE.defx_mk KX G ?a ?l ?c ?k ?hb; (case a => k_is); (case l => k_is); (case c => k_is); (case k => k_is); (case hb => exact fun _ _ _ _ _ _ us hl => match us, hl with | [_, _], _ => rfl))
                    (case d_all_fields => refine' EE.defx_mk KX G ?a ?l ?c ?k ?hb; (case a => k_is); (case l => k_is); (case c => k_is); (case k => k_is); (case hb => exact fun _ _ _ _ _ _ us hl => match us, hl with | [_, _], _ => rfl))
                    (case d_all_methods => refine' EE.defx_mk KX G ?a ?l ?c ?k ?hb; (case a => k_is); (case l => k_is); (case c => k_is); (case k => k_is); (case hb => exact fun _ _ _ _ _ _ us hl => match us, hl with | [_, _], _ => rfl))
                    (case revT => refine' PySem.W.mg_none_of KX G ?_; k_is)
                    (case any => refine' PySem.W.mg_none_of KX G ?_; k_is)
                    (case zipT => refine' PySem.W.mg_none_of KX G ?_; k_is)
                    (case sumT => refine' PySem.W.mg_none_of KX G ?_; k_is)
                    (case sortedT => refine' PySem.W.mg_none_of KX G ?_; k_is)
                    (case d_is_block => refine' EE.defx_mk KX G ?a ?l ?c ?k ?hb; (case a => k_is); (case l => k_is); (case c => k_is); (case k => k_is); (case hb => exact fun _ _ _ _ _ _ us hl => match us, hl with | [_, _, _], _ => rfl))
                    (case d_is_statement => refine' EE.defx_mk KX G ?a ?l ?c ?k ?hb; (case a => k_is); (case l => k_is); (case c => k_is); (case k => k_is); (case hb => exact fun _ _ _ _ _ _ us hl => match us, hl with | [_, _, _], _ => rfl))
                    (case d_shape_of => refine' EE.defx_mk KX G ?a ?l ?c ?k ?hb; (case a => k_is); (case l => k_is); (case c => k_is); (case k => k_is); (case hb => exact fun _ _ _ _ _ _ us hl => match us, hl with | [_], _ => rfl))
                    (case d_is_part => refine' EE.defx_mk KX G ?a ?l ?c ?k ?hb; (case a => k_is); (case l => k_is); (case c => k_is); (case k => k_is); (case hb => exact fun _ _ _ _ _ _ us hl => match us, hl with | [_, _, _, _], _ => rfl))
                    (case d_has_return => refine' EE.defx_mk KX G ?a ?l ?c ?k ?hb; (case a => k_is); (case l => k_is); (case c => k_is); (case k => k_is); (case hb => exact fun _ _ _ _ _ _ us hl => match us, hl with | [_], _ => rfl))
                    (case d_blocks_of => refine' EE.defx_mk KX G ?a ?l ?c ?k ?hb; (case a => k_is); (case l => k_is); (case c => k_is); (case k => k_is); (case hb => exact fun _ _ _ _ _ _ us hl => match us, hl with | [_], _ => rfl))
                    (case d_parts_of => refine' EE.defx_mk KX G ?a ?l ?c ?k ?hb; (case a => k_is); (case l => k_is); (case c => k_is); (case k => k_is); (case hb => exact fun _ _ _ _ _ _ us hl => match us, hl with | [_], _ => rfl))
                    (case d_statements_of => refine' EE.defx_mk KX G ?a ?l ?c ?k ?hb; (case a => k_is); (case l => k_is); (case c => k_is); (case k => k_is); (case hb => exact fun _ _ _ _ _ _ us hl => match us, hl with | [_], _ => rfl))
                    (case d_size_of => refine' EE.defx_mk KX G ?a ?l ?c ?k ?hb; (case a => k_is); (case l => k_is); (case c => k_is); (case k => k_is); (case hb => exact fun _ _ _ _ _ _ us hl => match us, hl with | [_], _ => rfl))
                    (case d_is_expression => refine' EE.defx_mk KX G ?a ?l ?c ?k ?hb; (case a => k_is); (case l => k_is); (case c => k_is); (case k => k_is); (case hb => exact fun _ _ _ _ _ _ us hl => match us, hl with | [_, _], _ => rfl))
                    (case d_plain_functions => refine' EE.defx_mk KX G ?a ?l ?c ?k ?hb; (case a => k_is); (case l => k_is); (case c => k_is); (case k => k_is); (case hb => exact fun _ _ _ _ _ _ us hl => match us, hl with | [_], _ => rfl))
                    (case d_count_lasts => refine' EE.defx_mk KX G ?a ?l ?c ?k ?hb; (case a => k_is); (case l => k_is); (case c => k_is); (case k => k_is); (case hb => exact fun _ _ _ _ _ _ us hl => match us, hl with | [_], _ => rfl))
                    (case d_free_names => refine' EE.defx_mk KX G ?a ?l ?c ?k ?hb; (case a => k_is); (case l => k_is); (case c => k_is); (case k => k_is); (case hb => exact fun _ _ _ _ _ _ us hl => match us, hl with | [_], _ => rfl))
                    (case d_strings_in => refine' EE.defx_mk KX G ?a ?l ?c ?k ?hb; (case a => k_is); (case l => k_is); (case c => k_is); (case k => k_is); (case hb => exact fun _ _ _ _ _ _ us hl => match us, hl with | [_], _ => rfl))
                    (case d_without_lasts => refine' EE.defx_mk KX G ?a ?l ?c ?k ?hb; (case a => k_is); (case l => k_is); (case c => k_is); (case k => k_is); (case hb => exact fun _ _ _ _ _ _ us hl => match us, hl with | [_, _], _ => rfl))
                    (case d_plain_statements => refine' EE.defx_mk KX G ?a ?l ?c ?k ?hb; (case a => k_is); (case l => k_is); (case c => k_is); (case k => k_is); (case hb => exact fun _ _ _ _ _ _ us hl => match us, hl with | [_, _], _ => rfl))
                    (case d_spots_of => refine' EE.defx_mk KX G ?a ?l ?c ?k ?hb; (case a => k_is); (case l => k_is); (case c => k_is); (case k => k_is); (case hb => exact fun _ _ _ _ _ _ us hl => match us, hl with | [_], _ => rfl))
                    (case d_lay_block => refine' EE.defx_mk KX G ?a ?l ?c ?k ?hb; (case a => k_is); (case l => k_is); (case c => k_is); (case k => k_is); (case hb => exact fun _ _ _ _ _ _ us hl => match us, hl with | [_, _, _, _], _ => rfl))
                    (case d_lay_statement => refine' EE.defx_mk KX G ?a ?l ?c ?k ?hb; (case a => k_is); (case l => k_is); (case c => k_is); (case k => k_is); (case hb => exact fun _ _ _ _ _ _ us hl => match us, hl with | [_, _, _, _], _ => rfl))
                    (case d_lay_inner => refine' EE.defx_mk KX G ?a ?l ?c ?k ?hb; (case a => k_is); (case l => k_is); (case c => k_is); (case k => k_is); (case hb => exact fun _ _ _ _ _ _ us hl => match us, hl with | [_, _, _, _], _ => rfl))
                    (case d_expressions_of => refine' EE.defx_mk KX G ?a ?l ?c ?k ?hb; (case a => k_is); (case l => k_is); (case c => k_is); (case k => k_is); (case hb => exact fun _ _ _ _ _ _ us hl => match us, hl with | [_], _ => rfl))
                    (case d_copy_of_classes => refine' EE.defx_mk KX G ?a ?l ?c ?k ?hb; (case a => k_is); (case l => k_is); (case c => k_is); (case k => k_is); (case hb => exact fun _ _ _ _ _ _ us hl => match us, hl with | [_], _ => rfl))
                    (case d_are_classes => refine' EE.defx_mk KX G ?a ?l ?c ?k ?hb; (case a => k_is); (case l => k_is); (case c => k_is); (case k => k_is); (case hb => exact fun _ _ _ _ _ _ us hl => match us, hl with | [_], _ => rfl))
                    (case d_is_class => refine' EE.defx_mk KX G ?a ?l ?c ?k ?hb; (case a => k_is); (case l => k_is); (case c => k_is); (case k => k_is); (case hb => exact fun _ _ _ _ _ _ us hl => match us, hl with | [_, _], _ => rfl))
                    (case d_has_right_family => refine' EE.defx_mk KX G ?a ?l ?c ?k ?hb; (case a => k_is); (case l => k_is); (case c => k_is); (case k => k_is); (case hb => exact fun _ _ _ _ _ _ us hl => match us, hl with | [_, _], _ => rfl))
                    (case d_are_functions => refine' EE.defx_mk KX G ?a ?l ?c ?k ?hb; (case a => k_is); (case l => k_is); (case c => k_is); (case k => k_is); (case hb => exact fun _ _ _ _ _ _ us hl => match us, hl with | [_], _ => rfl))
                    (case d_is_function => refine' EE.defx_mk KX G ?a ?l ?c ?k ?hb; (case a => k_is); (case l => k_is); (case c => k_is); (case k => k_is); (case hb => exact fun _ _ _ _ _ _ us hl => match us, hl with | [_], _ => rfl))
                    (case d_are_methods_of => refine' EE.defx_mk KX G ?a ?l ?c ?k ?hb; (case a => k_is); (case l => k_is); (case c => k_is); (case k => k_is); (case hb => exact fun _ _ _ _ _ _ us hl => match us, hl with | [_, _], _ => rfl))
                    (case d_first_wrong_part => refine' EE.defx_mk KX G ?a ?l ?c ?k ?hb; (case a => k_is); (case l => k_is); (case c => k_is); (case k => k_is); (case hb => exact fun _ _ _ _ _ _ us hl => match us, hl with | [_, _, _], _ => rfl))
                    (case c_MOST_SHARED => refine' EE.cval_mk KX G ?a ?r; (case a => k_is); (case r => exact ⟨_, rfl⟩))
                    (case c_MOST_CLASSES => refine' EE.cval_mk KX G ?a ?r; (case a => k_is); (case r => exact ⟨_, rfl⟩))
                    (case c_MOST_FUNCTIONS => refine' EE.cval_mk KX G ?a ?r; (case a => k_is); (case r => exact ⟨_, rfl⟩))
                    (case c_MOST_PARAMETERS => refine' EE.cval_mk KX G ?a ?r; (case a => k_is); (case r => exact ⟨_, rfl⟩))
                    (case c_MOST_OWN_FIELDS => refine' EE.cval_mk KX G ?a ?r; (case a => k_is); (case r => exact ⟨_, rfl⟩))
                    (case c_MOST_FIELDS => refine' EE.cval_mk KX G ?a ?r; (case a => k_is); (case r => exact ⟨_, rfl⟩))
                    (case c_SHAPES => refine' EE.shapes_mk KX G ?a ?d ?kl ?ns ?g ?l ?hz ?hv; (case a => k_is); (case d => k_is); (case kl => exact ⟨⟨_, _, rfl, rfl⟩, ⟨⟨_, _, rfl, rfl⟩, ⟨⟨_, _, rfl, rfl⟩, ⟨⟨_, _, rfl, rfl⟩, ⟨⟨_, _, rfl, rfl⟩, ⟨⟨_, _, rfl, rfl⟩, ⟨⟨_, _, rfl, rfl⟩, ⟨⟨_, _, rfl, rfl⟩, ⟨⟨_, _, rfl, rfl⟩, ⟨⟨_, _, rfl, rfl⟩, ⟨⟨_, _, rfl, rfl⟩, ⟨⟨_, _, rfl, rfl⟩, ⟨⟨_, _, rfl, rfl⟩, ⟨⟨_, _, rfl, rfl⟩, ⟨⟨_, _, rfl, rfl⟩, ⟨⟨_, _, rfl, rfl⟩, ⟨⟨_, _, rfl, rfl⟩, ⟨⟨_, _, rfl, rfl⟩, ⟨⟨_, _, rfl, rfl⟩, trivial⟩⟩⟩⟩⟩⟩⟩⟩⟩⟩⟩⟩⟩⟩⟩⟩⟩⟩⟩); (case ns => decide); (case g => k_is); (case l => k_is); (case hz => decide); (case hv => exact .cons ⟨_, rfl⟩ (.nil)))
                    (case c_CHECKS => refine' EE.checks_mk KX G ?a ?d ?kl ?ns ?e2 ?g; (case a => k_is); (case d => k_is); (case kl => exact ⟨⟨_, _, rfl, rfl⟩, ⟨⟨_, _, rfl, rfl⟩, ⟨⟨_, _, rfl, rfl⟩, ⟨⟨_, _, rfl, rfl⟩, ⟨⟨_, _, rfl, rfl⟩, ⟨⟨_, _, rfl, rfl⟩, ⟨⟨_, _, rfl, rfl⟩, ⟨⟨_, _, rfl, rfl⟩, ⟨⟨_, _, rfl, rfl⟩, ⟨⟨_, _, rfl, rfl⟩, trivial⟩⟩⟩⟩⟩⟩⟩⟩⟩⟩); (case ns => decide); (case e2 => k_is); (case g => k_is))
                    (case c_BLOCKS => refine' EE.ctup_mk KX G ?a ?l ?hz ?hv; (case a => k_is); (case l => k_is); (case hz => decide); (case hv => exact .cons ⟨_, rfl⟩ (.cons ⟨_, rfl⟩ (.nil))))
                    (case c_MOST_DEEP => refine' EE.cval_mk KX G ?a ?r; (case a => k_is); (case r => exact ⟨_, rfl⟩))
                    (case c_MOST_STATEMENTS => refine' EE.cval_mk KX G ?a ?r; (case a => k_is); (case r => exact ⟨_, rfl⟩))
                    (case c_SECOND_LETTERS => refine' EE.cval_mk KX G ?a ?r; (case a => k_is); (case r => exact ⟨_, rfl⟩))
                    (case c_KINDS => refine' EE.ctup_mk KX G ?a ?l ?hz ?hv; (case a => k_is); (case l => k_is); (case hz => decide); (case hv => exact .cons ⟨_, rfl⟩ (.cons ⟨_, rfl⟩ (.cons ⟨_, rfl⟩ (.nil)))))
                    (case d_is_dict_of_names => refine' EE.defx_mk KX G ?a ?l ?c ?k ?hb; (case a => k_is); (case l => k_is); (case c => k_is); (case k => k_is); (case hb => exact fun _ _ _ _ _ _ us hl => match us, hl with | [_], _ => rfl)))
                  (case d_is_any_name => refine' EE.defx_mk KX G ?a ?l ?c ?k ?hb; (case a => k_is); (case l => k_is); (case c => k_is); (case k => k_is); (case hb => exact fun _ _ _ _ _ _ us hl => match us, hl with | [_, _], _ => rfl))
                  (case d_is_shared_name => refine' EE.defx_mk KX G ?a ?l ?c ?k ?hb; (case a => k_is); (case l => k_is); (case c => k_is); (case k => k_is); (case hb => exact fun _ _ _ _ _ _ us hl => match us, hl with | [_, _], _ => rfl))
                  (case d_is_class_name => refine' EE.defx_mk KX G ?a ?l ?c ?k ?hb; (case a => k_is); (case l => k_is); (case c => k_is); (case k => k_is); (case hb => exact fun _ _ _ _ _ _ us hl => match us, hl with | [_, _], _ => rfl))
                  (case d_is_function_name => refine' EE.defx_mk KX G ?a ?l ?c ?k ?hb; (case a => k_is); (case l => k_is); (case c => k_is); (case k => k_is); (case hb => exact fun _ _ _ _ _ _ us hl => match us, hl with | [_, _], _ => rfl))
                  (case d_is_price => refine' EE.defx_mk KX G ?a ?l ?c ?k ?hb; (case a => k_is); (case l => k_is); (case c => k_is); (case k => k_is); (case hb => exact fun _ _ _ _ _ _ us hl => match us, hl with | [_, _], _ => rfl))
                  (case d_are_words_to_ask => refine' EE.defx_mk KX G ?a ?l ?c ?k ?hb; (case a => k_is); (case l => k_is); (case c => k_is); (case k => k_is); (case hb => exact fun _ _ _ _ _ _ us hl => match us, hl with | [_, _], _ => rfl))
                  (case d_are_expressions => refine' EE.defx_mk KX G ?a ?l ?c ?k ?hb; (case a => k_is); (case l => k_is); (case c => k_is); (case k => k_is); (case hb => exact fun _ _ _ _ _ _ us hl => match us, hl with | [_, _], _ => rfl))
                  (case d_is_test => refine' EE.defx_mk KX G ?a ?l ?c ?k ?hb; (case a => k_is); (case l => k_is); (case c => k_is); (case k => k_is); (case hb => exact fun _ _ _ _ _ _ us hl => match us, hl with | [_, _], _ => rfl))
                  (case d_is_kind => refine' EE.defx_mk KX G ?a ?l ?c ?k ?hb; (case a => k_is); (case l => k_is); (case c => k_is); (case k => k_is); (case hb => exact fun _ _ _ _ _ _ us hl => match us, hl with | [_, _], _ => rfl))
                  (case rangeG => refine' PySem.W.mg_none_of KX G ?_; k_is)
                  (case c_DEAREST => refine' EE.cval_mk KX G ?a ?r; (case a => k_is); (case r => exact ⟨_, rfl⟩))
                  (case c_MOST_EXPRESSIONS => refine' EE.cval_mk KX G ?a ?r; (case a => k_is); (case r => exact ⟨_, rfl⟩))
                  (case c_MOST_NOTS => refine' EE.cval_mk KX G ?a ?r; (case a => k_is); (case r => exact ⟨_, rfl⟩)))
                (case c_CHK => refine' EE.chk_mk KX G ?a ?d ?kl ?ns ?al; (case a => k_is); (case d => k_is); (case kl => exact ⟨⟨_, _, rfl, rfl⟩, ⟨⟨_, _, rfl, rfl⟩, ⟨⟨_, _, rfl, rfl⟩, ⟨⟨_, _, rfl, rfl⟩, ⟨⟨_, _, rfl, rfl⟩, ⟨⟨_, _, rfl, rfl⟩, ⟨⟨_, _, rfl, rfl⟩, ⟨⟨_, _, rfl, rfl⟩, ⟨⟨_, _, rfl, rfl⟩, ⟨⟨_, _, rfl, rfl⟩, trivial⟩⟩⟩⟩⟩⟩⟩⟩⟩⟩); (case ns => decide); (case al => refine' EE.allC_cons ?g0 ?e0 (EE.allC_cons ?g1 ?e1 (EE.allC_cons ?g2 ?e2 (EE.allC_cons ?g3 ?e3 (EE.allC_cons ?g4 ?e4 (EE.allC_cons ?g5 ?e5 (EE.allC_cons ?g6 ?e6 (EE.allC_cons ?g7 ?e7 (EE.allC_cons ?g8 ?e8 (EE.allC_cons ?g9 ?e9 (EE.allC_nil)))))))))); (case g0 => k_is); (case e0 => k_is); (case g1 => k_is); (case e1 => k_is); (case g2 => k_is); (case e2 => k_is); (case g3 => k_is); (case e3 => k_is); (case g4 => k_is); (case e4 => k_is); (case g5 => k_is); (case e5 => k_is); (case g6 => k_is); (case e6 => k_is); (case g7 => k_is); (case e7 => k_is); (case g8 => k_is); (case e8 => k_is); (case g9 => k_is); (case e9 => k_is))))
              (case d_nots_and_core => refine' EE.defx_mk KX G ?a ?l ?c ?k ?hb; (case a => k_is); (case l => k_is); (case c => k_is); (case k => k_is); (case hb => exact fun _ _ _ _ _ _ us hl => match us, hl with | [_], _ => rfl))
              (case d_expressions_of_test => refine' EE.defx_mk KX G ?a ?l ?c ?k ?hb; (case a => k_is); (case l => k_is); (case c => k_is); (case k => k_is); (case hb => exact fun _ _ _ _ _ _ us hl => match us, hl with | [_], _ => rfl)))
            (case m_Spot => refine' EE.mkC_mk KX G ?a ?pg ?hd ?po ?sa ?mk ?i ?isf ?kc ?l ?c ?no ?hb; (case a => k_is); (case pg => k_is); (case hd => k_is); (case po => k_is); (case sa => k_is); (case mk => k_is); (case i => k_is); (case isf => k_is); (case kc => k_is); (case l => k_is); (case c => k_is); (case no => refine' EE.no_cons ?n0 (EE.no_cons ?n1 (EE.no_cons ?n2 (EE.no_cons ?n3 (EE.no_cons ?n4 (EE.no_cons ?n5 (EE.no_nil)))))); (case n0 => k_is); (case n1 => k_is); (case n2 => k_is); (case n3 => k_is); (case n4 => k_is); (case n5 => k_is)); (case hb => exact fun _ _ _ _ _ _ us hl => match us, hl with | [_, _, _, _], _ => rfl))
            (case d_lay_try => refine' EE.defx_mk KX G ?a ?l ?c ?k ?hb; (case a => k_is); (case l => k_is); (case c => k_is); (case k => k_is); (case hb => exact fun _ _ _ _ _ _ us hl => match us, hl with | [_, _, _], _ => rfl))
            (case enumT => refine' PySem.W.mg_none_of KX G ?_; k_is))
          (case m_Sheet => refine' EE.mkC_mk KX G ?a ?pg ?hd ?po ?sa ?mk ?i ?isf ?kc ?l ?c ?no ?hb; (case a => k_is); (case pg => k_is); (case hd => k_is); (case po => k_is); (case sa => k_is); (case mk => k_is); (case i => k_is); (case isf => k_is); (case kc => k_is); (case l => k_is); (case c => k_is); (case no => refine' EE.no_cons ?n0 (EE.no_cons ?n1 (EE.no_cons ?n2 (EE.no_cons ?n3 (EE.no_cons ?n4 (EE.no_cons ?n5 (EE.no_cons ?n6 (EE.no_cons ?n7 (EE.no_cons ?n8 (EE.no_nil))))))))); (case n0 => k_is); (case n1 => k_is); (case n2 => k_is); (case n3 => k_is); (case n4 => k_is); (case n5 => k_is); (case n6 => k_is); (case n7 => k_is); (case n8 => k_is)); (case hb => exact fun _ _ _ _ _ _ us hl => match us, hl with | [_, _, _, _], _ => rfl)))
        (case m_Program => refine' EE.mkC_mk KX G ?a ?pg ?hd ?po ?sa ?mk ?i ?isf ?kc ?l ?c ?no ?hb; (case a => k_is); (case pg => k_is); (case hd => k_is); (case po => k_is); (case sa => k_is); (case mk => k_is); (case i => k_is); (case isf => k_is); (case kc => k_is); (case l => k_is); (case c => k_is); (case no => refine' EE.no_cons ?n0 (EE.no_cons ?n1 (EE.no_cons ?n2 (EE.no_cons ?n3 (EE.no_cons ?n4 (EE.no_nil))))); (case n0 => k_is); (case n1 => k_is); (case n2 => k_is); (case n3 => k_is); (case n4 => k_is)); (case hb => exact fun _ _ _ _ _ _ us hl => match us, hl with | [_, _, _, _], _ => rfl))
        (case m_Bad => refine' EE.bp_mk KX G ?a ?cl ?rv ?sa ?exC ?tyC ?kC ?ga ?gg ?hdC ?nn ?is ?sb ?i ?ti ?l ?c ?hb; (case a => k_is); (case cl => k_is); (case rv => decide +kernel); (case sa => k_is); (case exC => k_is); (case tyC => k_is); (case kC => k_is); (case ga => k_is); (case gg => k_is); (case hdC => k_is); (case nn => k_is); (case is => k_is); (case sb => k_is); (case i => k_is); (case ti => k_is); (case l => k_is); (case c => k_is); (case hb => exact fun _ _ _ _ _ _ us hl => match us, hl with | [_, _], _ => rfl)))
      (case absT => refine' PySem.W.mg_none_of KX G ?_; k_is)
      (case d_pot => refine' EE.defx_mk KX G ?a ?l ?c ?k ?hb; (case a => k_is); (case l => k_is); (case c => k_is); (case k => k_is); (case hb => exact fun _ _ _ _ _ _ us hl => match us, hl with | [_, _], _ => rfl))
      (case d_take => refine' EE.defx_mk KX G ?a ?l ?c ?k ?hb; (case a => k_is); (case l => k_is); (case c => k_is); (case k => k_is); (case hb => exact fun _ _ _ _ _ _ us hl => match us, hl with | [_, _], _ => rfl))
      (case d_name => refine' EE.defx_mk KX G ?a ?l ?c ?k ?hb; (case a => k_is); (case l => k_is); (case c => k_is); (case k => k_is); (case hb => exact fun _ _ _ _ _ _ us hl => match us, hl with | [_], _ => rfl))
      (case d_named => refine' EE.defx_mk KX G ?a ?l ?c ?k ?hb; (case a => k_is); (case l => k_is); (case c => k_is); (case k => k_is); (case hb => exact fun _ _ _ _ _ _ us hl => match us, hl with | [_], _ => rfl))
      (case d_expressed => refine' EE.defx_mk KX G ?a ?l ?c ?k ?hb; (case a => k_is); (case l => k_is); (case c => k_is); (case k => k_is); (case hb => exact fun _ _ _ _ _ _ us hl => match us, hl with | [_], _ => rfl))
      (case d_tested => refine' EE.defx_mk KX G ?a ?l ?c ?k ?hb; (case a => k_is); (case l => k_is); (case c => k_is); (case k => k_is); (case hb => exact fun _ _ _ _ _ _ us hl => match us, hl with | [_, _, _], _ => rfl))
      (case d_odd => refine' EE.defx_mk KX G ?a ?l ?c ?k ?hb; (case a => k_is); (case l => k_is); (case c => k_is); (case k => k_is); (case hb => exact fun _ _ _ _ _ _ us hl => match us, hl with | [_], _ => rfl))
      (case d_key => refine' EE.defx_mk KX G ?a ?l ?c ?k ?hb; (case a => k_is); (case l => k_is); (case c => k_is); (case k => k_is); (case hb => exact fun _ _ _ _ _ _ us hl => match us, hl with | [_], _ => rfl))
      (case d_spoiled_dict => refine' EE.defx_mk KX G ?a ?l ?c ?k ?hb; (case a => k_is); (case l => k_is); (case c => k_is); (case k => k_is); (case hb => exact fun _ _ _ _ _ _ us hl => match us, hl with | [_, _], _ => rfl))
      (case d_spoiled => refine' EE.defx_mk KX G ?a ?l ?c ?k ?hb; (case a => k_is); (case l => k_is); (case c => k_is); (case k => k_is); (case hb => exact fun _ _ _ _ _ _ us hl => match us, hl with | [_, _], _ => rfl))
      (case d_drawn_expression => refine' EE.defx_mk KX G ?a ?l ?c ?k ?hb; (case a => k_is); (case l => k_is); (case c => k_is); (case k => k_is); (case hb => exact fun _ _ _ _ _ _ us hl => match us, hl with | [_], _ => rfl))
      (case d_drawn_test => refine' EE.defx_mk KX G ?a ?l ?c ?k ?hb; (case a => k_is); (case l => k_is); (case c => k_is); (case k => k_is); (case hb => exact fun _ _ _ _ _ _ us hl => match us, hl with | [_, _], _ => rfl))
      (case d_at_expressions => refine' EE.defx_mk KX G ?a ?l ?c ?k ?hb; (case a => k_is); (case l => k_is); (case c => k_is); (case k => k_is); (case hb => exact fun _ _ _ _ _ _ us hl => match us, hl with | [_], _ => rfl))
      (case d_at_names => refine' EE.defx_mk KX G ?a ?l ?c ?k ?hb; (case a => k_is); (case l => k_is); (case c => k_is); (case k => k_is); (case hb => exact fun _ _ _ _ _ _ us hl => match us, hl with | [_], _ => rfl))
      (case d_right => refine' EE.defx_mk KX G ?a ?l ?c ?k ?hb; (case a => k_is); (case l => k_is); (case c => k_is); (case k => k_is); (case hb => exact fun _ _ _ _ _ _ us hl => match us, hl with | [_, _, _], _ => rfl))
      (case d_law => refine' EE.defx_mk KX G ?a ?l ?c ?k ?hb; (case a => k_is); (case l => k_is); (case c => k_is); (case k => k_is); (case hb => exact fun _ _ _ _ _ _ us hl => match us, hl with | [_], _ => rfl)))
