import PyProof.Rows.All
import Wide.All
import OpenK.AllK
import Wide.FinOn
import HandS.ForMost
import HandS.More
import PyProof.TypeEq
import PyProof.InstEq
import HandS.AnyAll
import HandS.IsInst
import HandS.Wide
import PyProof.ReprRoads
import PyProof.ReprText
import PyProof.ReprLen
import PyProof.Rows.RuleB_pow
import HandS.EndTab
import PyProof.StrBlock
import HandS.Base
import HandS.Text
import HandS.StrMore
import KE.IntTextLaws
import KE.IntTextText
import HandS.Codes
import HandS.TupAny
import HandS.Style
import PyProof.Rows.IntBool
import PyProof.Rows.EqBoolInt
import PyProof.StrOps2
import KE.KRevSl
import HandS.GenYield
import HandS.Deep
import PyProof.DictCompW
import HandS.Call
import HandS.List
import HandS.Comp
import HandS.Dict
import HandS.DictComp
import PyProof.CollectIter
import PyProof.JoinWalk
import PyProof.DictWalks
import KE.KDictSum
import KE.KStar
import HandS.Conv
import HandS.Star
import HandS.TupSets
import HandS.Flow
import HandS.Iter
import PyProof.Rows.StrJoin2
import HandS.Walk
import PyProof.Rows.ReprOcc
import PyProof.Rows.StrFin3
import PyProof.StrBlockL
import HandS.WideBits
import HandS.RaiseMore
import HandS.ExcOwn
import HandS.Words
import HandS.Lambda
import KE.KIntText
import PyProof.Rows.Digits
import PySem.Challenge.RW_leanfar_k65_written_and_read
set_option Elab.async false
set_option linter.all false
set_option maxRecDepth 100000
set_option maxHeartbeats 2000000
/-! types compared by == and != -/
namespace Ld
open PySem PySem.Spec PyProof.Rows L2
theorem slot_type_ne : Slot "type" (cmpInfo .NotEq).2.1 "object.__ne__" :=
  .of (owner := "object") (n := "__ne__") (by rw [typeLookup_type, builtinLookup_eq_fast]; kernel_rfl) (by decide +kernel) (by decide +kernel) (by decide +kernel)
    (by first | exact .inl (by decide +kernel) | exact .inr (by decide +kernel)) (by rw [isSubtype_type]; kernel_rfl)
theorem slot_type_ne_refl : Slot "type" (cmpInfo .NotEq).2.2 "object.__ne__" :=
  .of (owner := "object") (n := "__ne__") (by rw [typeLookup_type, builtinLookup_eq_fast]; kernel_rfl) (by decide +kernel) (by decide +kernel) (by decide +kernel)
    (by first | exact .inl (by decide +kernel) | exact .inr (by decide +kernel)) (by rw [isSubtype_type]; kernel_rfl)
theorem slot_type_eqN : Slot "type" (Str.ofString "__eq__") "object.__eq__" :=
  .of (owner := "object") (n := "__eq__") (by rw [typeLookup_type, builtinLookup_eq_fast]; kernel_rfl) (by decide +kernel) (by decide +kernel) (by decide +kernel)
    (by first | exact .inl (by decide +kernel) | exact .inr (by decide +kernel)) (by rw [isSubtype_type]; kernel_rfl)
section
variable {prog : Program} {w : World} {A : Around} {E : Value → Shared → Prop} {s : Shared}
theorem ne_body_same {X : String} (hX : ∀ s' : Shared, s'.TypeIs (.type X) "type") (hu : A.units < cLine) {Q : Fin → Shared → Prop} (h : Q (.done (.ret (.bool false))) s) :
    wpAny (model prog w) A (Builtin.«object.__ne__» ⟨[.type X, .type X], []⟩) Q E s := by
  unfold Builtin.«object.__ne__»
  repeat (first
    | with_reducible refine wpAny_cRoomFor hu ?_
    | (refine wpAny_bind (m := callSpecialIfBound? (.type X) (Str.ofString "__eq__") [.type X])
        (wpAny_callSpecialIfBound?_slot (hX _) slot_type_eqN
          (call_gives slot_type_eqN (hX _) F.entry_object_eq (F.args_object_eq_2 _ _) (TypeEq.object_eq_same rfl (by simp)) ?_))
       repeat (first | exact h | exact wpAny_pure h | exact wpAny_truthy_bool h | (refine wpAny_bind (m := truthy (.bool _)) (wpAny_truthy_bool ?_)) | wp_step))
    | wp_step)
theorem ne_body_other {X Y : String} (hX : ∀ s' : Shared, s'.TypeIs (.type X) "type") (hne : (Value.type X == Value.type Y) = false) (hu : A.units < cLine) {Q : Fin → Shared → Prop} (h : Q (.done (.ret .notImplemented)) s) :
    wpAny (model prog w) A (Builtin.«object.__ne__» ⟨[.type X, .type Y], []⟩) Q E s := by
  unfold Builtin.«object.__ne__»
  repeat (first
    | with_reducible refine wpAny_cRoomFor hu ?_
    | (refine wpAny_bind (m := callSpecialIfBound? (.type X) (Str.ofString "__eq__") [.type Y])
        (wpAny_callSpecialIfBound?_slot (hX _) slot_type_eqN
          (call_gives slot_type_eqN (hX _) F.entry_object_eq (F.args_object_eq_2 _ _) (TypeEq.object_eq_other rfl hne) ?_))
       repeat (first | exact h | exact wpAny_pure h | wp_step))
    | wp_step)
theorem call_ne_same {X : String} (hX : ∀ s' : Shared, s'.TypeIs (.type X) "type") (hu : A.units + 1 < cLine) {Q : Value → Shared → Prop} (h : Q (.bool false) s) :
    wpAny (model prog w) A (call (.builtin "object.__ne__") [.type X, .type X]) Q E s :=
  wpAny_call (codeAny_call_builtin slot_type_ne.plain F.cmpEntry_ne (slot_type_ne.check _ _ _ _ _ _ _ _ (hX _) (F.cmpArgs_ne _ _) (ne_body_same (A := A.in1) hX hu h)))
theorem call_ne_other {X Y : String} (hX : ∀ s' : Shared, s'.TypeIs (.type X) "type") (hne : (Value.type X == Value.type Y) = false) (hu : A.units + 1 < cLine) {Q : Value → Shared → Prop} (h : Q .notImplemented s) :
    wpAny (model prog w) A (call (.builtin "object.__ne__") [.type X, .type Y]) Q E s :=
  wpAny_call (codeAny_call_builtin slot_type_ne.plain F.cmpEntry_ne (slot_type_ne.check _ _ _ _ _ _ _ _ (hX _) (F.cmpArgs_ne _ _) (ne_body_other (A := A.in1) hX hne hu h)))
theorem rich_ne_decline {a b : Value} {T id : String} {k : Bool} {Q : Value → Shared → Prop} (ha : ∀ s' : Shared, s'.TypeIs a T) (hb : ∀ s' : Shared, s'.TypeIs b T)
    (h1 : Slot T (cmpInfo .NotEq).2.1 id) (h2 : Slot T (cmpInfo .NotEq).2.2 id) (hv : [a, b].any Value.onHeap = false) (hk : isSame a b = pure k)
    (hc : wpAny (model prog w) A (call (.builtin id) [a, b]) (fun v s₁ => v = .notImplemented ∧ wpAny (model prog w) A (call (.builtin id) [b, a]) (fun v s₂ => v = .notImplemented ∧ Q (.bool (!k)) s₂) E s₁) E s) :
    wpAny (model prog w) A (richCompare .NotEq a b) Q E s := by
  rcases hi : cmpInfo CmpOp.NotEq with ⟨sym, f, r⟩
  rw [hi] at h1 h2
  simp only [richCompare, hi, (ha s).oneThing_none]
  try with_reducible refine wpAny_holding ?_
  refine wpAny_bind (wpAny_cRoomFor_or (.inl hv) ?_)
  refine wpAny_bind (wpAny_typeOf (ha s) (wpAny_bind (wpAny_typeOf (hb s) ?_)))
  simp only [bne_self_eq_false, Bool.false_eq_true, if_false, pure_bind, Bool.not_false, if_true]
  refine wpAny_bind (m := tryCompare a _ b) (wpAny_tryCompare_declines (ha s) h1 (wpAny_mono hc (fun v s₁ h₁ => ⟨h₁.1, ?_⟩) fun _ _ x => x))
  refine wpAny_bind (m := tryCompare b _ a) (wpAny_tryCompare_declines (hb s₁) h2 (wpAny_mono h₁.2 (fun v s₂ h₂ => ⟨h₂.1, ?_⟩) fun _ _ x => x))
  refine wpAny_bind (wpAny_rule (wpAny_bind (wpAny_of_eq hk (wpAny_pure h₂.2))))
theorem ne_type {X Y : String} (hX : ∀ s' : Shared, s'.TypeIs (.type X) "type") (hY : ∀ s' : Shared, s'.TypeIs (.type Y) "type") (hu : A.units + 1 < cLine) {Q : Value → Shared → Prop} (h : Q (.bool (!decide (X = Y))) s) :
    wpAny (model prog w) A (compareOp .NotEq (.type X) (.type Y)) Q E s := by
  show wpAny _ A (richCompare .NotEq _ _) Q E s
  by_cases e : X = Y
  · subst e
    rw [decide_eq_true rfl] at h
    exact wpAny_richCompare_same (T := "type") (hX s) (hX s) slot_type_ne (call_ne_same hX hu ⟨(by intro e; cases e), h⟩)
  · rw [decide_eq_false e] at h
    have hne : (Value.type X == Value.type Y) = false := by rw [ty_beq]; exact decide_eq_false e
    have hne' : (Value.type Y == Value.type X) = false := by rw [ty_beq]; exact decide_eq_false fun z => e z.symm
    exact rich_ne_decline (T := "type") (k := false) hX hY slot_type_ne slot_type_ne_refl rfl (by rw [isSame_plain rfl, hne])
      (call_ne_other hX hne hu ⟨rfl, call_ne_other hY hne' hu ⟨rfl, h⟩⟩)
theorem eq_type {X Y : String} (hX : ∀ s' : Shared, s'.TypeIs (.type X) "type") (hY : ∀ s' : Shared, s'.TypeIs (.type Y) "type") {Q : Value → Shared → Prop} (h : Q (.bool (decide (X = Y))) s) :
    wpAny (model prog w) A (compareOp .Eq (.type X) (.type Y)) Q E s := by
  by_cases e : X = Y
  · subst e
    rw [decide_eq_true rfl] at h
    exact TypeEq.eq_type_same hX h
  · rw [decide_eq_false e] at h
    exact TypeEq.eq_type_other hX hY (by rw [ty_beq]; exact decide_eq_false e) h
end
/-- the kinds that are compared -/
inductive K7 : String → Prop
  | int : K7 "int" | str : K7 "str" | bool : K7 "bool" | none : K7 "NoneType" | list : K7 "list" | tuple : K7 "tuple" | dict : K7 "dict"
theorem K7.meta {X : String} (h : K7 X) (s' : Shared) : s'.TypeIs (.type X) "type" := by
  cases h with
  | int => exact TypeEq.meta_int s'
  | str => exact TypeEq.meta_str s'
  | bool => exact TypeEq.meta_bool s'
  | none => exact TypeEq.meta_NoneType s'
  | list => exact TypeEq.meta_list s'
  | tuple => exact TypeEq.meta_tuple s'
  | dict => exact TypeEq.meta_dict s'
/-- type(x) == T, type(x) != T -/
def rTyEq : R2 := fun x y H Q => ∃ a b, x = .ty a ∧ y = .ty b ∧ K7 a ∧ K7 b ∧ Q (.bl (decide (a = b))) H
def rTyNe : R2 := fun x y H Q => ∃ a b, x = .ty a ∧ y = .ty b ∧ K7 a ∧ K7 b ∧ Q (.bl (!decide (a = b))) H
section
variable {X : Cx}
theorem op_eqTy : OpR X (compareOp .Eq) rTyEq := by
  intro pins s σ H x y v u Q I rx ry h
  obtain ⟨a, b, rfl, rfl, ka, kb, q⟩ := h
  cases (show v = Value.type a from rx)
  cases (show u = Value.type b from ry)
  exact eq_type ka.meta kb.meta ⟨.bl _, H, I, rfl, q⟩
theorem op_neTy (hu : X.A.units + 1 < cLine) : OpR X (compareOp .NotEq) rTyNe := by
  intro pins s σ H x y v u Q I rx ry h
  obtain ⟨a, b, rfl, rfl, ka, kb, q⟩ := h
  cases (show v = Value.type a from rx)
  cases (show u = Value.type b from ry)
  exact ne_type ka.meta kb.meta hu ⟨.bl _, H, I, rfl, q⟩
end
end Ld
set_option Elab.async false
set_option linter.all false
set_option maxRecDepth 100000
set_option maxHeartbeats 2000000
/-! data over the abstract heap, dicts too; repr of them -/
namespace Ld
open PySem PySem.Spec PyProof.Rows L2
mutual
inductive Da (H : Hp) : V → PyData → Prop
  | non : Da H .non .none
  | bl (b : Bool) : Da H (.bl b) (.bool b)
  | int (i : Int) : Da H (.int i) (.int i)
  | str (x : Str) : Da H (.str x) (.str x)
  | lst {a : Addr} {xs : List V} {ds : List PyData} : H a = some (.lst xs) → DaAll H xs ds → Da H (.ref a) (.list ds)
  | tup {a : Addr} {xs : List V} {ds : List PyData} : H a = some (.tup xs) → DaAll H xs ds → Da H (.ref a) (.tuple ds)
  | dct {a : Addr} {kvs : List (Key × V)} {ps : List (PyData × PyData)} : H a = some (.dK kvs) → DaAll H (kvs.map fun p => kV p.1) (ps.map (·.1)) → DaAll H (kvs.map (·.2)) (ps.map (·.2)) → Da H (.ref a) (.dict ps)
inductive DaAll (H : Hp) : List V → List PyData → Prop
  | nil : DaAll H [] []
  | cons {v : V} {vs : List V} {d : PyData} {ds : List PyData} : Da H v d → DaAll H vs ds → DaAll H (v :: vs) (d :: ds)
end
/-- what a datum leans on is kept -/
def Kp (S : Addr → Prop) (H H' : Hp) : Prop := ∀ a o, ¬ S a → H a = some o → H' a = some o
mutual
theorem Da.keep {H H' : Hp} (k : ∀ a o, H a = some o → (∀ ps, o ≠ .tbl ps) → H' a = some o) : ∀ {v : V} {d : PyData}, Da H v d → Da H' v d
  | _, _, .non => .non
  | _, _, .bl b => .bl b
  | _, _, .int i => .int i
  | _, _, .str x => .str x
  | _, _, .lst h hs => .lst (k _ _ h fun _ e => nomatch e) (DaAll.keep k hs)
  | _, _, .tup h hs => .tup (k _ _ h fun _ e => nomatch e) (DaAll.keep k hs)
  | _, _, .dct h h1 h2 => .dct (k _ _ h fun _ e => nomatch e) (DaAll.keep k h1) (DaAll.keep k h2)
theorem DaAll.keep {H H' : Hp} (k : ∀ a o, H a = some o → (∀ ps, o ≠ .tbl ps) → H' a = some o) : ∀ {vs : List V} {ds : List PyData}, DaAll H vs ds → DaAll H' vs ds
  | _, _, .nil => .nil
  | _, _, .cons h hs => .cons (Da.keep k h) (DaAll.keep k hs)
end
theorem DaAll.len {H : Hp} : ∀ {vs : List V} {ds : List PyData}, DaAll H vs ds → vs.length = ds.length
  | _, _, .nil => rfl
  | _, _, .cons _ h => congrArg (· + 1) h.len
theorem DaAll.get {H : Hp} : ∀ {vs : List V} {ds : List PyData}, DaAll H vs ds → ∀ (i : Nat) (v : V), vs[i]? = some v → ∃ d, ds[i]? = some d ∧ Da H v d
  | _, _, .nil, i, v, h => by simp at h
  | _, _, .cons h hs, 0, v, e => by
    have e' : _ = v := Option.some.inj e
    subst e'
    exact ⟨_, rfl, h⟩
  | _, _, .cons h hs, i + 1, v, e => hs.get i v e
theorem DaAll.snoc {H : Hp} {v : V} {d : PyData} (h : Da H v d) : ∀ {vs : List V} {ds : List PyData}, DaAll H vs ds → DaAll H (vs ++ [v]) (ds ++ [d])
  | _, _, .nil => .cons h .nil
  | _, _, .cons a as => .cons a (as.snoc h)
theorem DaAll.app {H : Hp} {us : List V} {es : List PyData} (h : DaAll H us es) : ∀ {vs : List V} {ds : List PyData}, DaAll H vs ds → DaAll H (vs ++ us) (ds ++ es)
  | _, _, .nil => h
  | _, _, .cons a as => by
    show DaAll H (_ :: (_ ++ us)) (_ :: (_ ++ es))
    exact .cons a (DaAll.app h as)
theorem DaAll.set {H : Hp} {v : V} {d : PyData} (h : Da H v d) : ∀ {vs : List V} {ds : List PyData} (i : Nat), DaAll H vs ds → DaAll H (vs.set i v) (ds.set i d)
  | _, _, _, .nil => .nil
  | _, _, 0, .cons a as => .cons h as
  | _, _, i + 1, .cons a as => .cons a (as.set h i)

section
variable {X : Cx} {pins : List (Addr × Obj)} {σ : L2.St} {H : Hp} {s : Shared}
/-- a dict's keys and values, as the heap has them -/
theorem pairs_read {prog : Program} {w : World} : ∀ {es : List DictEntry} {kvs : List (Key × Value)}, Pairs (mixKind prog w) es kvs → ∀ {vs : List (Key × V)}, KV vs kvs →
    Vals (vs.map fun p => kV p.1) (es.map (·.key)) ∧ Vals (vs.map (·.2)) (es.map (·.val))
  | _, _, .nil, _, .nil => ⟨.nil, .nil⟩
  | _, _, .cons (e := e) (kv := kv) h1 h2 h3, _, .cons (a := p) r1 r2 => by
    obtain ⟨q1, q2⟩ := pairs_read h3 r2
    obtain ⟨e1, e2⟩ := r1
    refine ⟨.cons ?_ q1, .cons ?_ q2⟩
    · show RelV (kV p.1) e.key
      rw [e1]
      rcases keyIs_shape h1 with ⟨i, t, ek, ev⟩ | ⟨x, t, ek, ev⟩
      · rw [ek, ev]
        exact ⟨t, rfl⟩
      · rw [ek, ev]
        exact ⟨t, rfl⟩
    · show RelV p.2 e.val
      rw [h2]
      exact e2
mutual
/-- what is read of a datum, and how repr shows it -/
theorem Da.rep (prog : Program) (w : World) (I : Inv X pins σ H s) : ∀ {v : V} {d : PyData}, Da H v d → ∀ {u : Value}, RelV v u → d.showable = true → d.shown.length ≤ sizeLine →
    (∃ as, Reads s.heap u d as) ∧ ∃ bs, ReadAtMost s.heap d.depth bs ∧ ReprK prog w bs s.heap d.depth u d.shown
  | _, _, .non, _, r, _, _ => by
    cases r
    exact ⟨⟨_, Reads.none⟩, [], (fun _ h => nomatch h), by simp only [PyData.shown]; exact .of_is ReprIs.none _ _ _⟩
  | _, _, .bl b, _, r, _, _ => by
    cases r
    exact ⟨⟨_, Reads.bool b⟩, [], (fun _ h => nomatch h), by simp only [PyData.shown]; exact .of_is (ReprIs.bool b) _ _ _⟩
  | _, _, .int i, _, r, hs, _ => by
    obtain ⟨t, rfl⟩ := r
    exact ⟨⟨_, Reads.int i t⟩, [], (fun _ h => nomatch h), by simp only [PyData.shown]; exact .of_is (ReprIs.int t (by simpa [PyData.showable] using hs)) _ _ _⟩
  | _, _, .str x, _, r, _, hz => by
    obtain ⟨t, rfl⟩ := r
    exact ⟨⟨_, Reads.str x t⟩, [], (fun _ h => nomatch h), by simp only [PyData.shown]; exact .of_is (ReprIs.str x t (by simpa only [PyData.shown] using hz)) _ _ _⟩
  | _, _, .lst (a := a) (xs := xs) (ds := ds) ha h, _, r, hs, hz => by
    cases r
    obtain ⟨_, its, n, rv, e⟩ := I.hok _ _ ha
    have hz' : (listText (PyData.shownAll ds)).length ≤ sizeLine := by simpa only [PyData.shown] using hz
    obtain ⟨⟨as, hr⟩, bs, hb, hk⟩ := DaAll.rep prog w I h rv (by simpa [PyData.showable] using hs) fun t ht => Nat.le_trans (listText_mem_le ht) hz'
    have rd : Reads s.heap (.ref a) (.list ds) _ := Reads.list e rfl rfl hr
    have hna : a ∉ bs := not_mem_of_deeper rd (by simp only [PyData.depth]; omega) hb
    refine ⟨⟨_, rd⟩, a :: bs, ReadAtMost.cons rd (by simp only [PyData.depth]; omega) hb, ?_⟩
    simp only [PyData.depth, PyData.shown]
    cases its with
    | nil =>
      cases hr
      simp only [PyData.shownAll, listText_nil]
      exact ReprK.listEmpty e rfl rfl
    | cons x l => exact ReprK.list e rfl rfl hna (by simpa using hk.length_eq) fun i y q => hk.item i y (by simpa using q)
  | _, _, .tup (a := a) (xs := xs) (ds := ds) ha h, _, r, hs, hz => by
    cases r
    obtain ⟨_, its, rv, o, e, hc, n, hd⟩ := I.hok _ _ ha
    have hz' : (tupleText (PyData.shownAll ds)).length ≤ sizeLine := by simpa only [PyData.shown] using hz
    obtain ⟨⟨as, hr⟩, bs, hb, hk⟩ := DaAll.rep prog w I h rv (by simpa [PyData.showable] using hs) fun t ht => Nat.le_trans (tupleText_mem_le ht) hz'
    have rd : Reads s.heap (.ref a) (.tuple ds) _ := Reads.tuple e hc hd hr
    have hna : a ∉ bs := not_mem_of_deeper rd (by simp only [PyData.depth]; omega) hb
    refine ⟨⟨_, rd⟩, a :: bs, ReadAtMost.cons rd (by simp only [PyData.depth]; omega) hb, ?_⟩
    simp only [PyData.depth, PyData.shown]
    exact ReprK.tuple e hc hd hna hk
  | _, _, .dct (a := a) (kvs := kvs) (ps := ps) ha h1 h2, _, r, hs, hz => by
    cases r
    obtain ⟨_, hsys, vs, rv, o, es, ep, e, hx, hd, _, hp, _⟩ := I.hok _ _ ha
    obtain ⟨q1, q2⟩ := pairs_read hp rv
    have hz' : (dictText (PyData.shownKv ps)).length ≤ sizeLine := by simpa only [PyData.shown] using hz
    obtain ⟨hs1, hs2⟩ := PyData.showableKv_split ps (by simpa [PyData.showable] using hs)
    obtain ⟨⟨as, hr1⟩, b1, hb1, k1⟩ := DaAll.rep prog w I h1 q1 hs1 fun t ht =>
      let ⟨p, hp, hl⟩ := PyData.shownKv_key_le ps t ht
      Nat.le_trans hl (Nat.le_trans (dictText_mem_le hp) hz')
    obtain ⟨⟨cs, hr2⟩, b2, hb2, k2⟩ := DaAll.rep prog w I h2 q2 hs2 fun t ht =>
      let ⟨p, hp, hl⟩ := PyData.shownKv_val_le ps t ht
      Nat.le_trans hl (Nat.le_trans (dictText_mem_le hp) hz')
    have rd : Reads s.heap (.ref a) (.dict ps) _ := Reads.dict e hx.1 hd hr1 hr2
    have hb : ReadAtMost s.heap (PyData.depthKv ps) (b1 ++ b2) := (hb1.mono (PyData.depthAll_keys_le ps)).append (hb2.mono (PyData.depthAll_vals_le ps))
    have hna : a ∉ b1 ++ b2 := not_mem_of_deeper rd (by simp only [PyData.depth]; omega) hb
    refine ⟨⟨_, rd⟩, a :: (b1 ++ b2), ReadAtMost.cons rd (by simp only [PyData.depth]; omega) hb, ?_⟩
    simp only [PyData.depth, PyData.shown, PyData.shownKv_eq]
    exact ReprK.dict e hx.1 hd hsys hna (ReprEntriesK.of_two es.toList _ _
      (k1.more_le (fun b hb => List.mem_append_left _ hb) (PyData.depthAll_keys_le ps)) (k2.more_le (fun b hb => List.mem_append_right _ hb) (PyData.depthAll_vals_le ps)))
theorem DaAll.rep (prog : Program) (w : World) (I : Inv X pins σ H s) : ∀ {vs : List V} {ds : List PyData}, DaAll H vs ds → ∀ {us : List Value}, Vals vs us → PyData.showableAll ds = true → (∀ t ∈ PyData.shownAll ds, t.length ≤ sizeLine) →
    (∃ as, ReadsAll s.heap us ds as) ∧ ∃ bs, ReadAtMost s.heap (PyData.depthAll ds) bs ∧ ReprAllK prog w bs s.heap (PyData.depthAll ds) us (PyData.shownAll ds)
  | _, _, .nil, _, r, _, _ => by
    cases r
    exact ⟨⟨_, ReadsAll.nil⟩, [], (fun _ h => nomatch h), by simp only [PyData.shownAll]; exact .nil⟩
  | _, _, .cons (d := d) (ds := ds) h hs, _, r, hw, hz => by
    cases r with
    | cons r1 r2 =>
      have hw' : d.showable = true ∧ PyData.showableAll ds = true := by simpa [PyData.showableAll] using hw
      obtain ⟨⟨as, q1⟩, b1, hb1, k1⟩ := Da.rep prog w I h r1 hw'.1 (hz _ (by simp only [PyData.shownAll]; exact List.mem_cons_self ..))
      obtain ⟨⟨cs, q2⟩, b2, hb2, k2⟩ := DaAll.rep prog w I hs r2 hw'.2 fun t ht => hz t (by simp only [PyData.shownAll]; exact List.mem_cons_of_mem _ ht)
      refine ⟨⟨_, ReadsAll.cons q1 q2⟩, b1 ++ b2, ?_, ?_⟩
      · simp only [PyData.depthAll]
        exact (hb1.mono (Nat.le_max_left _ _)).append (hb2.mono (Nat.le_max_right _ _))
      · simp only [PyData.depthAll, PyData.shownAll]
        exact .cons ((k1.more fun b hb => List.mem_append_left _ hb).level_le (Nat.le_max_left _ _)) (k2.more_le (fun b hb => List.mem_append_right _ hb) (Nat.le_max_right _ _))
end
end
/-- data of a size that repr can show -/
def Sm (d : PyData) : Bool := d.showable && d.leavesShort 600 && decide (d.depth ≤ 32) && decide (d.weight ≤ 20000)
theorem Sm.parts {d : PyData} (h : Sm d = true) : d.showable = true ∧ d.leavesShort 600 = true ∧ d.depth ≤ 32 ∧ d.weight ≤ 20000 := by
  unfold Sm at h
  simp only [Bool.and_eq_true, decide_eq_true_eq] at h
  exact ⟨h.1.1.1, h.1.1.2, h.1.2, h.2⟩
theorem Sm.fits {d : PyData} (h : Sm d = true) : d.shown.length ≤ sizeLine := by
  obtain ⟨_, h2, _, h4⟩ := Sm.parts h
  have e := PyData.shown_le 600 (by decide) d h2
  have z : sizeLine = 16777216 := sizeLine_eq
  omega
section
variable {X : Cx}
/-- repr(x) -/
def rRepr : List V → Hp → VK → Prop := fun xs H Q => ∃ v d, xs = [v] ∧ Da H v d ∧ Sm d = true ∧ Q (.str d.shown) H
theorem call_repr (hu : X.A.units + 64 < cLine) (hg : X.A.guards = some []) : CallR X (.builtin "repr") rRepr := by
  intro pins s σ H xs us Q I r h
  obtain ⟨v, d, rfl, hd, hs, q⟩ := h
  obtain ⟨u, rfl, ru⟩ := vals1 r
  have hz := Sm.fits hs
  obtain ⟨h1, h2, h3, h4⟩ := Sm.parts hs
  cases hd with
  | non =>
    cases ru
    exact P.repr_of_none ⟨.str _, H, I.tok _, ⟨_, rfl⟩, by simpa only [PyData.shown] using q⟩
  | bl b =>
    cases ru
    exact P.repr_of_bool ⟨.str _, H, I.tok _, ⟨_, rfl⟩, by simpa only [PyData.shown] using q⟩
  | int i =>
    obtain ⟨t, rfl⟩ := ru
    exact P.repr_of_int (by simpa [PyData.showable] using h1) ⟨.str _, H, I.tok _, ⟨_, rfl⟩, by simpa only [PyData.shown] using q⟩
  | str x =>
    obtain ⟨t, rfl⟩ := ru
    exact P.repr_of_str ⟨.str _, H, I.tok _, ⟨_, rfl⟩, by simpa only [PyData.shown] using q⟩ (by simpa only [PyData.shown] using hz)
  | @lst a xs ds ha hall =>
    cases ru
    obtain ⟨_, its, n, rv, e⟩ := I.hok _ _ ha
    have hz' : (listText (PyData.shownAll ds)).length ≤ sizeLine := by simpa only [PyData.shown] using hz
    obtain ⟨⟨as, hr⟩, bs, hb, hk⟩ := hall.rep X.prog X.w I rv (by simpa [PyData.showable] using h1) fun t ht => Nat.le_trans (listText_mem_le ht) hz'
    have rd : Reads s.heap (.ref a) (.list ds) _ := Reads.list e rfl rfl hr
    have hna : a ∉ bs := not_mem_of_deeper rd (by simp only [PyData.depth]; omega) hb
    simp only [PyData.depth] at h3
    simp only [PyData.shown] at q
    refine call_repr_slot (T := "list") (by omega) ⟨_, e, rfl⟩ F.slot_list_repr.toG ?_
    cases its with
    | nil =>
      cases hr
      simp only [PyData.shownAll, listText_nil] at q
      exact call_list_repr_empty ⟨_, e, rfl⟩ e rfl ⟨_, _, rfl, .str _, H, I.tok _, ⟨_, rfl⟩, q⟩
    | cons x l =>
      exact call_list_reprK e rfl rfl hna (by simpa using hk.length_eq) (fun i y q => hk.item i y (by simpa using q)) hg (fun b _ => Clear.nil b) (by show X.A.units + 1 + (PyData.depthAll ds + 1) < cLine; omega) (fun _ _ e => e)
        (fun h' u tk hk' => ⟨_, _, rfl, .str _, H, I.kept hk', ⟨_, rfl⟩, q⟩) hz'
  | @tup a xs ds ha hall =>
    cases ru
    obtain ⟨_, its, rv, o, e, hc, n, hd⟩ := I.hok _ _ ha
    have hz' : (tupleText (PyData.shownAll ds)).length ≤ sizeLine := by simpa only [PyData.shown] using hz
    obtain ⟨⟨as, hr⟩, bs, hb, hk⟩ := hall.rep X.prog X.w I rv (by simpa [PyData.showable] using h1) fun t ht => Nat.le_trans (tupleText_mem_le ht) hz'
    have rd : Reads s.heap (.ref a) (.tuple ds) _ := Reads.tuple e hc hd hr
    have hna : a ∉ bs := not_mem_of_deeper rd (by simp only [PyData.depth]; omega) hb
    simp only [PyData.depth] at h3
    simp only [PyData.shown] at q
    refine call_repr_slot (T := "tuple") (by omega) ⟨_, e, hc⟩ F.slot_tuple_repr ?_
    exact call_tuple_reprK e hc hd hna hk hg (fun b _ => Clear.nil b) (by show X.A.units + 1 + (PyData.depthAll ds + 1) < cLine; omega) (fun _ _ e => e)
      (fun h' u tk hk' => ⟨_, _, rfl, .str _, H, I.kept hk', ⟨_, rfl⟩, q⟩) hz'
  | @dct a kvs ps ha hk1 hk2 =>
    cases ru
    obtain ⟨_, hsys, vs, rv, o, es, ep, e, hx, hd, _, hp, _⟩ := I.hok _ _ ha
    obtain ⟨q1, q2⟩ := pairs_read hp rv
    have hz' : (dictText (PyData.shownKv ps)).length ≤ sizeLine := by simpa only [PyData.shown] using hz
    obtain ⟨hs1, hs2⟩ := PyData.showableKv_split ps (by simpa [PyData.showable] using h1)
    obtain ⟨⟨as, hr1⟩, b1, hb1, k1⟩ := hk1.rep X.prog X.w I q1 hs1 fun t ht =>
      let ⟨p, hp, hl⟩ := PyData.shownKv_key_le ps t ht
      Nat.le_trans hl (Nat.le_trans (dictText_mem_le hp) hz')
    obtain ⟨⟨cs, hr2⟩, b2, hb2, k2⟩ := hk2.rep X.prog X.w I q2 hs2 fun t ht =>
      let ⟨p, hp, hl⟩ := PyData.shownKv_val_le ps t ht
      Nat.le_trans hl (Nat.le_trans (dictText_mem_le hp) hz')
    have rd : Reads s.heap (.ref a) (.dict ps) _ := Reads.dict e hx.1 hd hr1 hr2
    have hb : ReadAtMost s.heap (PyData.depthKv ps) (b1 ++ b2) := (hb1.mono (PyData.depthAll_keys_le ps)).append (hb2.mono (PyData.depthAll_vals_le ps))
    have hna : a ∉ b1 ++ b2 := not_mem_of_deeper rd (by simp only [PyData.depth]; omega) hb
    simp only [PyData.depth] at h3
    simp only [PyData.shown, PyData.shownKv_eq] at q hz'
    refine call_repr_slot (T := "dict") (by omega) ⟨_, e, hx.1⟩ F.slot_dict_repr ?_
    exact call_dict_reprK e hx.1 hd hsys hna (ReprEntriesK.of_two es.toList _ _
      (k1.more_le (fun b hb => List.mem_append_left _ hb) (PyData.depthAll_keys_le ps)) (k2.more_le (fun b hb => List.mem_append_right _ hb) (PyData.depthAll_vals_le ps)))
      hg (fun b _ => Clear.nil b) (by show X.A.units + 1 + (PyData.depthKv ps + 1) < cLine; omega) (fun _ _ e => e)
      (fun h' u tk hk' => ⟨_, _, rfl, .str _, H, I.kept hk', ⟨_, rfl⟩, q⟩) hz'
/-- a ** n of greater numbers -/
def CPowW (i j : Int) : Prop := 0 ≤ j ∧ j ≤ 64 ∧ i.natAbs.log2 < 1000000
theorem op_powW : OpR X (binaryOp .Pow) (rI CPowW fun i j => .int (i ^ j.toNat)) := opI fun i j _ _ _ _ _ hc q => by
  refine pow_int hc.1 ?_ q
  have b : Builtin.Int.intBits i ≤ i.natAbs.log2 + 1 := by
    unfold Builtin.Int.intBits
    split <;> omega
  have h1 := hc.2.1
  have h2 := hc.2.2
  have h0 := hc.1
  have : (Builtin.Int.intBits i : Int) * j ≤ 1000000 * 64 := Int.mul_le_mul (by omega) h1 h0 (by decide)
  omega
end
end Ld
set_option Elab.async false
set_option linter.all false
set_option maxRecDepth 100000
set_option maxHeartbeats 4000000
namespace K65
open PySem L2 Ld GxR
def topS (i : Nat) : Stmt := PySem.Challenge.pw_leanfar_k65_written_and_read.main.body.getD i (.Pass ⟨0, 0, 0, 0⟩)
abbrev s__law_dip : Stmt := topS 44
abbrev N__law_dip : List Str := ["pot", "many", "mixed", "found"]
theorem sc__law_dip : FnScope N__law_dip ["pot", "many"] (defScope s__law_dip) := ⟨rfl, rfl, rfl, by decide +kernel, rfl, by decide +kernel, by decide +kernel⟩
/-- the pot: what is drawn from -/
def Pot (H : Hp) (a : Addr) (x b c : Int) : Prop := H a = some (.lst [.int x, .int b, .int c])
def spDip : Sp := fun vs H Q _ => ∃ (a : Addr) (x b c m : Int), vs = [.ref a, .int m] ∧ Pot H a x b c ∧ (0 ≤ b ∧ b < 2 ^ 200) ∧ (0 ≤ c ∧ c < 2 ^ 60) ∧ (0 < m ∧ m < 2 ^ 30) ∧
  ∀ x' c' r : Int, c ≤ c' → c' ≤ c + 1 → 0 ≤ r → r < m → Q (.int r) (upd H a (.lst [.int x', .int b, .int c']))
theorem pow_small {i : Int} {n : Nat} (h : 0 ≤ i ∧ i < 2 ^ n) (hn : 0 < n ∧ n ≤ 1000000) : i.natAbs.log2 < 1000000 := by
  have e : i.natAbs < 2 ^ n := by
    have h1 : ((i.natAbs : Nat) : Int) = i := Int.natAbs_of_nonneg h.1
    have h2 : ((i.natAbs : Nat) : Int) < ((2 ^ n : Nat) : Int) := by
      rw [h1, Int.natCast_pow]
      exact h.2
    exact Int.ofNat_lt.mp h2
  exact Nat.lt_of_lt_of_le (PySem.Flt.log2_lt_of hn.1 e) hn.2
section
variable {P : Program} {w : World} {K : PySem.W.Frag} {mg : Str → Option Value} {base : Heap}
theorem ok_dip {f : Addr} {fd : FuncData} (F : Fun K "_law_dip" "_law_dip" s__law_dip f fd) : FnOk P w K mg base CX0 1 f fd ["pot", "many"] spDip := by
  refine F.ok sc__law_dip (fun vs H Q E h => ?_) (fun cdv A outer s H vs Q E hr h => ?_)
  · obtain ⟨a, x, b, c, m, rfl, _⟩ := h
    rfl
  · obtain ⟨a, x, b, c, m, rfl, hp, ⟨hb0, hb1⟩, ⟨hc0, hc1⟩, ⟨hm0, hm1⟩, q⟩ := h
    refine ⟨_, (pss_cons (ps_if (pt_cmpR op_gt (pe_ix ix_list (pv 0) pe_int (fun _ _ => rfl)) pe_int (nomark _)) (pss_cons (ps_set (i := 3) sc__law_dip.nd rfl (Or.inl rfl) (pe_op op_mod (pe_ix ix_list (pv 0) pe_int (fun _ _ => rfl)) (pv 1)))
  (pss_cons (ps_asg (pe_op op_fdiv (pe_ix ix_list (pv 0) pe_int (fun _ _ => rfl)) (pv 1)) (pg_sub (pv 0) pe_int set_list))
  (pss_one (ps_ret (pv 3))))) pss_nil)
  (pss_cons (ps_asg (pe_op op_add (pe_ix ix_list (pv 0) pe_int (fun _ _ => rfl)) pe_int) (pg_sub (pv 0) pe_int set_list))
  (pss_cons (ps_set (i := 2) sc__law_dip.nd rfl (Or.inl rfl) (pe_op op_mod (pe_op op_powW (pe_op op_add (pe_ix ix_list (pv 0) pe_int (fun _ _ => rfl)) (pe_op op_mul pe_int (pe_ix ix_list (pv 0) pe_int (fun _ _ => rfl)))) pe_int) (pe_op op_add (pe_op op_powW pe_int pe_int) pe_int)))
  (pss_cons (ps_set (i := 2) sc__law_dip.nd rfl (Or.inl rfl) (pe_op op_mod (pe_op op_powW (pe_op op_add (pv 2) (pe_op op_mul pe_int (pe_ix ix_list (pv 0) pe_int (fun _ _ => rfl)))) pe_int) (pe_op op_add (pe_op op_powW pe_int pe_int) pe_int)))
  (pss_one (ps_ret (pe_op op_mod (pe_op op_fdiv (pv 2) pe_int) (pv 1)))))))), ?_⟩
    -- if pot[0] > 0
    refine ⟨_, rfl, a, _, 0, _, rfl, rfl, .inl (.inl hp), atI_nat (j := 0) rfl, _, _, rfl, rfl, _, rfl, ?_⟩
    refine ite2 (fun h => ?_) (fun h => ?_)
    · -- found = pot[0] % many; pot[0] = pot[0] // many; return found
      refine ⟨_, rfl, a, _, 0, _, rfl, rfl, .inl (.inl hp), atI_nat (j := 0) rfl, _, rfl, _, _, rfl, rfl, hm0, ?_⟩
      refine ⟨_, rfl, a, _, 0, _, rfl, rfl, .inl (.inl hp), atI_nat (j := 0) rfl, _, rfl, _, _, rfl, rfl, ⟨hm0, by omega⟩, ?_⟩
      refine ⟨_, rfl, a, _, 0, 0, rfl, rfl, hp, rfl, _, rfl, ?_⟩
      exact q (x / m) c (x % m) (by omega) (by omega) (Int.emod_nonneg _ (by omega)) (Int.emod_lt_of_pos _ hm0)
    · -- pot[2] = pot[2] + 1
      refine ⟨_, rfl, a, _, 2, _, rfl, rfl, .inl (.inl hp), atI_nat (j := 2) rfl, _, _, rfl, rfl, ?_⟩
      refine ⟨_, rfl, a, _, 2, 2, rfl, rfl, hp, rfl, ?_⟩
      have hq : (upd H a (.lst [.int x, .int b, .int (c + 1)])) a = some (.lst [.int x, .int b, .int (c + 1)]) := upd_same
      -- mixed = (pot[1] + .. * pot[2]) ** 3 % ..
      have e1 : (0 : Int) ≤ 104395301 * (c + 1) ∧ 104395301 * (c + 1) < 2 ^ 100 := by omega
      refine ⟨_, rfl, a, _, 1, _, rfl, rfl, .inl (.inl hq), atI_nat (j := 1) rfl, _, rfl, a, _, 2, _, rfl, rfl, .inl (.inl hq), atI_nat (j := 2) rfl, _, _, rfl, rfl, .inl (by decide), _, _, rfl, rfl, ?_⟩
      refine ⟨_, _, rfl, rfl, ⟨by decide, by decide, pow_small (n := 201) (by omega) (by decide)⟩, ?_⟩
      refine ⟨_, _, rfl, rfl, ⟨by decide, by decide, by decide +kernel⟩, _, _, rfl, rfl, ?_⟩
      refine ⟨_, _, rfl, rfl, (by show (0 : Int) < 10 ^ Int.toNat _ + _; decide +kernel), ?_⟩
      generalize hz : (b + 104395301 * (c + 1)) ^ (Int.toNat 3) % (10 ^ (Int.toNat 41) + 37) = z
      have hz0 : 0 ≤ z := by
        rw [← hz]
        exact Int.emod_nonneg _ (by decide +kernel)
      have hz1 : z < 2 ^ 200 := by
        rw [← hz]
        exact Int.lt_trans (Int.emod_lt_of_pos _ (by decide +kernel)) (by decide +kernel)
      -- mixed = (mixed + .. * pot[2]) ** 5 % ..
      have e2 : (0 : Int) ≤ 982451653 * (c + 1) ∧ 982451653 * (c + 1) < 2 ^ 100 := by omega
      refine ⟨_, rfl, _, rfl, a, _, 2, _, rfl, rfl, .inl (.inl hq), atI_nat (j := 2) rfl, _, _, rfl, rfl, .inl (by decide), _, _, rfl, rfl, ?_⟩
      refine ⟨_, _, rfl, rfl, ⟨by decide, by decide, pow_small (n := 201) (by omega) (by decide)⟩, ?_⟩
      refine ⟨_, _, rfl, rfl, ⟨by decide, by decide, by decide +kernel⟩, _, _, rfl, rfl, ?_⟩
      refine ⟨_, _, rfl, rfl, (by show (0 : Int) < 10 ^ Int.toNat _ + _; decide +kernel), ?_⟩
      -- return mixed // 65539 % many
      refine ⟨_, rfl, _, _, rfl, rfl, ⟨by decide, by decide⟩, _, rfl, _, _, rfl, rfl, hm0, ?_⟩
      exact q x (c + 1) _ (by omega) (by omega) (Int.emod_nonneg _ (by omega)) (Int.emod_lt_of_pos _ hm0)
end
end K65
set_option Elab.async false
set_option linter.all false
set_option maxRecDepth 100000
set_option maxHeartbeats 4000000
/-! small letters: isascii, isalpha, islower together -/
namespace Tx
open PySem
theorem below : ∀ c, c < 128 → (Unicode.isAlpha c = (decide (65 ≤ c ∧ c ≤ 90) || decide (97 ≤ c ∧ c ≤ 122)) ∧ Unicode.isLower c = decide (97 ≤ c ∧ c ≤ 122) ∧ (Unicode.isUpper c || Unicode.isTitle c) = decide (65 ≤ c ∧ c ≤ 90)) := by decide +kernel
theorem small_eq {p : Nat → Bool} (hp : ∀ c, p c = true ↔ 97 ≤ c ∧ c ≤ 122) (x : Str) : (Txt.isascii x && (Txt.isalpha x && Txt.islower x)) = (decide (0 < x.length) && x.cps.toList.all p) := by
  unfold Txt.isascii Txt.isalpha Txt.islower
  rw [← Array.all_toList, ← Array.all_toList, ← Array.any_toList, ← Array.any_toList]
  have hl : x.length = x.cps.toList.length := by
    first
      | exact (Array.length_toList).symm
      | simp [Str.length]
  rw [hl]
  generalize x.cps.toList = L
  rw [Bool.eq_iff_iff]
  simp only [Bool.and_eq_true, List.all_eq_true, List.any_eq_true, decide_eq_true_eq, Bool.not_eq_true', gt_iff_lt]
  constructor
  · rintro ⟨ha, ⟨hn, hal⟩, _, hu⟩
    refine ⟨by simpa using hn, fun c hc => (hp c).mpr ?_⟩
    have h1 : c < 128 := by simpa using ha c hc
    obtain ⟨b1, b2, b3⟩ := below c h1
    have a1 := hal c hc
    rw [b1] at a1
    have nu : ¬ (65 ≤ c ∧ c ≤ 90) := fun z => by
      have : (L.any fun c => Unicode.isUpper c || Unicode.isTitle c) = true := List.any_eq_true.mpr ⟨c, hc, by rw [b3]; exact decide_eq_true z⟩
      rw [hu] at this
      cases this
    rw [decide_eq_false nu, Bool.false_or] at a1
    exact of_decide_eq_true a1
  · rintro ⟨hn, h⟩
    have hb : ∀ c ∈ L, 97 ≤ c ∧ c ≤ 122 := fun c hc => (hp c).mp (h c hc)
    refine ⟨fun c hc => ?_, ⟨by simpa using hn, fun c hc => ?_⟩, ?_, ?_⟩
    · have := hb c hc
      first
        | omega
        | (simp; omega)
    · have z := hb c hc
      rw [(below c (by omega)).1, decide_eq_true z, Bool.or_true]
    · match L, hn with
      | c :: r, _ =>
        have z := hb c List.mem_cons_self
        exact ⟨c, List.mem_cons_self, by rw [(below c (by omega)).2.1]; exact decide_eq_true z⟩
    · rw [Bool.eq_false_iff]
      intro q
      obtain ⟨c, hc, e⟩ := List.any_eq_true.mp q
      have z := hb c hc
      rw [(below c (by omega)).2.2] at e
      have := of_decide_eq_true e
      omega
end Tx
set_option Elab.async false
set_option linter.all false
set_option maxRecDepth 100000
set_option maxHeartbeats 4000000
namespace K65
open PySem L2 Ld GxR
theorem itY {c A B : Prop} [Decidable c] (h : c) (q : A) : if c then A else B := by
  rw [if_pos h]
  exact q
theorem itN {c A B : Prop} [Decidable c] (h : ¬ c) (q : B) : if c then A else B := by
  rw [if_neg h]
  exact q
/-- a def of the text whose code object is known -/
structure FunC (K : PySem.W.Frag) (x qual : Str) (st : Stmt) (f c : Addr) (fd : FuncData) : Prop where
  ex : ∃ (oc : Value) (od : Option Addr) (kV doc pm : Value) (an : Option Addr) (ct : Value) (osl : Array (Option Value)),
    fd = PySem.W.fnOf x qual (defArgs st) (defBody st) (defScope st) .none kV doc pm an (.ref c) ct ∧ K.lookup f = some ⟨oc, od, .func fd, osl⟩ ∧ PySem.W.codeIn K (.ref c) qual = true
  kp : PySem.W.keepIn K (.ref f) = true
section
variable {P : Program} {w : World} {K : PySem.W.Frag} {mg : Str → Option Value} {base : Heap}
theorem FunC.ok {x qual : Str} {st : Stmt} {f c : Addr} {fd : FuncData} {N ps : List Str} {k : Nat} {sp : Sp} (F : FunC K x qual st f c fd) (S : FnScope N ps (defScope st)) (len : ∀ vs H Q E, sp vs H Q E → vs.length = ps.length)
    (hbody : ∀ (A : Around) (outer : List Env) (s : Shared) (H : Hp) (vs : List V) (Q : VK) (E : XK), Room k (A.deeper (PyProof.Rows.envOfC qual (defScope st) s.heap.objs.size f (.ref c))) → sp vs H Q E →
      ∃ t, PSs (cxOf CX0 P w K mg base N qual (defScope st) f (.ref c) A outer s H E).nox (defBody st) t ∧ t { nx := fun _ H' => Q .non H', rt := Q } (L2.start N vs) H) : FnOk P w K mg base CX0 (k + 1) f fd ps sp := by
  obtain ⟨oc, od, kV, doc, pm, an, ct, osl, rfl, lk, hcd⟩ := F.ex
  refine fn_of lk hcd S len fun A outer s H vs Q E hr hsp => ?_
  obtain ⟨t, h, q⟩ := hbody A outer s H vs Q E hr hsp
  exact ⟨t, h.nox, q⟩
end
/-- a sign from a to z -/
def signB (c : Nat) : Bool := !decide ([c] < [97]) && !decide ([122] < [c])
theorem signB_iff (c : Nat) : signB c = true ↔ 97 ≤ c ∧ c ≤ 122 := by
  unfold signB
  rw [Bool.and_eq_true, Bool.not_eq_true', Bool.not_eq_true', decide_eq_false_iff_not, decide_eq_false_iff_not]
  constructor
  · intro ⟨h1, h2⟩
    refine ⟨Nat.le_of_not_lt fun z => h1 (List.Lex.rel z), Nat.le_of_not_lt fun z => h2 (List.Lex.rel z)⟩
  · intro ⟨h1, h2⟩
    refine ⟨fun z => ?_, fun z => ?_⟩
    · cases z with
      | rel z => omega
      | cons z => cases z
    · cases z with
      | rel z => omega
      | cons z => cases z
def nameD : PyData → Bool
  | .str x => decide (1 ≤ x.length ∧ x.length ≤ 8) && x.cps.toList.all signB
  | _ => false
def placeD : PyData → Bool
  | .tuple [a, b] => nameD a && nameD b
  | _ => false
theorem Da.ty {K : PySem.W.Frag} {H : Hp} {v : V} {d : PyData} (h : Da H v d) : ∃ T, TyB K H v T ∧ K7 T ∧ ((T = "str" ↔ ∃ x, d = .str x) ∧ (T = "tuple" ↔ ∃ xs, d = .tuple xs)) := by
  cases h with
  | non => exact ⟨_, .non, .none, ⟨fun e => absurd e (by decide), fun ⟨_, e⟩ => nomatch e⟩, ⟨fun e => absurd e (by decide), fun ⟨_, e⟩ => nomatch e⟩⟩
  | bl b => exact ⟨_, .bl b, .bool, ⟨fun e => absurd e (by decide), fun ⟨_, e⟩ => nomatch e⟩, ⟨fun e => absurd e (by decide), fun ⟨_, e⟩ => nomatch e⟩⟩
  | int i => exact ⟨_, .int i, .int, ⟨fun e => absurd e (by decide), fun ⟨_, e⟩ => nomatch e⟩, ⟨fun e => absurd e (by decide), fun ⟨_, e⟩ => nomatch e⟩⟩
  | str x => exact ⟨_, .str x, .str, ⟨fun _ => ⟨x, rfl⟩, fun _ => rfl⟩, ⟨fun e => absurd e (by decide), fun ⟨_, e⟩ => nomatch e⟩⟩
  | lst e _ => exact ⟨_, .lst (.inl (.inl e)), .list, ⟨fun e => absurd e (by decide), fun ⟨_, e⟩ => nomatch e⟩, ⟨fun e => absurd e (by decide), fun ⟨_, e⟩ => nomatch e⟩⟩
  | tup e _ => exact ⟨_, .tup (.inl (.inl e)), .tuple, ⟨fun e => absurd e (by decide), fun ⟨_, e⟩ => nomatch e⟩, ⟨fun _ => ⟨_, rfl⟩, fun _ => rfl⟩⟩
  | dct e _ _ => exact ⟨_, .dK e, .dict, ⟨fun e => absurd e (by decide), fun ⟨_, e⟩ => nomatch e⟩, ⟨fun e => absurd e (by decide), fun ⟨_, e⟩ => nomatch e⟩⟩
def spName (T : Addr) : Sp := fun vs H Q _ => ∃ (v : V) (d : PyData), vs = [v] ∧ Da H v d ∧ d.weight ≤ 20000 ∧ TabG H T ∧ ∀ H', Tabbed T H H' → Q (.bl (nameD d)) H'
theorem small20 {n : Nat} (h : n ≤ 20000) : n ≤ sizeLine := Nat.le_trans h (by decide)
abbrev s_are_small_letters : Stmt := topS 11
abbrev N_are_small_letters : List Str := ["text"]
theorem sc_are_small_letters : FnScope N_are_small_letters ["text"] (defScope s_are_small_letters) := ⟨rfl, rfl, rfl, by decide +kernel, rfl, by decide +kernel, by decide +kernel⟩
/-- small letters alone, one at least -/
def smallS (x : Str) : Bool := decide (0 < x.length) && x.cps.toList.all signB
theorem smallS_eq (x : Str) : (Txt.isascii x && (Txt.isalpha x && Txt.islower x)) = smallS x := Tx.small_eq signB_iff x
def spSmall : Sp := fun vs H Q _ => ∃ x : Str, vs = [.str x] ∧ Q (.bl (smallS x)) H
section
variable {P : Program} {w : World} {K : PySem.W.Frag} {mg : Str → Option Value} {base : Heap}
theorem ok_are_small_letters {f : Addr} {fd : FuncData} (F : Fun K "are_small_letters" "are_small_letters" s_are_small_letters f fd) : FnOk P w K mg base CX0 1 f fd ["text"] spSmall := by
  refine F.ok sc_are_small_letters (fun vs H Q E h => ?_) (fun cdv A outer s H vs Q E hr h => ?_)
  · obtain ⟨x, rfl, _⟩ := h
    rfl
  · obtain ⟨x, rfl, q⟩ := h
    refine ⟨_, (pss_one (ps_ret (pe_and (pe_m0 PySem.F.slot_str_isascii PySem.F.type_str_isascii mt_isascii (pv 0)) (pe_and (pe_m0 PySem.F.slot_str_isalpha PySem.F.type_str_isalpha mt_isalpha (pv 0)) (pe_one (pe_m0 PySem.F.slot_str_islower PySem.F.type_str_islower mt_islower (pv 0))))))), ?_⟩
    rw [← smallS_eq] at q
    refine ⟨_, rfl, ⟨x, rfl⟩, x, rfl, rfl, trivial, _, rfl, ?_⟩
    by_cases h1 : Txt.isascii x = true
    · refine itY h1 ⟨_, rfl, ⟨x, rfl⟩, x, rfl, rfl, trivial, _, rfl, ?_⟩
      rw [h1, Bool.true_and] at q
      by_cases h2 : Txt.isalpha x = true
      · refine itY h2 ⟨_, rfl, ⟨x, rfl⟩, x, rfl, rfl, trivial, ?_⟩
        rw [h2, Bool.true_and] at q
        exact q
      · refine itN h2 ?_
        rw [Bool.not_eq_true] at h2
        rw [h2, Bool.false_and] at q
        exact q
    · refine itN h1 ?_
      rw [Bool.not_eq_true] at h1
      rw [h1, Bool.false_and] at q
      exact q
end
end K65
set_option Elab.async false
set_option linter.all false
set_option maxRecDepth 100000
set_option maxHeartbeats 4000000
namespace K65
open PySem L2 Ld GxR
/-! numbers that words write -/
def figB (c : Nat) : Bool := decide (48 ≤ c) && decide (c ≤ 57)
theorem below_digit : ∀ c, c < 128 → Unicode.isDigit c = figB c := by decide +kernel
/-- the word writes a number: figures, no leading nought but in nought itself -/
def isFig (w : Str) : Bool := decide (0 < w.length) && w.cps.toList.all figB
def lead0 (w : Str) : Bool := decide (w.cps.toList.head? = some 48)
def isNum (w : Str) : Bool := isFig w && (decide (w = "0") || !lead0 w)
theorem len_cps (x : Str) : x.length = x.cps.toList.length := by
  first
    | exact (Array.length_toList).symm
    | simp [Str.length]
theorem digits_eq (x : Str) : (Txt.isascii x && Txt.isdigit x) = isFig x := by
  unfold Txt.isascii Txt.isdigit isFig
  rw [← Array.all_toList, ← Array.all_toList, len_cps]
  generalize x.cps.toList = L
  rw [Bool.eq_iff_iff]
  simp only [Bool.and_eq_true, List.all_eq_true, decide_eq_true_eq, gt_iff_lt]
  constructor
  · rintro ⟨ha, hn, hd⟩
    refine ⟨hn, fun c hc => ?_⟩
    have h1 : c < 128 := by simpa using ha c hc
    rw [← below_digit c h1]
    exact hd c hc
  · rintro ⟨hn, h⟩
    have hb : ∀ c ∈ L, c < 128 := fun c hc => by
      have := h c hc
      simp only [figB, Bool.and_eq_true, decide_eq_true_eq] at this
      omega
    refine ⟨fun c hc => by simpa using hb c hc, hn, fun c hc => ?_⟩
    rw [below_digit c (hb c hc)]
    exact h c hc
theorem starts0 (x : Str) : Txt.startswith x "0" = lead0 x := by
  obtain ⟨⟨L⟩⟩ := x
  show (decide (0 + 1 ≤ L.length) && ((⟨L⟩ : Array Nat).extract 0 (0 + 1) == #[48])) = decide (L.head? = some 48)
  cases L with
  | nil => rfl
  | cons c L =>
    have e : (⟨c :: L⟩ : Array Nat).extract 0 (0 + 1) = #[c] := by
      apply Array.toList_inj.mp
      simp
    rw [e, List.head?_cons, Bool.eq_iff_iff]
    simp
theorem fig_all {x : Str} (h : isFig x = true) : NumText.AllDigits x.cps.toList ∧ x.cps.toList ≠ [] := by
  unfold isFig at h
  simp only [Bool.and_eq_true, List.all_eq_true, decide_eq_true_eq, len_cps] at h
  refine ⟨fun c hc => ?_, fun e => ?_⟩
  · have := h.2 c hc
    simp only [figB, Bool.and_eq_true, decide_eq_true_eq] at this
    exact this
  · rw [e] at h
    exact absurd h.1 (by simp)
def numV (x : Str) : Int := ((NumText.digitsVal x.cps.toList : Nat) : Int)
theorem int_fig {x : Str} (h : isFig x = true) (hl : x.length ≤ 4300) : intText? x = some (numV x) := by
  obtain ⟨h1, h2⟩ := fig_all h
  exact PySem.intText_digits h1 h2 (by omega)
theorem fold_app : ∀ (b : List Nat) (n : Nat), b.foldl (fun acc c => acc * 10 + (c - 48)) n = n * 10 ^ b.length + b.foldl (fun acc c => acc * 10 + (c - 48)) 0
  | [], n => by simp
  | c :: b, n => by
    rw [List.foldl_cons, List.foldl_cons, fold_app b (n * 10 + (c - 48)), fold_app b (0 * 10 + (c - 48)), List.length_cons, Nat.pow_succ, Nat.zero_mul, Nat.zero_add, Nat.add_mul, Nat.add_assoc, Nat.mul_assoc, Nat.mul_comm 10]
theorem val_app (a b : List Nat) : NumText.digitsVal (a ++ b) = NumText.digitsVal a * 10 ^ b.length + NumText.digitsVal b := by
  unfold NumText.digitsVal
  rw [List.foldl_append]
  exact fold_app b _
theorem val_lt : ∀ (b : List Nat), NumText.AllDigits b → NumText.digitsVal b < 10 ^ b.length
  | [], _ => by decide
  | c :: b, h => by
    have ih := val_lt b h.tail
    have hc := h.head
    have e : NumText.digitsVal (c :: b) = (c - 48) * 10 ^ b.length + NumText.digitsVal b := by
      show b.foldl _ (0 * 10 + (c - 48)) = _
      rw [fold_app b (0 * 10 + (c - 48)), Nat.zero_mul, Nat.zero_add]
      rfl
    rw [e, List.length_cons, Nat.pow_succ]
    have h9 : (c - 48) * 10 ^ b.length ≤ 9 * 10 ^ b.length := Nat.mul_le_mul_right _ (by omega)
    omega
theorem val_log {b : List Nat} (h : NumText.AllDigits b) (hl : b.length ≤ 2000) : ((NumText.digitsVal b : Nat) : Int).natAbs.log2 < 7000 := by
  have h1 := val_lt b h
  have h2 : (10 : Nat) ^ b.length ≤ 10 ^ 2000 := Nat.pow_le_pow_right (by decide) hl
  have h3 : (10 : Nat) ^ 640 < 2 ^ 6999 := by decide +kernel
  rw [Int.natAbs_natCast]
  exact Nat.lt_trans (PySem.Flt.log2_lt_of (k := 6999) (by decide) (by omega)) (by decide)
end K65
set_option Elab.async false
set_option linter.all false
set_option maxRecDepth 100000
set_option maxHeartbeats 4000000
namespace K65
open PySem L2 Ld GxR
theorem Tabbed.refl {T : Addr} {H : Hp} (h : TabG H T) : Tabbed T H H := ⟨h, fun _ _ => rfl⟩
theorem Tabbed.trans {T : Addr} {H H1 H2 : Hp} (a : Tabbed T H H1) (b : Tabbed T H1 H2) : Tabbed T H H2 := ⟨b.1, fun c h => (b.2 c h).trans (a.2 c h)⟩
theorem Tabbed.keep {T : Addr} {H H1 : Hp} (g : TabG H T) (t : Tabbed T H H1) : ∀ a o, H a = some o → (∀ ps, o ≠ .tbl ps) → H1 a = some o := fun a o e n => by
  obtain ⟨ps, hp, _⟩ := g
  rw [t.2 a fun z => by
    rw [z, hp] at e
    exact n ps (Option.some.inj e).symm]
  exact e
def spPlace (T : Addr) : Sp := fun vs H Q _ => ∃ (v : V) (d : PyData), vs = [v] ∧ Da H v d ∧ d.weight ≤ 20000 ∧ TabG H T ∧ ∀ H', Tabbed T H H' → Q (.bl (placeD d)) H'
theorem w_pair {a b : PyData} (h : (PyData.tuple [a, b]).weight ≤ 20000) : a.weight ≤ 20000 ∧ b.weight ≤ 20000 := by
  simp only [PyData.weight, PyData.weightAll] at h
  omega
theorem placeD_len {ds : List PyData} (h : ds.length ≠ 2) : placeD (.tuple ds) = false := by
  match ds, h with
  | [], _ => rfl
  | [_], _ => rfl
  | [_, _], h => exact absurd rfl h
  | _ :: _ :: _ :: _, _ => rfl
theorem two_of {H : Hp} {xs : List V} {ds : List PyData} (h : DaAll H xs ds) (e : xs.length = 2) : ∃ v0 v1 d0 d1, xs = [v0, v1] ∧ ds = [d0, d1] ∧ Da H v0 d0 ∧ Da H v1 d1 := by
  match xs, ds, h, e with
  | _, _, .cons h0 (.cons h1 .nil), _ => exact ⟨_, _, _, _, rfl, rfl, h0, h1⟩
section
variable {P : Program} {w : World} {K : PySem.W.Frag} {mg : Str → Option Value} {base : Heap}
/-- over a text's signs -/
theorem lc_str {x : Str} {g : TG} {tt : TT} {te : TE} {vs : List Nat} {σ : L2.St} {H1 : Hp} {D : Addr} {Qd : Hp → Prop} (Pv : Nat → Hp → Prop) (h0 : Pv 0 (upd H1 D (.lst [])))
    (hs : ∀ i c H, x.cps[i]? = some c → Pv i H → g (.str ⟨#[c]⟩) (wipe σ vs) H fun σ2 H2 => wipe σ2 vs = wipe σ vs ∧ tt σ2 H2 fun b H3 =>
      if b = true then te σ2 H3 fun y H4 => ∃ acc, H4 D = some (.lst acc) ∧ acc.length < sizeLine ∧ Pv (i + 1) (upd H4 D (.lst (acc ++ [y]))) else Pv (i + 1) H3) (hd : ∀ H, Pv x.cps.size H → Qd H) :
    ∃ W : Nat → Nat → Hp → Prop, (∃ m, W 0 m (upd H1 D (.lst []))) ∧ ∀ i m H, W i m H →
      ((Its x).stop i H ∧ Qd H) ∨ ((Its x).go i H ∧ ∃ Nx : Hp → Prop, (∀ H', Nx H' → ∃ m', m' < m ∧ W (i + 1) m' H') ∧ ∀ y H', (Its x).yld i H y H' → g y (wipe σ vs) H' fun σ2 H2 => wipe σ2 vs = wipe σ vs ∧ tt σ2 H2 fun b H3 =>
        if b = true then te σ2 H3 fun y H4 => ∃ acc, H4 D = some (.lst acc) ∧ acc.length < sizeLine ∧ Nx (upd H4 D (.lst (acc ++ [y]))) else Nx H3) := by
  refine ⟨fun i m H => m = x.cps.size - i ∧ i ≤ x.cps.size ∧ Pv i H, ⟨_, rfl, Nat.zero_le _, h0⟩, ?_⟩
  rintro i m H ⟨rfl, hi, p⟩
  by_cases hlt : i < x.cps.size
  · refine .inr ⟨hlt, Pv (i + 1), fun H' p' => ⟨x.cps.size - (i + 1), by omega, rfl, hlt, p'⟩, fun y H' z => ?_⟩
    obtain ⟨e, c, hc, ey⟩ := z
    subst e ey
    exact hs i c _ hc p
  · have e : i = x.cps.size := by omega
    subst e
    exact .inl ⟨Nat.le_refl _, hd H p⟩
end
theorem tyx_of {K : PySem.W.Frag} {H : Hp} {v : V} {d : PyData} (h : Da H v d) : ∃ T, TyX K H v (.type T) ∧ K7 T ∧ ((T = "str" ↔ ∃ x, d = .str x) ∧ (T = "tuple" ↔ ∃ xs, d = .tuple xs)) ∧ (T = "bool" ↔ ∃ b, d = .bool b) := by
  cases h with
  | non => exact ⟨_, .base .non, .none, ⟨⟨fun e => absurd e (by decide), fun ⟨_, e⟩ => nomatch e⟩, ⟨fun e => absurd e (by decide), fun ⟨_, e⟩ => nomatch e⟩⟩, ⟨fun e => absurd e (by decide), fun ⟨_, e⟩ => nomatch e⟩⟩
  | bl b => exact ⟨_, .base (.bl b), .bool, ⟨⟨fun e => absurd e (by decide), fun ⟨_, e⟩ => nomatch e⟩, ⟨fun e => absurd e (by decide), fun ⟨_, e⟩ => nomatch e⟩⟩, ⟨fun _ => ⟨b, rfl⟩, fun _ => rfl⟩⟩
  | int i => exact ⟨_, .base (.int i), .int, ⟨⟨fun e => absurd e (by decide), fun ⟨_, e⟩ => nomatch e⟩, ⟨fun e => absurd e (by decide), fun ⟨_, e⟩ => nomatch e⟩⟩, ⟨fun e => absurd e (by decide), fun ⟨_, e⟩ => nomatch e⟩⟩
  | str x => exact ⟨_, .base (.str x), .str, ⟨⟨fun _ => ⟨x, rfl⟩, fun _ => rfl⟩, ⟨fun e => absurd e (by decide), fun ⟨_, e⟩ => nomatch e⟩⟩, ⟨fun e => absurd e (by decide), fun ⟨_, e⟩ => nomatch e⟩⟩
  | lst e _ => exact ⟨_, .base (.lst e), .list, ⟨⟨fun e => absurd e (by decide), fun ⟨_, e⟩ => nomatch e⟩, ⟨fun e => absurd e (by decide), fun ⟨_, e⟩ => nomatch e⟩⟩, ⟨fun e => absurd e (by decide), fun ⟨_, e⟩ => nomatch e⟩⟩
  | tup e _ => exact ⟨_, .base (.tup e), .tuple, ⟨⟨fun e => absurd e (by decide), fun ⟨_, e⟩ => nomatch e⟩, ⟨fun _ => ⟨_, rfl⟩, fun _ => rfl⟩⟩, ⟨fun e => absurd e (by decide), fun ⟨_, e⟩ => nomatch e⟩⟩
  | dct e _ _ => exact ⟨_, .base (.dK e), .dict, ⟨⟨fun e => absurd e (by decide), fun ⟨_, e⟩ => nomatch e⟩, ⟨fun e => absurd e (by decide), fun ⟨_, e⟩ => nomatch e⟩⟩, ⟨fun e => absurd e (by decide), fun ⟨_, e⟩ => nomatch e⟩⟩
theorem kit_str {K : PySem.W.Frag} {T : String} (h : K7 T) : PySem.W.kitOne K (.type T) (.type "str") = some (decide (T = "str")) := by
  cases h <;> exact kit_ty (by decide +kernel)
theorem kit_tuple {K : PySem.W.Frag} {T : String} (h : K7 T) : PySem.W.kitOne K (.type T) (.type "tuple") = some (decide (T = "tuple")) := by
  cases h <;> exact kit_ty (by decide +kernel)
theorem kit_bool {K : PySem.W.Frag} {T : String} (h : K7 T) : PySem.W.kitOne K (.type T) (.type "bool") = some (decide (T = "bool")) := by
  cases h <;> exact kit_ty (by decide +kernel)
/-- a text of written signs -/
def TxOk (x : Str) : Prop := ∀ c ∈ x.cps.toList, c < 128
def sgn (c : Nat) : V := .str ⟨#[c]⟩
def letters : List Nat := ("abcdefghijklmnopqrstuvwxyz" : Str).cps.toList
theorem letters_iff (c : Nat) : c ∈ letters ↔ signB c = true := by
  rw [signB_iff]
  have e : letters = List.range' 97 26 := by decide +kernel
  rw [e, List.mem_range'_1]
  omega
theorem dp_signs {K : PySem.W.Frag} {H : Hp} : ∀ l : List Nat, DpAll K H (l.map sgn) (l.map fun c => .str ⟨#[c]⟩)
  | [] => .nil
  | c :: l => .cons (.str _) (dp_signs l)
theorem lay_signs : ∀ l : List Nat, (∀ c ∈ l, c < 128) → PyData.canLayAll0 (l.map fun c => .str ⟨#[c]⟩) = true ∧ PyData.depthAll (l.map fun c => .str ⟨#[c]⟩) = 0
  | [], _ => ⟨rfl, rfl⟩
  | c :: l, h => by
    obtain ⟨h1, h2⟩ := lay_signs l fun x hx => h x (List.mem_cons_of_mem _ hx)
    have hc := h c List.mem_cons_self
    refine ⟨?_, ?_⟩
    · show (PyData.canLay0 (.str ⟨#[c]⟩) && _) = true
      rw [h1, Bool.and_true]
      show PyData.strOk ⟨#[c]⟩ = true
      simp [PyData.strOk]
      omega
    · show max 0 _ = 0
      rw [h2]
      rfl
theorem shaped_signs {l : List Nat} (h : ∀ c ∈ l, c < 128) : SeqAt.shaped (.list (l.map fun c => .str ⟨#[c]⟩)) = true := by
  obtain ⟨h1, h2⟩ := lay_signs l h
  unfold SeqAt.shaped
  rw [Bool.and_eq_true]
  refine ⟨h1, decide_eq_true ?_⟩
  show PyData.depthAll _ + 1 ≤ 64
  rw [h2]
  decide
def spLName : Sp := fun vs H Q _ => ∃ (v : V) (d : PyData), vs = [v] ∧ Da H v d ∧ d.weight ≤ 20000 ∧ (∀ x, d = .str x → TxOk x) ∧ ∀ H', Same H H' → Q (.bl (nameD d)) H'
section
variable {P : Program} {w : World} {K : PySem.W.Frag} {mg : Str → Option Value} {base : Heap}
end
end K65
set_option Elab.async false
set_option linter.all false
set_option maxRecDepth 100000
set_option maxHeartbeats 4000000
namespace K65
open PySem L2 Ld GxR
theorem Same.da {H H' : Hp} (s : Same H H') {v : V} {d : PyData} (h : Da H v d) : Da H' v d := h.keep fun a o e _ => s a o e
theorem same_upd {H : Hp} {p : Addr} {o : HO} (h : H p = none) : Same H (upd H p o) := fun b x e => by
  rw [upd_ne (ne_of_none e h)]
  exact e
def TxAll (d : PyData) : Prop := (∀ x, d = .str x → TxOk x) ∧ ∀ ds, d = .tuple ds → ∀ e ∈ ds, ∀ x, e = .str x → TxOk x
def spLPlace : Sp := fun vs H Q _ => ∃ (v : V) (d : PyData), vs = [v] ∧ Da H v d ∧ d.weight ≤ 20000 ∧ TxAll d ∧ ∀ H', Same H H' → Q (.bl (placeD d)) H'
section
variable {P : Program} {w : World} {K : PySem.W.Frag} {mg : Str → Option Value} {base : Heap}
end
/-! ### the pot -/
abbrev s__law_pot : Stmt := topS 43
abbrev N__law_pot : List Str := ["script", "k", "cell"]
theorem sc__law_pot : FnScope N__law_pot ["script", "k"] (defScope s__law_pot) := ⟨rfl, rfl, rfl, by decide +kernel, rfl, by decide +kernel, by decide +kernel⟩
def spPot (K : PySem.W.Frag) : Sp := fun vs H Q _ => ∃ (sa : Addr) (ns : List Int) (k : Int), vs = [.ref sa, .int k] ∧ SqL K H sa (ns.map V.int) ∧ (0 ≤ k ∧ k < 2 ^ 20) ∧
  ∀ (p : Addr) (x b : Int), H p = none → 0 ≤ b → b < 2 ^ 200 → Q (.ref p) (upd H p (.lst [.int x, .int b, .int 0]))
section
variable {P : Program} {w : World} {K : PySem.W.Frag} {mg : Str → Option Value} {base : Heap}
theorem ok__law_pot {f : Addr} {fd : FuncData} (F : Fun K "_law_pot" "_law_pot" s__law_pot f fd) (z_len : mg "len" = none) (z_max : mg "max" = none) : FnOk P w K mg base CX0 1 f fd ["script", "k"] (spPot K) := by
  refine F.ok sc__law_pot (fun vs H Q E h => ?_) (fun cdv A outer s H vs Q E hr h => ?_)
  · obtain ⟨sa, ns, k, rfl, _⟩ := h
    rfl
  · obtain ⟨sa, ns, k, rfl, hS, ⟨hk0, hk1⟩, q⟩ := h
    refine ⟨_, (pss_cons (ps_set (i := 2) sc__law_pot.nd rfl (Or.inl rfl) pe_int)
  (pss_cons (ps_if (pt_cmpR op_lt (pv 1) (pe_callB (call_len_seq) (by rfl) z_len (by decide +kernel) (pa_cons (pv 0) pa_nil)) (nomark _)) (pss_one (ps_set (i := 2) sc__law_pot.nd rfl (Or.inl rfl) (pe_ix ix_list (pv 0) (pv 1) (fun _ _ => rfl)))) pss_nil)
  (pss_one (ps_ret (pe_lst (pa_cons (pe_callB ((call_max2 rfl)) (by rfl) z_max (by decide +kernel) (pa_cons pe_int (pa_cons (pe_op op_sub (pv 2) (pe_op op_powW pe_int pe_int)) pa_nil))) (pa_cons (pe_op op_add (pe_op op_add (pe_op op_mul (pe_op op_mod (pv 2) (pe_op op_add (pe_op op_powW pe_int pe_int) pe_int)) pe_int) (pv 1)) pe_int) (pa_cons pe_int pa_nil)))))))), ?_⟩
    have bd : ∀ z : Int, 0 ≤ z % (10 ^ Int.toNat 43 + 63) * 64 + k + 1 ∧ z % (10 ^ Int.toNat 43 + 63) * 64 + k + 1 < 2 ^ 200 := fun z => by
      have e0 : (10 : Int) ^ Int.toNat 43 + 63 = 10000000000000000000000000000000000000000063 := by decide +kernel
      rw [e0]
      have h1 := Int.emod_nonneg z (b := 10000000000000000000000000000000000000000063) (by decide)
      have h2 := Int.emod_lt_of_pos z (b := 10000000000000000000000000000000000000000063) (by decide)
      omega
    refine ⟨_, rfl, _, rfl, sa, _, rfl, .inl hS, _, _, rfl, rfl, _, rfl, ?_⟩
    refine ite2 (fun hl => ?_) (fun hl => ?_)
    · have hl' : k < (ns.length : Int) := by simpa using hl
      have hg : (ns.map V.int)[k.toNat]? = some (.int ns[k.toNat]!) := by
        rw [List.getElem?_map, List.getElem?_eq_getElem (by omega), getElem!_pos ns k.toNat (by omega)]
        rfl
      refine ⟨_, rfl, _, rfl, sa, _, k, _, rfl, rfl, hS, at_of (j := k.toNat) (by omega) hg, ?_⟩
      refine ⟨_, rfl, _, _, rfl, rfl, ⟨by decide, by decide, by decide +kernel⟩, _, _, rfl, rfl, _, _, rfl, ?_⟩
      refine ⟨_, rfl, _, _, rfl, rfl, ⟨by decide, by decide, by decide +kernel⟩, _, _, rfl, rfl, _, _, rfl, rfl, (by show (0 : Int) < 10 ^ Int.toNat _ + _; decide +kernel), _, _, rfl, rfl, .inr (by decide), _, rfl, _, _, rfl, rfl, _, _, rfl, rfl, ?_⟩
      exact ⟨by show 3 ≤ sizeLine; decide, fun p hp => q p _ _ hp (bd _).1 (bd _).2⟩
    · refine ⟨_, rfl, _, _, rfl, rfl, ⟨by decide, by decide, by decide +kernel⟩, _, _, rfl, rfl, _, _, rfl, ?_⟩
      refine ⟨_, rfl, _, _, rfl, rfl, ⟨by decide, by decide, by decide +kernel⟩, _, _, rfl, rfl, _, _, rfl, rfl, (by show (0 : Int) < 10 ^ Int.toNat _ + _; decide +kernel), _, _, rfl, rfl, .inr (by decide), _, rfl, _, _, rfl, rfl, _, _, rfl, rfl, ?_⟩
      exact ⟨by show 3 ≤ sizeLine; decide, fun p hp => q p _ _ hp (bd _).1 (bd _).2⟩
end
end K65
set_option Elab.async false
set_option linter.all false
set_option maxRecDepth 100000
set_option maxHeartbeats 4000000
namespace K65
open PySem L2 Ld GxR
/-- the heap without the pot -/
def hid (a : Addr) (H : Hp) : Hp := fun b => if b = a then none else H b
theorem hid_of {a b : Addr} {H : Hp} {o : HO} (h : H b = some o) (n : b ≠ a) : hid a H b = some o := by
  unfold hid
  rw [if_neg n]
  exact h
theorem of_hid {a b : Addr} {H : Hp} {o : HO} (h : hid a H b = some o) : H b = some o ∧ b ≠ a := by
  unfold hid at h
  by_cases e : b = a
  · rw [if_pos e] at h
    cases h
  · rw [if_neg e] at h
    exact ⟨h, e⟩
/-- all but the pot is kept -/
def Ka (a : Addr) (H H' : Hp) : Prop := ∀ b o, b ≠ a → H b = some o → H' b = some o
theorem Ka.refl (a : Addr) (H : Hp) : Ka a H H := fun _ _ _ h => h
theorem Ka.trans {a : Addr} {H H1 H2 : Hp} (x : Ka a H H1) (y : Ka a H1 H2) : Ka a H H2 := fun b o n h => y b o n (x b o n h)
theorem Ka.of {a : Addr} {H H' : Hp} (s : Same H H') : Ka a H H' := fun b o _ h => s b o h
theorem Ka.pot (a : Addr) (H : Hp) (o : HO) : Ka a H (upd H a o) := fun b u n h => by rw [upd_ne n]; exact h
theorem Ka.da {a : Addr} {H H' : Hp} (k : Ka a H H') {v : V} {d : PyData} (h : Da (hid a H) v d) : Da (hid a H') v d :=
  h.keep fun b o e _ => let ⟨e1, n⟩ := of_hid e; hid_of (k b o n e1) n
theorem Ka.daAll {a : Addr} {H H' : Hp} (k : Ka a H H') {v : List V} {d : List PyData} (h : DaAll (hid a H) v d) : DaAll (hid a H') v d :=
  h.keep fun b o e _ => let ⟨e1, n⟩ := of_hid e; hid_of (k b o n e1) n
theorem da_hid {a : Addr} {H : Hp} {v : V} {d : PyData} (h : Da (hid a H) v d) : Da H v d := h.keep fun b o e _ => (of_hid e).1
theorem daAll_hid {a : Addr} {H : Hp} {v : List V} {d : List PyData} (h : DaAll (hid a H) v d) : DaAll H v d := h.keep fun b o e _ => (of_hid e).1
theorem Same.pot {H H' : Hp} {a : Addr} {x b c : Int} (s : Same H H') (h : Pot H a x b c) : Pot H' a x b c := s _ _ h
/-- a new object: the heap behind it by what it holds -/
theorem absn {H : Hp} {p : Addr} {o : HO} {motive : Hp → Prop} (n : H p = none) (h : ∀ H1, Same H H1 → H1 p = some o → motive H1) : motive (upd H p o) := h _ (same_upd n) upd_same
theorem newH {H : Hp} {p : Addr} (n : H p = none) {o : HO} : ∃ H1, Same H H1 ∧ H1 p = some o ∧ upd H p o = H1 := ⟨_, same_upd n, upd_same, rfl⟩
theorem mutH {H : Hp} {p : Addr} {o : HO} : ∃ H1, (∀ b u, b ≠ p → H b = some u → H1 b = some u) ∧ H1 p = some o ∧ upd H p o = H1 := ⟨_, fun b u n e => by rw [upd_ne n]; exact e, upd_same, rfl⟩
theorem DaAll.some {H : Hp} {vs : List V} {ds : List PyData} (h : DaAll H vs ds) {i : Nat} (hi : i < ds.length) : ∃ v d, vs[i]? = some v ∧ ds[i]? = some d ∧ Da H v d := by
  have hl := h.len
  have hv : vs[i]? = Option.some (vs[i]'(by omega)) := List.getElem?_eq_getElem (by omega)
  obtain ⟨d, h1, h2⟩ := h.get _ _ hv
  exact ⟨_, d, hv, h1, h2⟩
theorem pot_ne {H : Hp} {a p : Addr} {x b c : Int} (h : Pot H a x b c) (n : H p = none) : p ≠ a := fun e => by
  have h' : H a = _ := h
  rw [← e, n] at h'
  cases h'
/-- what is new behind H0 -/
def frs (H0 H : Hp) : Hp := fun b => match H0 b with
  | none => H b
  | some _ => none
theorem frs_of {b : Addr} {H0 H : Hp} {o : HO} (h : H b = some o) (n : H0 b = none) : frs H0 H b = some o := by
  unfold frs
  rw [n]
  exact h
theorem of_frs {b : Addr} {H0 H : Hp} {o : HO} (h : frs H0 H b = some o) : H b = some o ∧ H0 b = none := by
  unfold frs at h
  cases e : H0 b with
  | none =>
    rw [e] at h
    exact ⟨h, rfl⟩
  | some u =>
    rw [e] at h
    cases h
theorem frs_da {H0 H H' : Hp} (k : ∀ b o, H0 b = none → H b = some o → H' b = some o) {v : V} {d : PyData} (h : Da (frs H0 H) v d) : Da (frs H0 H') v d :=
  h.keep fun b o e _ => let ⟨e1, n⟩ := of_frs e; frs_of (k b o n e1) n
theorem frs_all {H0 H H' : Hp} (k : ∀ b o, H0 b = none → H b = some o → H' b = some o) {v : List V} {d : List PyData} (h : DaAll (frs H0 H) v d) : DaAll (frs H0 H') v d :=
  h.keep fun b o e _ => let ⟨e1, n⟩ := of_frs e; frs_of (k b o n e1) n
theorem Same.fd {H0 H H' : Hp} (s : Same H H') {v : V} {d : PyData} (h : Da (frs H0 H) v d) : Da (frs H0 H') v d := frs_da (fun b o _ => s b o) h
theorem Same.fa {H0 H H' : Hp} (s : Same H H') {v : List V} {d : List PyData} (h : DaAll (frs H0 H) v d) : DaAll (frs H0 H') v d := frs_all (fun b o _ => s b o) h
theorem frs_hid {a : Addr} {H0 H : Hp} {o : HO} (ha : H0 a = some o) {v : V} {d : PyData} (h : Da (frs H0 H) v d) : Da (hid a H) v d :=
  h.keep fun b u e _ => let ⟨e1, n⟩ := of_frs e; hid_of e1 fun z => by rw [z, ha] at n; cases n
def st (x : String) : PyData := .str x
def oddD : List PyData :=
  [.none, .bool true, .bool false, .int 0, .int 1, .int (-1), .int 9, st "", st "a", st "an", st "abcdefghi", st "Wet", st "we t", st "an.a", st "a1", .list []] ++
  [.tuple [], .dict [], .tuple [st "an", st "a"], .list [st "an", st "a"], .list [.tuple [st "an", st "a"]], .tuple [st "an"], .tuple [st "an", st "a", st "b"], .tuple [st "an", st ""]] ++
  [.tuple [st "bo", st "an"]] ++
  [.tuple [st "an", st "a", .int 1, .list [.tuple [st "an", st "a"]]], .tuple [.list [], .list [], .list []], .dict [(st "an", st "a")], .int (10 ^ Int.toNat 8), .tuple [st "an", .int 1]]
def txB : PyData → Bool
  | .str x => x.cps.toList.all fun c => decide (c < 128)
  | _ => true
def txI : PyData → Bool
  | .str x => x.cps.toList.all fun c => decide (c < 128)
  | .tuple ds => ds.all txB
  | _ => true
/-- small data of written signs -/
def okB (d : PyData) : Bool := d.showable && d.leavesShort 600 && decide (d.depth ≤ 8) && decide (d.weight ≤ 200) && txI d
theorem odd_ok : oddD.all okB = true := by decide +kernel
def spOdd : Sp := fun vs H Q _ => ∃ (a : Addr) (x b c : Int), vs = [.ref a] ∧ Pot H a x b c ∧ (0 ≤ b ∧ b < 2 ^ 200) ∧ (0 ≤ c ∧ c < 2 ^ 60) ∧
  ∀ (v : V) (d : PyData) (H' : Hp) (x' c' : Int), Da (frs H H') v d → d ∈ oddD → Pot H' a x' b c' → c ≤ c' → c' ≤ c + 1 → Ka a H H' → Q v H'
section
variable {P : Program} {w : World} {K : PySem.W.Frag} {mg : Str → Option Value} {base : Heap}
theorem new_tup {H0 H H1 : Hp} {p : Addr} {xs : List V} {ds : List PyData} (g : Same H H1) (e : H1 p = some (.tup xs)) (n : H0 p = none) (h : DaAll (frs H0 H) xs ds) : Da (frs H0 H1) (.ref p) (.tuple ds) := .tup (frs_of e n) (Same.fa g h)
theorem new_lst {H0 H H1 : Hp} {p : Addr} {xs : List V} {ds : List PyData} (g : Same H H1) (e : H1 p = some (.lst xs)) (n : H0 p = none) (h : DaAll (frs H0 H) xs ds) : Da (frs H0 H1) (.ref p) (.list ds) := .lst (frs_of e n) (Same.fa g h)
end
end K65
set_option Elab.async false
set_option linter.all false
set_option maxRecDepth 100000
set_option maxHeartbeats 4000000
namespace K65
open PySem L2 Ld GxR
theorem dip {H : Hp} {a : Addr} {x b c m : Int} {Q : VK} {E : XK} (hp : Pot H a x b c) (hb : 0 ≤ b ∧ b < 2 ^ 200) (hc : 0 ≤ c ∧ c < 2 ^ 60) (hm : 0 < m ∧ m < 2 ^ 30)
    (k : ∀ (x' c' r : Int) (H' : Hp), c ≤ c' → c' ≤ c + 1 → 0 ≤ r → r < m → Pot H' a x' b c' → Ka a H H' → Q (.int r) H') : spDip [.ref a, .int m] H Q E :=
  ⟨a, x, b, c, m, rfl, hp, hb, hc, hm, fun x' c' r h1 h2 h3 h4 => k x' c' r _ h1 h2 h3 h4 upd_same (Ka.pot _ _ _)⟩
theorem potH {H : Hp} {a : Addr} (x b c : Int) : ∃ H1, Pot H1 a x b c ∧ Ka a H H1 ∧ upd H a (.lst [.int x, .int b, .int c]) = H1 := ⟨_, upd_same, Ka.pot _ _ _, rfl⟩
theorem at_nat {α : Type} {xs : List α} {i : Int} (h0 : 0 ≤ i) (h : i.toNat < xs.length) : atI xs i = some (xs[i.toNat]'h) := by
  have e : i = ((i.toNat : Nat) : Int) := by omega
  have q := atI_nat (List.getElem?_eq_getElem h)
  rw [← e] at q
  exact q
theorem TxOk.app {x y : Str} (hx : TxOk x) (hy : TxOk y) : TxOk (x ++ y) := fun c h => by
  have e : (x ++ y).cps.toList = x.cps.toList ++ y.cps.toList := by
    show (x.cps ++ y.cps).toList = _
    simp
  rw [e] at h
  rcases List.mem_append.mp h with h | h
  · exact hx c h
  · exact hy c h
theorem TxOk.cut {x : Str} (hx : TxOk x) (lo hi : Option Int) : TxOk (cutS x lo hi) := fun c h => by
  unfold cutS at h
  exact hx c (List.mem_of_mem_drop (List.mem_of_mem_take (by simpa using h)))
theorem newK {H : Hp} {p a : Addr} {x b c : Int} (n : H p = none) (hp : Pot H a x b c) {o : HO} : ∃ H1, Same H H1 ∧ H1 p = some o ∧ Pot H1 a x b c ∧ p ≠ a ∧ upd H p o = H1 := ⟨_, same_upd n, upd_same, Same.pot (same_upd n) hp, pot_ne hp n, rfl⟩
/-- what the law draws -/
def okT (d : PyData) : Bool := d.showable && d.leavesShort 600 && decide (d.depth ≤ 32) && decide (d.weight ≤ 20000) && txI d
theorem okT.sm {d : PyData} (h : okT d = true) : Sm d = true := (Bool.and_eq_true_iff.mp h).1
theorem okT.w {d : PyData} (h : okT d = true) : d.weight ≤ 20000 := (Sm.parts (okT.sm h)).2.2.2
theorem txB_ok {x : Str} (h : txB (.str x) = true) : TxOk x := fun c hc => of_decide_eq_true (List.all_eq_true.mp (show (x.cps.toList.all fun c => decide (c < 128)) = true from h) c hc)
theorem okT.tx {d : PyData} (h : okT d = true) : TxAll d := by
  have h2 : txI d = true := (Bool.and_eq_true_iff.mp h).2
  refine ⟨fun x e => ?_, fun ds e e' he x ex => ?_⟩
  · subst e
    exact txB_ok h2
  · subst e
    have h3 : ds.all txB = true := h2
    have h4 := List.all_eq_true.mp h3 e' he
    rw [ex] at h4
    exact txB_ok h4
theorem okB.parts {d : PyData} (h : okB d = true) : d.showable = true ∧ d.leavesShort 600 = true ∧ d.depth ≤ 8 ∧ d.weight ≤ 200 ∧ txI d = true := by
  unfold okB at h
  simp only [Bool.and_eq_true, decide_eq_true_eq] at h
  exact ⟨h.1.1.1.1, h.1.1.1.2, h.1.1.2, h.1.2, h.2⟩
theorem okT_of {d : PyData} (h1 : d.showable = true) (h2 : d.leavesShort 600 = true) (h3 : d.depth ≤ 32) (h4 : d.weight ≤ 20000) (h5 : txI d = true) : okT d = true := by
  unfold okT
  simp only [Bool.and_eq_true, decide_eq_true_eq]
  exact ⟨⟨⟨⟨h1, h2⟩, h3⟩, h4⟩, h5⟩
theorem okT_okB {d : PyData} (h : okB d = true) : okT d = true := by
  obtain ⟨h1, h2, h3, h4, h5⟩ := okB.parts h
  exact okT_of h1 h2 (by omega) (by omega) h5
theorem txB_of {d : PyData} (h : txI d = true) : txB d = true := by
  cases d <;> first | exact h | rfl
theorem okB_str {x : Str} (h : TxOk x) (hl : x.length ≤ 21) : okB (.str x) = true := by
  unfold okB
  have hl' : x.cps.size ≤ 21 := hl
  simp only [Bool.and_eq_true, decide_eq_true_eq]
  refine ⟨⟨⟨⟨rfl, ?_⟩, by simp [PyData.depth]⟩, ?_⟩, ?_⟩
  · simp only [PyData.leavesShort, List.all_eq_true, decide_eq_true_eq]
    intro c hc
    have := h c hc
    omega
  · simp only [PyData.weight]
    omega
  · show (x.cps.toList.all fun c => decide (c < 128)) = true
    exact List.all_eq_true.mpr fun c hc => decide_eq_true (h c hc)
theorem all_okB : ∀ {ds : List PyData}, (∀ e ∈ ds, okB e = true) → PyData.showableAll ds = true ∧ PyData.leavesShortAll 600 ds = true ∧ PyData.depthAll ds ≤ 8 ∧ PyData.weightAll ds ≤ 201 * ds.length ∧ ds.all txB = true
  | [], _ => ⟨rfl, rfl, Nat.zero_le _, Nat.zero_le _, rfl⟩
  | d :: ds, h => by
    obtain ⟨a1, a2, a3, a4, a5⟩ := all_okB (ds := ds) fun e he => h e (List.mem_cons_of_mem _ he)
    obtain ⟨b1, b2, b3, b4, b5⟩ := okB.parts (h d List.mem_cons_self)
    refine ⟨?_, ?_, ?_, ?_, ?_⟩
    · simp only [PyData.showableAll, a1, b1, Bool.and_true]
    · simp only [PyData.leavesShortAll, a2, b2, Bool.and_true]
    · simp only [PyData.depthAll]
      omega
    · simp only [PyData.weightAll, List.length_cons]
      omega
    · rw [List.all_cons, a5, txB_of b5, Bool.and_true]
theorem okT_list {ds : List PyData} (h : ∀ e ∈ ds, okB e = true) (hl : ds.length ≤ 4) : okT (.list ds) = true := by
  obtain ⟨a1, a2, a3, a4, a5⟩ := all_okB h
  refine okT_of (by simpa [PyData.showable] using a1) (by simpa [PyData.leavesShort] using a2) ?_ ?_ rfl
  · simp only [PyData.depth]
    omega
  · simp only [PyData.weight]
    omega
theorem okT_tuple {ds : List PyData} (h : ∀ e ∈ ds, okB e = true) (hl : ds.length ≤ 4) : okT (.tuple ds) = true := by
  obtain ⟨a1, a2, a3, a4, a5⟩ := all_okB h
  refine okT_of (by simpa [PyData.showable] using a1) (by simpa [PyData.leavesShort] using a2) ?_ ?_ a5
  · simp only [PyData.depth]
    omega
  · simp only [PyData.weight]
    omega
theorem dp_strs {K : PySem.W.Frag} {H : Hp} : ∀ l : List Str, DpAll K H (l.map V.str) (l.map PyData.str)
  | [] => .nil
  | c :: l => .cons (.str _) (dp_strs l)
theorem da_strs {H : Hp} : ∀ l : List Str, DaAll H (l.map V.str) (l.map PyData.str)
  | [] => .nil
  | c :: l => .cons (.str _) (da_strs l)
theorem lay_strs : ∀ l : List Str, (∀ c ∈ l, TxOk c) → PyData.canLayAll0 (l.map PyData.str) = true ∧ PyData.depthAll (l.map PyData.str) = 0
  | [], _ => ⟨rfl, rfl⟩
  | c :: l, h => by
    obtain ⟨h1, h2⟩ := lay_strs l fun x hx => h x (List.mem_cons_of_mem _ hx)
    have hc := h c List.mem_cons_self
    refine ⟨?_, ?_⟩
    · show (PyData.canLay0 (.str c) && _) = true
      rw [h1, Bool.and_true]
      show PyData.strOk c = true
      unfold PyData.strOk
      rw [← Array.all_toList, List.all_eq_true]
      intro x hx
      have := hc x hx
      exact decide_eq_true (by omega)
    · show max 0 _ = 0
      rw [h2]
      rfl
theorem shaped_strs {l : List Str} (h : ∀ c ∈ l, TxOk c) : SeqAt.shaped (.list (l.map PyData.str)) = true := by
  obtain ⟨h1, h2⟩ := lay_strs l h
  unfold SeqAt.shaped
  rw [Bool.and_eq_true]
  refine ⟨h1, decide_eq_true ?_⟩
  show PyData.depthAll _ + 1 ≤ 64
  rw [h2]
  decide
theorem yes {σ : L2.St} {H : Hp} {Q : Bool → Hp → Prop} (h : Q true H) : tYes σ H Q := h
theorem ixN_at {n j : Nat} (hj : j < n) : ixN n (j : Int) = some j := by
  unfold ixN
  rw [if_pos (by omega), if_pos (by omega)]
  simp
/-- all is kept but the pot and the table -/
def Kt (a T : Addr) (H H' : Hp) : Prop := ∀ b o, b ≠ a → b ≠ T → H b = some o → H' b = some o
theorem Kt.refl (a T : Addr) (H : Hp) : Kt a T H H := fun _ _ _ _ h => h
theorem Kt.trans {a T : Addr} {H H1 H2 : Hp} (x : Kt a T H H1) (y : Kt a T H1 H2) : Kt a T H H2 := fun b o n m h => y b o n m (x b o n m h)
theorem Kt.ka {a T : Addr} {H H1 : Hp} (x : Ka a H H1) : Kt a T H H1 := fun b o n _ h => x b o n h
theorem Kt.same {a T : Addr} {H H1 : Hp} (x : Same H H1) : Kt a T H H1 := fun b o _ _ h => x b o h
theorem Kt.tab {a T : Addr} {H H1 : Hp} (x : Tabbed T H H1) : Kt a T H H1 := fun b o _ m h => by rw [x.2 b m]; exact h
theorem TabG.ka {a T : Addr} {H H1 : Hp} {x b c : Int} (g : TabG H T) (p : Pot H a x b c) (k : Ka a H H1) : TabG H1 T := by
  obtain ⟨ps, h1, h2⟩ := g
  refine ⟨ps, k _ _ (fun z => ?_) h1, h2⟩
  have p' : H a = _ := p
  rw [← z, h1] at p'
  cases p'
theorem TabG.same {T : Addr} {H H1 : Hp} (g : TabG H T) (k : Same H H1) : TabG H1 T := by
  obtain ⟨ps, h1, h2⟩ := g
  exact ⟨ps, k _ _ h1, h2⟩
theorem Pot.tab {a T : Addr} {H H1 : Hp} {x b c : Int} (g : TabG H T) (p : Pot H a x b c) (t : Tabbed T H H1) : Pot H1 a x b c := Tabbed.keep g t _ _ p fun _ z => nomatch z
end K65
set_option Elab.async false
set_option linter.all false
set_option maxRecDepth 100000
set_option maxHeartbeats 4000000
namespace K65
open PySem L2 Ld GxR
abbrev s__law_some : Stmt := topS 45
abbrev N__law_some : List Str := ["pot", "things", "most", "left", "many", "turn"]
theorem sc__law_some : FnScope N__law_some ["pot", "things", "most"] (defScope s__law_some) := ⟨rfl, rfl, rfl, by decide +kernel, rfl, by decide +kernel, by decide +kernel⟩
/-- some of the things, each once: ys of them, zs left -/
def spSome (K : PySem.W.Frag) : Sp := fun vs H Q _ => ∃ (a l : Addr) (x b c m : Int) (xs : List V), vs = [.ref a, .ref l, .int m] ∧ Pot H a x b c ∧ (0 ≤ b ∧ b < 2 ^ 200) ∧ (0 ≤ c ∧ c < 2 ^ 59) ∧ SqL K H l xs ∧ 1 ≤ xs.length ∧ xs.length ≤ 1000 ∧ (1 ≤ m ∧ m ≤ 1000) ∧
  ∀ (D : Addr) (ys zs : List V) (H' : Hp) (x' c' : Int), (ys ++ zs).Perm xs → 1 ≤ ys.length → (ys.length : Int) ≤ m → H D = none → H' D = some (.lst ys) → Pot H' a x' b c' → c ≤ c' → c' ≤ c + 1 + ys.length → Ka a H H' → Q (.ref D) H'
theorem perm_erase {α : Type} : ∀ (l : List α) (k : Nat) (y : α), l[k]? = some y → (y :: l.eraseIdx k).Perm l
  | [], _, _, h => by simp at h
  | x :: l, 0, y, h => by
    simp at h
    subst h
    exact List.Perm.refl _
  | x :: l, k + 1, y, h => by
    have ih := perm_erase l k y (by simpa using h)
    rw [List.eraseIdx_cons_succ]
    exact (List.Perm.swap x y _).trans (ih.cons x)
theorem seqIx {r : Int} {n : Nat} (h0 : 0 ≤ r) (h1 : r < n) : seqIndex? r n = some r.toNat := by
  have e : ¬ r < 0 := by omega
  unfold seqIndex?
  simp [e, h0, h1]
def rLenS (K : PySem.W.Frag) : List V → Hp → VK → Prop := fun xs H Q => ∃ p ys, xs = [.ref p] ∧ (SqL K H p ys ∨ SqT K H p ys) ∧ Q (.int ys.length) H
theorem pe_popAt (K : PySem.W.Frag) {X : Cx} (hK : X.K = K) {o e : Expr} {es : List Expr} {to : TE} {t : TA} {apos cpos : Pos} (ho : PE X o to) (ha : PA X (e :: es) t)
    (hbase : attributeBase o "pop" X.env (eval o X.env) = eval o X.env := by rfl)
    (hfew : ((backTo cpos (starEach (e :: es) X.env)).all (fun x => !x.1) && (backToKw cpos (keywordEach [] X.env)).all (fun x => x.1.isSome)
      && decide ((e :: es).length + ([] : List Keyword).length + (if ([] : List Keyword).isEmpty then 0 else 1) < 30)) = true := by rfl)
    (hline : (apos.endLine == cpos.line) = true := by rfl) (hs : starEach (e :: es) X.env = (false, eval e X.env) :: starEach es X.env := by rfl) (hplain : (backTo cpos (starEach es X.env)).any (·.1) = false := by rfl) :
    PE X (.Call (.Attribute o "pop" apos) (e :: es) [] cpos) (tBM K "list" rPopAt to t) := by
  subst hK
  exact pe_bm PySem.F.plainAttrs_list PySem.F.slot_list_pop PySem.F.type_list_pop mt_popAt ho ha hbase hfew hline hs hplain
section
variable {P : Program} {w : World} {K : PySem.W.Frag} {mg : Str → Option Value} {base : Heap}
theorem ok__law_some {f fN : Addr} {fd fdN : FuncData} (F : Fun K "_law_some" "_law_some" s__law_some f fd) (G__law_dip : FnOk P w K mg base CX0 1 fN fdN ["pot", "many"] spDip) (g__law_dip : mg "_law_dip" = some (.ref fN)) (k__law_dip : PySem.W.keepIn K (.ref fN) = true)
    (b__law_dip : Binds K fdN ["pot", "many"] []) (z_len : mg "len" = none) (z_range : mg "range" = none) (z_list : mg "list" = none) (z_min : mg "min" = none) : FnOk P w K mg base CX0 2 f fd ["pot", "things", "most"] (spSome K) := by
  refine F.ok sc__law_some (fun vs H Q E h => ?_) (fun cdv A outer s H vs Q E hr h => ?_)
  · obtain ⟨a, l, x, b, c, m, xs, rfl, _⟩ := h
    rfl
  · obtain ⟨a, l, x, b, c, m, xs, rfl, hp, hb, ⟨hc0, hc1⟩, hl, hn1, hn2, ⟨hm1, hm2⟩, q⟩ := h
    refine ⟨_, (pss_cons (ps_set (i := 3) sc__law_some.nd rfl (Or.inr rfl) (pe_callTy call_list_of (by rfl) z_list (by decide +kernel) (pa_cons (pv 1) pa_nil)))
  (pss_cons (ps_set (i := 4) sc__law_some.nd rfl (Or.inl rfl) (pe_op op_add pe_int (pe_call G__law_dip (hr.mono (by decide)) (by rfl) g__law_dip k__law_dip b__law_dip .nil pass0 (pa_cons (pv 0) (pa_cons (pe_callB ((call_min2 rfl)) (by rfl) z_min (by decide +kernel) (pa_cons (pv 2) (pa_cons (pe_callB (call_len_seq) (by rfl) z_len (by decide +kernel) (pa_cons (pv 3) pa_nil)) pa_nil))) pa_nil)))))
  (pss_one (ps_ret (pe_lc (own := [("turn", 5)]) (g := gName 5) rfl sc__law_some.nd (pi_range1 (by rfl) z_range (pa_cons (pv 4) pa_nil)) (blkOk_by (own := [("turn", 5)]) (N := N__law_some) (sc := defScope s__law_some) (by decide +kernel)) (fun _ _ _ _ _ => pg_name (i := 5) sc__law_some.nd rfl (Or.inl rfl)) (fun _ _ _ _ _ => pts_nil)
    (fun _ _ _ _ _ => (pe_popAt K rfl (pv 3) (pa_cons (pe_call G__law_dip (hr.mono (by decide)) (by rfl) g__law_dip k__law_dip b__law_dip .nil pass0 (pa_cons (pv 0) (pa_cons (pe_callB (r := rLenS K) (id := "len") (call_len_seq) (by rfl) z_len (by decide +kernel) (pa_cons (pv 3) pa_nil)) pa_nil))) pa_nil)))))))), ?_⟩
    -- left = list(things)
    refine ⟨_, rfl, l, xs, rfl, .inl hl, fun L nL => ?_⟩
    obtain ⟨H1, g1, e1, q1, na1, hq1⟩ := newK nL hp (o := _)
    rw [hq1]
    -- many = 1 + dip(pot, min(most, len(left)))
    refine ⟨_, rfl, _, rfl, _, rfl, L, xs, rfl, .inl (.inl (.inl e1)), _, _, rfl, ?_⟩
    have hM : ∃ M : Int, (if (xs.length : Int) < m then (xs.length : Int) else m) = M ∧ 1 ≤ M ∧ M ≤ m ∧ M ≤ xs.length := by
      refine ⟨_, rfl, ?_⟩
      split <;> omega
    obtain ⟨M, hM0, hM1, hM2, hM3⟩ := hM
    rw [hM0]
    refine ⟨a, x, b, c, M, rfl, q1, hb, ⟨hc0, by omega⟩, ⟨by omega, by omega⟩, fun x2 c2 r2 u1 u2 u3 u4 => ?_⟩
    obtain ⟨H2, q2, k2, hq2⟩ := potH (a := a) x2 b c2 (H := H1)
    rw [hq2]
    refine ⟨_, _, rfl, rfl, ?_⟩
    have aL : L ≠ a := na1
    have e2 : H2 L = some (.lst xs) := k2 _ _ aL e1
    -- [left.pop(dip(pot, len(left))) for turn in range(many)]
    refine ⟨_, rfl, 1 + r2, rfl, by omega, by omega, fun D hD => ?_⟩
    have aD : D ≠ a := pot_ne q2 hD
    have LD : L ≠ D := ne_of_none e2 hD
    refine lc_range (lo := 0) (n := (1 + r2).toNat) (fun i H' => ∃ (ys zs : List V) (x' c' : Int), (ys ++ zs).Perm xs ∧ ys.length = i ∧ H' D = some (.lst ys) ∧ H' L = some (.lst zs) ∧ Pot H' a x' b c' ∧ c2 ≤ c' ∧ c' ≤ c2 + i ∧ ∀ b' o, b' ≠ a → b' ≠ L → b' ≠ D → H2 b' = some o → H' b' = some o) ?_ (fun i H' hi hP => ?_) fun H' hP => ?_
    · refine ⟨[], xs, x2, c2, List.Perm.refl _, rfl, upd_same, ?_, ?_, by omega, by omega, fun b' o _ _ n h => by rw [upd_ne n]; exact h⟩
      · rw [upd_ne LD]; exact e2
      · show upd H2 D _ a = _
        rw [upd_ne (Ne.symm aD)]; exact q2
    · obtain ⟨ys, zs, x', c', hpm, hyl, hD', hL', q', w1, w2, k'⟩ := hP
      have hlen : ys.length + zs.length = xs.length := by rw [← List.length_append]; exact hpm.length_eq
      refine ⟨rfl, yes ?_⟩
      refine ⟨_, rfl, .inl ⟨rfl, _, .inl (.inl hL')⟩, _, rfl, _, rfl, L, zs, rfl, .inl (.inl (.inl hL')), ?_⟩
      refine ⟨a, x', b, c', zs.length, rfl, q', hb, ⟨by omega, by omega⟩, ⟨by omega, by omega⟩, fun x3 c3 r3 v1 v2 v3 v4 => ?_⟩
      obtain ⟨H3, q3, k3, hq3⟩ := potH (a := a) x3 b c3 (H := H')
      rw [hq3]
      have e3 : H3 L = some (.lst zs) := k3 _ _ aL hL'
      have hlt : r3.toNat < zs.length := by omega
      refine ⟨L, zs, r3, r3.toNat, zs[r3.toNat], rfl, rfl, e3, by omega, by omega, ?_, List.getElem?_eq_getElem hlt, ?_⟩
      · exact seqIx v3 (by omega)
      · refine ⟨ys, ?_, Nat.lt_of_lt_of_le (by omega : ys.length < 20000) (small20 (Nat.le_refl _)), ys ++ [zs[r3.toNat]], zs.eraseIdx r3.toNat, x3, c3, ?_, by simp [hyl], upd_same, ?_, ?_, by omega, by omega, fun b' o n1 n2 n3 h => ?_⟩
        · rw [upd_ne (Ne.symm LD)]
          exact k3 _ _ aD hD'
        · rw [List.append_assoc]
          exact ((perm_erase zs _ _ (List.getElem?_eq_getElem hlt)).append_left ys).trans hpm
        · rw [upd_ne LD]
          exact upd_same
        · show upd (upd H3 L _) D _ a = _
          rw [upd_ne (Ne.symm aD), upd_ne (Ne.symm aL)]
          exact q3
        · rw [upd_ne n3, upd_ne n2]
          exact k3 _ _ n1 (k' _ _ n1 n2 n3 h)
    · obtain ⟨ys, zs, x', c', hpm, hyl, hD', hL', q', w1, w2, k'⟩ := hP
      have nD0 : H D = none := by
        cases e : H D with
        | none => rfl
        | some o =>
          have z := k2 _ _ aD (g1 _ _ e)
          rw [hD] at z
          cases z
      exact q D ys zs H' x' c' hpm (by omega) (by omega) nD0 hD' q' (by omega) (by omega) fun b' o n h => by
        have z1 : b' ≠ L := ne_of_none h nL
        have z2 : b' ≠ D := ne_of_none h nD0
        exact k' _ _ n z1 z2 (k2 _ _ n (g1 _ _ h))
end
end K65
set_option Elab.async false
set_option linter.all false
set_option maxRecDepth 100000
set_option maxHeartbeats 4000000
namespace K65
open PySem L2 Ld GxR
/-- v is a tuple of a text of xs and one of ys, laid since H0 -/
def PrV (xs ys : List Str) (H0 H : Hp) (v : V) : Prop := ∃ t x y, x ∈ xs ∧ y ∈ ys ∧ v = .ref t ∧ H t = some (.tup [.str x, .str y]) ∧ H0 t = none
def Tk (H H' : Hp) : Prop := ∀ b zs, H b = some (.tup zs) → H' b = some (.tup zs)
theorem Tk.refl (H : Hp) : Tk H H := fun _ _ h => h
theorem Tk.trans {H H1 H2 : Hp} (x : Tk H H1) (y : Tk H1 H2) : Tk H H2 := fun b zs h => y b zs (x b zs h)
theorem Tk.same {H H1 : Hp} (x : Same H H1) : Tk H H1 := fun b zs h => x b _ h
theorem Tk.lst {H : Hp} {p : Addr} {ls : List V} {o : HO} (h : H p = some (.lst ls)) : Tk H (upd H p o) := fun b zs e => by
  rw [upd_ne fun z => by rw [z, h] at e; cases e]
  exact e
theorem Tk.ka {a : Addr} {x b c : Int} {H H1 : Hp} (k : Ka a H H1) (p : Pot H a x b c) : Tk H H1 := fun b' zs e => k _ _ (fun z => by
  have p' : H a = some _ := p
  rw [z, p'] at e; cases e) e
theorem PrV.keep {xs ys : List Str} {H0 H H' : Hp} {v : V} (h : PrV xs ys H0 H v) (k : Tk H H') : PrV xs ys H0 H' v := by
  obtain ⟨t, x, y, hx, hy, e, h1, h2⟩ := h
  exact ⟨t, x, y, hx, hy, e, k _ _ h1, h2⟩
theorem sqL_keep {K : PySem.W.Frag} {H H1 : Hp} {l : Addr} {xs : List V} (g : ∀ u, H l = some u → H1 l = some u) (h : SqL K H l xs) : SqL K H1 l xs := by
  rcases h with (h | ⟨o, h⟩) | h
  · exact .inl (.inl (g _ h))
  · exact .inl (.inr ⟨o, g _ h⟩)
  · exact .inr h
theorem sqL_same {K : PySem.W.Frag} {H H1 : Hp} {l : Addr} {xs : List V} (g : Same H H1) (h : SqL K H l xs) : SqL K H1 l xs := sqL_keep (fun u e => g _ _ e) h
abbrev s__law_pairs : Stmt := topS 46
abbrev N__law_pairs : List Str := ["ones", "others", "found", "one", "other"]
theorem sc__law_pairs : FnScope N__law_pairs ["ones", "others"] (defScope s__law_pairs) := ⟨rfl, rfl, rfl, by decide +kernel, rfl, by decide +kernel, by decide +kernel⟩
def spPairs (K : PySem.W.Frag) : Sp := fun vs H Q _ => ∃ (l1 l2 : Addr) (xs ys : List Str), vs = [.ref l1, .ref l2] ∧ SqL K H l1 (xs.map V.str) ∧ SqL K H l2 (ys.map V.str) ∧ xs.length ≤ 50 ∧ ys.length ≤ 50 ∧
  ∀ (D : Addr) (vs : List V) (H' : Hp), vs.length = xs.length * ys.length → (∀ v ∈ vs, PrV xs ys H H' v) → H D = none → H' D = some (.lst vs) → Same H H' → Q (.ref D) H'
theorem pe_extend (K : PySem.W.Frag) {X : Cx} (hK : X.K = K) {o e : Expr} {es : List Expr} {to : TE} {t : TA} {apos cpos : Pos} (ho : PE X o to) (ha : PA X (e :: es) t)
    (hbase : attributeBase o "extend" X.env (eval o X.env) = eval o X.env := by rfl)
    (hfew : ((backTo cpos (starEach (e :: es) X.env)).all (fun x => !x.1) && (backToKw cpos (keywordEach [] X.env)).all (fun x => x.1.isSome)
      && decide ((e :: es).length + ([] : List Keyword).length + (if ([] : List Keyword).isEmpty then 0 else 1) < 30)) = true := by rfl)
    (hline : (apos.endLine == cpos.line) = true := by rfl) (hs : starEach (e :: es) X.env = (false, eval e X.env) :: starEach es X.env := by rfl) (hplain : (backTo cpos (starEach es X.env)).any (·.1) = false := by rfl) :
    PE X (.Call (.Attribute o "extend" apos) (e :: es) [] cpos) (tBM K "list" rExtend to t) := by
  subst hK
  exact pe_bm PySem.F.plainAttrs_list PySem.F.slot_list_extend PySem.F.type_list_extend mt_extend ho ha hbase hfew hline hs hplain
section
variable {P : Program} {w : World} {K : PySem.W.Frag} {mg : Str → Option Value} {base : Heap}
theorem ok__law_pairs {f : Addr} {fd : FuncData} (F : Fun K "_law_pairs" "_law_pairs" s__law_pairs f fd) : FnOk P w K mg base CX0 1 f fd ["ones", "others"] (spPairs K) := by
  refine F.ok sc__law_pairs (fun vs H Q E h => ?_) (fun cdv A outer s H vs Q E hr h => ?_)
  · obtain ⟨l1, l2, xs, ys, rfl, _⟩ := h
    rfl
  · obtain ⟨l1, l2, xs, ys, rfl, h1, h2, n1, n2, q⟩ := h
    refine ⟨_, (pss_cons (ps_set (i := 2) sc__law_pairs.nd rfl (Or.inl rfl) (pe_lst pa_nil))
  (pss_cons (ps_for PassesOwn.never rfl (pi_list (pv 0)) (pg_name (i := 3) sc__law_pairs.nd rfl (Or.inr rfl))
  (pss_one (ps_expr (pe_extend K rfl (pv 2) (pa_cons (pe_lc (own := [("other", 4)]) (g := gName 4) rfl sc__law_pairs.nd (pi_list (pv 1)) (blkOk_by (own := [("other", 4)]) (N := N__law_pairs) (sc := defScope s__law_pairs) (by decide +kernel)) (fun _ _ _ _ _ => pg_name (i := 4) sc__law_pairs.nd rfl (Or.inl rfl)) (fun _ _ _ _ _ => pts_nil)
    (fun _ _ _ _ _ => pe_tup (pa_cons (pv 3) (pa_cons (pv 4) pa_nil)))) pa_nil)))))
  (pss_one (ps_ret (pv 2))))), ?_⟩
    refine ⟨by decide, fun D nD => ?_⟩
    obtain ⟨H1, g1, e1, hq1⟩ := newH nD (o := _)
    rw [hq1]
    refine ⟨_, rfl, l1, rfl, ⟨_, sqL_same g1 h1⟩, ?_⟩
    refine for_list (K := K) (a := l1) (xs := xs.map V.str) (fun i σ H' => ∃ (o3 : Option V) (vs : List V), σ = [some (.ref l1), some (.ref l2), some (.ref D), o3, none] ∧ vs.length = i * ys.length ∧ (∀ v ∈ vs, PrV xs ys H H' v) ∧ H' D = some (.lst vs) ∧ Same H H')
      ⟨none, [], rfl, by simp, fun v hv => absurd hv (by simp), e1, g1⟩ (fun i σ H' _ hP => ?_) (fun i x σ H' hx hP => ?_) fun σ H' hP => ?_
    · obtain ⟨o3, vs, rfl, hl, hv, hD, g⟩ := hP
      exact sqL_same g h1
    · obtain ⟨o3, vs, rfl, hl, hv, hD, g⟩ := hP
      have hi : i < xs.length := by
        have := (List.getElem?_eq_some_iff.mp hx).1
        simpa using this
      obtain ⟨z, hz, rfl⟩ : ∃ z, z ∈ xs ∧ x = .str z := by
        have := List.mem_of_getElem? hx
        obtain ⟨z, hz, e⟩ := List.mem_map.mp this
        exact ⟨z, hz, e.symm⟩
      have hvl : vs.length ≤ 2500 := by
        rw [hl]
        exact (Nat.mul_le_mul (show i ≤ 50 by omega) n2 : i * ys.length ≤ 50 * 50)
      refine ⟨_, rfl, .inl ⟨rfl, _, .inl (.inl hD)⟩, _, rfl, l2, rfl, ⟨_, sqL_same g h2⟩, fun D2 hD2 => ?_⟩
      have DD : D ≠ D2 := ne_of_none hD hD2
      have nD2 : H D2 = none := by
        cases e : H D2 with
        | none => rfl
        | some o => rw [g _ _ e] at hD2; cases hD2
      refine lc_list (K := K) (a := l2) (xs := ys.map V.str) (fun j H'' => ∃ acc : List V, acc.length = j ∧ (∀ v ∈ acc, PrV xs ys H H'' v) ∧ H'' D2 = some (.lst acc) ∧ (∀ b o, b ≠ D2 → H' b = some o → H'' b = some o)) ?_ (fun j H'' _ hP => ?_) (fun j y H'' hy hP => ?_) fun H'' hP => ?_
      · exact ⟨[], rfl, fun v hv => absurd hv (by simp), upd_same, fun b o n e => by rw [upd_ne n]; exact e⟩
      · obtain ⟨acc, a1, a2, a3, a4⟩ := hP
        exact sqL_keep (fun u e => a4 _ _ (ne_of_none (g _ _ e) hD2) (g _ _ e)) h2
      · obtain ⟨acc, a1, a2, a3, a4⟩ := hP
        have hj : j < ys.length := by
          have := (List.getElem?_eq_some_iff.mp hy).1
          simpa using this
        obtain ⟨u, hu, rfl⟩ : ∃ u, u ∈ ys ∧ y = .str u := by
          have := List.mem_of_getElem? hy
          obtain ⟨u, hu, e⟩ := List.mem_map.mp this
          exact ⟨u, hu, e.symm⟩
        refine ⟨rfl, yes ?_⟩
        refine ⟨_, rfl, _, rfl, small20 (Nat.le_of_ble_eq_true rfl), fun T nT => ?_⟩
        obtain ⟨H3, g3, e3, hq3⟩ := newH nT (o := _)
        rw [hq3]
        have TD2 : D2 ≠ T := ne_of_none a3 nT
        have nT0 : H T = none := by
          cases e : H T with
          | none => rfl
          | some o => rw [a4 _ _ (ne_of_none e nD2) (g _ _ e)] at nT; cases nT
        refine ⟨acc, g3 _ _ a3, Nat.lt_of_lt_of_le (by omega : acc.length < 20000) (small20 (Nat.le_refl _)), acc ++ [.ref T], by simp [a1], fun v hv => ?_, upd_same, fun b o n e => ?_⟩
        · have k3 : Tk H'' (upd H3 D2 (.lst (acc ++ [.ref T]))) := (Tk.same g3).trans (Tk.lst (g3 _ _ a3))
          rcases List.mem_append.mp hv with hv | hv
          · exact (a2 v hv).keep k3
          · obtain rfl : v = .ref T := by simpa using hv
            exact ⟨T, z, u, hz, hu, rfl, by rw [upd_ne (Ne.symm TD2)]; exact e3, nT0⟩
        · rw [upd_ne n]
          exact g3 _ _ (a4 _ _ n e)
      · obtain ⟨acc, a1, a2, a3, a4⟩ := hP
        have hD' : H'' D = some (.lst vs) := a4 _ _ DD hD
        have al : acc.length ≤ 50 := by
          rw [a1]
          simpa using n2
        refine ⟨D, D2, vs, acc, rfl, rfl, hD', a3, Nat.le_trans (by omega) (small20 (Nat.le_refl _)), ?_⟩
        refine ⟨_, vs ++ acc, rfl, ?_, fun v hv1 => ?_, upd_same, fun b o e => ?_⟩
        · rw [List.length_append, hl, a1, List.length_map, Nat.add_mul, Nat.one_mul]
        · have kt : Tk H' H'' := fun b zs e => a4 _ _ (ne_of_none e hD2) e
          have k5 : Tk H'' (upd H'' D (.lst (vs ++ acc))) := Tk.lst hD'
          rcases List.mem_append.mp hv1 with hv1 | hv1
          · exact ((hv v hv1).keep kt).keep k5
          · exact (a2 v hv1).keep k5
        · have nD0 : b ≠ D := ne_of_none e nD
          rw [upd_ne nD0]
          exact a4 _ _ (ne_of_none e nD2) (g _ _ e)
    · obtain ⟨o3, vs, rfl, hl, hv, hD, g⟩ := hP
      refine ⟨_, rfl, ?_⟩
      exact q D vs H' (by simpa using hl) hv nD hD g
end
end K65
set_option Elab.async false
set_option linter.all false
set_option maxRecDepth 100000
set_option maxHeartbeats 4000000
namespace K65
open PySem L2 Ld GxR
/-- a thing's kind -/
def tyD : PyData → String
  | .none => "NoneType" | .bool _ => "bool" | .int _ => "int" | .str _ => "str" | .list _ => "list" | .tuple _ => "tuple" | .dict _ => "dict"
theorem tyd_of {K : PySem.W.Frag} {H : Hp} {v : V} {d : PyData} (h : Da H v d) : TyX K H v (.type (tyD d)) ∧ K7 (tyD d) := by
  cases h with
  | non => exact ⟨.base .non, .none⟩
  | bl b => exact ⟨.base (.bl b), .bool⟩
  | int i => exact ⟨.base (.int i), .int⟩
  | str x => exact ⟨.base (.str x), .str⟩
  | lst e _ => exact ⟨.base (.lst e), .list⟩
  | tup e _ => exact ⟨.base (.tup e), .tuple⟩
  | dct e _ _ => exact ⟨.base (.dK e), .dict⟩
theorem kit_list {K : PySem.W.Frag} {T : String} (h : K7 T) : PySem.W.kitOne K (.type T) (.type "list") = some (decide (T = "list")) := by
  cases h <;> rfl
theorem sub_take {xs : List V} {i : Nat} (h : i ≤ xs.length) : cutV xs none (some (i : Int)) = xs.take i := by
  unfold cutV
  rw [HT.sIx_none, HT.sIx_nat, List.drop_zero, Nat.sub_zero, Nat.min_eq_left h]
theorem sub_drop {xs : List V} {i : Nat} : cutV xs (some (i : Int)) none = xs.drop i := by
  unfold cutV
  rw [HT.sIx_none, HT.sIx_nat]
  rw [List.take_of_length_le (by rw [List.length_drop]; exact Nat.le_refl _)]
  by_cases h : i ≤ xs.length
  · rw [Nat.min_eq_left h]
  · rw [Nat.min_eq_right (by omega), List.drop_of_length_le (Nat.le_refl _), List.drop_of_length_le (by omega)]
theorem cut_whole {xs : List V} {lo hi : Option Int} (h : HT.sIx xs.length 0 lo = 0 ∧ HT.sIx xs.length xs.length hi = xs.length) : cutV xs lo hi = xs := by
  unfold cutV
  rw [h.1, h.2, List.drop_zero, Nat.sub_zero, List.take_length]
section
variable {K : PySem.W.Frag} {H : Hp} {Q : VK}
/-- a tuple's slice: a tuple that stands behind it -/
theorem slT_any {a : Addr} {xs : List V} {lo hi : Option Int} (h : H a = some (.tup xs)) (k : ∀ (p : Addr) (H1 : Hp), Same H H1 → H1 p = some (.tup (cutV xs lo hi)) → Q (.ref p) H1) : rSlA K (.ref a) lo hi H Q := by
  refine ⟨a, xs, rfl, .inl (.inl h), fun w => ?_, fun w p n => ?_⟩
  · exact k a H (Same.refl H) (by rw [cut_whole w]; exact h)
  · exact k p _ (same_upd n) upd_same
theorem catT_any {a b : Addr} {xs ys : List V} (h1 : H a = some (.tup xs)) (h2 : H b = some (.tup ys)) (hl : xs.length + ys.length ≤ 20000) (k : ∀ (p : Addr) (H1 : Hp), Same H H1 → H1 p = some (.tup (xs ++ ys)) → Q (.ref p) H1) : rCatA K (.ref a) (.ref b) H Q := by
  refine ⟨a, b, xs, ys, rfl, rfl, .inl (.inl h1), .inl (.inl h2), small20 hl, fun e => ?_, fun _ e => ?_, fun _ _ p n => ?_⟩
  · subst e
    exact k b H (Same.refl H) h2
  · subst e
    exact k a H (Same.refl H) (by rw [List.append_nil]; exact h1)
  · exact k p _ (same_upd n) upd_same
end
theorem DaAll.take {H : Hp} : ∀ {vs : List V} {ds : List PyData} (n : Nat), DaAll H vs ds → DaAll H (vs.take n) (ds.take n)
  | _, _, 0, _ => .nil
  | _, _, n + 1, .nil => .nil
  | _, _, n + 1, .cons h t => .cons h (DaAll.take n t)
theorem DaAll.drop {H : Hp} : ∀ {vs : List V} {ds : List PyData} (n : Nat), DaAll H vs ds → DaAll H (vs.drop n) (ds.drop n)
  | _, _, 0, h => h
  | _, _, n + 1, .nil => .nil
  | _, _, n + 1, .cons _ t => DaAll.drop n t
def mkS (isL : Bool) (ds : List PyData) : PyData := if isL = true then .list ds else .tuple ds
theorem hidS {a : Addr} {H H1 : Hp} (g : Same H H1) : ∀ b o, hid a H b = some o → hid a H1 b = some o := fun b o e => by
  obtain ⟨h1, h2⟩ := of_hid e
  exact hid_of (g _ _ h1) h2
theorem hdaS {a : Addr} {H H1 : Hp} (g : Same H H1) {v : V} {d : PyData} (h : Da (hid a H) v d) : Da (hid a H1) v d := h.keep fun b o e _ => hidS g b o e
theorem hallS {a : Addr} {H H1 : Hp} (g : Same H H1) {v : List V} {d : List PyData} (h : DaAll (hid a H) v d) : DaAll (hid a H1) v d := h.keep fun b o e _ => hidS g b o e
def spPut : Sp := fun vs H Q _ => ∃ (a l : Addr) (x b c : Int) (v : V) (i m : Nat) (ns : List V) (ds es : List PyData) (isL : Bool), vs = [v, .int i, .int m, .ref l] ∧ Pot H a x b c ∧ Da (hid a H) v (mkS isL ds) ∧ H l = some (.lst ns) ∧ DaAll (hid a H) ns es ∧
  i ≤ ds.length ∧ m ≤ 1 ∧ ds.length ≤ 5000 ∧ es.length ≤ 5000 ∧ ∀ (v' : V) (H' : Hp), Same H H' → Da (hid a H') v' (mkS isL (ds.take i ++ es ++ ds.drop (i + m))) → Q v' H'
section
variable {P : Program} {w : World} {K : PySem.W.Frag} {mg : Str → Option Value} {base : Heap}
end
end K65
set_option Elab.async false
set_option linter.all false
set_option maxRecDepth 100000
set_option maxHeartbeats 4000000
/-! truths among whole numbers; a text many times; a tuple backwards -/
namespace Ld
open PySem PySem.Spec PyProof.Rows L2
section
variable {X : Cx}
theorem op_add_bi : OpR X (binaryOp .Add) (fun x y H Q => ∃ k j, x = .bl k ∧ y = .int j ∧ Q (.int (b2i k + j)) H) := by
  intro pins s σ H x y v u Q I rx ry h
  obtain ⟨k, j, rfl, rfl, q⟩ := h
  obtain ⟨t, rfl⟩ := ry
  cases rx
  exact PySem.IntBool.add_bool_int ⟨.int (b2i k + j), H, I.tok _, ⟨_, rfl⟩, q⟩
theorem op_sub_bi : OpR X (binaryOp .Sub) (fun x y H Q => ∃ k j, x = .bl k ∧ y = .int j ∧ Q (.int (b2i k - j)) H) := by
  intro pins s σ H x y v u Q I rx ry h
  obtain ⟨k, j, rfl, rfl, q⟩ := h
  obtain ⟨t, rfl⟩ := ry
  cases rx
  exact PySem.IntBool.sub_bool_int ⟨.int (b2i k - j), H, I.tok _, ⟨_, rfl⟩, q⟩
theorem op_sub_ib : OpR X (binaryOp .Sub) (fun x y H Q => ∃ i k, x = .int i ∧ y = .bl k ∧ Q (.int (i - b2i k)) H) := by
  intro pins s σ H x y v u Q I rx ry h
  obtain ⟨i, k, rfl, rfl, q⟩ := h
  obtain ⟨t, rfl⟩ := rx
  cases ry
  exact PySem.IntBool.sub_int_bool ⟨.int (i - b2i k), H, I.tok _, ⟨_, rfl⟩, q⟩
theorem op_eq_bi : OpR X (compareOp .Eq) (fun x y H Q => ∃ k j, x = .bl k ∧ y = .int j ∧ Q (.bl (b2i k == j)) H) := by
  intro pins s σ H x y v u Q I rx ry h
  obtain ⟨k, j, rfl, rfl, q⟩ := h
  obtain ⟨t, rfl⟩ := ry
  cases rx
  exact PySem.EqBoolInt.eq_bool_int ⟨.bl (b2i k == j), H, I, rfl, q⟩
theorem call_str_bool : CallR X (.type "str") (fun xs H Q => ∃ k, xs = [.bl k] ∧ Q (.str (if k then "True" else "False")) H) := by
  intro pins s σ H xs us Q I r h
  obtain ⟨k, rfl, q⟩ := h
  obtain ⟨u, rfl, ru⟩ := vals1 r
  cases ru
  exact PySem.P.str_of_bool ⟨.str _, H, I.tok _, ⟨_, rfl⟩, q⟩
/-- a text, eight times -/
def rep8 (x : Str) : Str := ⟨(List.replicate 8 x.cps).foldl (· ++ ·) #[]⟩
theorem rep8_cps (x : Str) : (rep8 x).cps = x.cps ++ x.cps ++ x.cps ++ x.cps ++ x.cps ++ x.cps ++ x.cps ++ x.cps := by
  show #[] ++ x.cps ++ x.cps ++ x.cps ++ x.cps ++ x.cps ++ x.cps ++ x.cps ++ x.cps = _
  rw [Array.empty_append]
theorem rep8_len (x : Str) : (rep8 x).length = 8 * x.length := by
  show (rep8 x).cps.size = 8 * x.cps.size
  rw [rep8_cps]
  simp only [Array.size_append]
  omega
def r8 (x : Str) : Str := if x.length = 0 then x else rep8 x
theorem r8_len (x : Str) : (r8 x).length = 8 * x.length := by
  unfold r8
  split
  · omega
  · exact rep8_len x
theorem r8_mem {x : Str} {c : Nat} (h : c ∈ (r8 x).cps.toList) : c ∈ x.cps.toList := by
  unfold r8 at h
  split at h
  · exact h
  · rw [rep8_cps] at h
    simpa using h
def rRep8 : R2 := fun x y H Q => ∃ z, x = .str z ∧ y = .int 8 ∧ z.length ≤ 27000 ∧ Q (.str (r8 z)) H
theorem op_rep8 : OpR X (binaryOp .Mult) rRep8 := by
  intro pins s σ H x y v u Q I rx ry h
  obtain ⟨z, rfl, rfl, h3, q⟩ := h
  obtain ⟨t, rfl⟩ := rx
  obtain ⟨t', rfl⟩ := ry
  unfold r8 at q
  have hs : 220000 ≤ sizeLine := by decide
  refine PySem.P.mul_str (by decide) (fun _ _ => ?_) (fun _ _ => ?_) ?_
  · have e : ((2 : Int) ^ 63 - 1) / 8 = 1152921504606846975 := by decide
    rw [e]
    omega
  · show decide (z.length * Int.toNat 8 > sizeLine) = false
    refine decide_eq_false ?_
    have e : Int.toNat 8 = 8 := rfl
    rw [e]
    omega
  · rw [if_neg (by decide)]
    by_cases hz : z.length = 0
    · rw [if_pos (by rw [hz]; simp)]
      rw [if_pos hz] at q
      exact ⟨.str z, H, I, ⟨_, rfl⟩, q⟩
    · rw [if_neg (by simpa using hz)]
      rw [if_neg hz] at q
      refine ⟨?_, .str (rep8 z), H, I.tok _, ⟨_, rfl⟩, q⟩
      show (rep8 z).length ≤ sizeLine
      rw [rep8_len]
      omega
end
/-! ### t[::-1] -/
section
variable {prog : Program} {w : World} {A : Around} {E : Value → Shared → Prop} {s : Shared}
theorem back_pick (xs : Array Value) : ((List.range xs.size).filterMap fun (k : Nat) => xs[((xs.size : Int) - 1 + (k : Int) * (-1)).toNat]?).toArray = xs.toList.reverse.toArray := by
  have e : ((List.range xs.size).filterMap fun (k : Nat) => xs[((xs.size : Int) - 1 + (k : Int) * (-1)).toNat]?) = xs.toList.reverse := by
    have h : ∀ n, n ≤ xs.size → ((List.range n).filterMap fun (k : Nat) => xs[((xs.size : Int) - 1 + (k : Int) * (-1)).toNat]?) = xs.toList.reverse.take n := by
      intro n
      induction n with
      | zero => intro _; simp
      | succ n ih =>
        intro hn
        rw [List.range_succ, List.filterMap_append, ih (by omega)]
        have e1 : ((xs.size : Int) - 1 + (n : Int) * (-1)).toNat = xs.size - 1 - n := by omega
        have e2 : xs.size - 1 - n < xs.size := by omega
        have e3 : xs.toList.reverse[n]? = some xs[xs.size - 1 - n] := by
          rw [List.getElem?_reverse (by simpa using (show n < xs.size by omega))]
          simp [e2]
        rw [List.take_add_one, e3]
        simp only [List.filterMap_cons, List.filterMap_nil, e1, Array.getElem?_eq_getElem e2, Option.toList_some]
    rw [h xs.size (Nat.le_refl _), List.take_of_length_le (by simp)]
  rw [e]
theorem applied_back {sl : Addr} {vl vu vs : Value} {n : Nat} {Q : Int × Int × Nat → Shared → Prop} (hs : s.heap.IsSliceOf sl vl vu vs) (pl : IsPart vl none) (pu : IsPart vu none) (ps : IsPart vs (some (-1)))
    (h : Q ((n : Int) - 1, -1, n) s) : wpAny (model prog w) A (Builtin.Slice.sliceApplied (.ref sl) (pure (n : Int))) Q E s := by
  obtain ⟨os, hos, hcs, hds⟩ := id hs
  unfold Builtin.Slice.sliceApplied Builtin.Slice.sliceFields
  refine wpAny_bind (wpAny_bind (wpAny_field hos hds (x := vl) rfl (wpAny_bind (wpAny_field hos hds (x := vu) rfl (wpAny_bind (wpAny_field hos hds (x := vs) rfl (wpAny_pure ?_)))))))
  refine wpAny_bind (HT.slicePart_ ps ?_)
  show wpAny _ _ (if ((-1 : Int) == 0) = true then _ else _) _ _ s
  rw [if_neg (by decide)]
  refine wpAny_bind (HT.slicePart_ pl (wpAny_bind (HT.slicePart_ pu (wpAny_bind (wpAny_pure ?_)))))
  have e : Builtin.Slice.slicePlaces ((n : Int) - 1) (-1) (-1) = n := by
    unfold Builtin.Slice.slicePlaces
    rw [if_neg (by decide)]
    by_cases hn : n = 0
    · subst hn
      rfl
    · rw [if_pos (by omega)]
      have this : ((n : Int) - 1 - -1 - 1) / (- -1) + 1 = n := by
        have e1 : (- -1 : Int) = 1 := by decide
        rw [e1, Int.ediv_one]
        omega
      rw [this]
      exact Int.toNat_natCast n
  show wpAny _ _ (pure ((n : Int) - 1, (-1 : Int), Builtin.Slice.slicePlaces ((n : Int) - 1) (-1) (-1))) _ _ s
  rw [e]
  exact wpAny_pure h
theorem getItem_tuple_back {t sl : Addr} {items : Array Value} {vl vu vs : Value} {Q : Value → Shared → Prop} (ht : IsTup s.heap t items) (hs : s.heap.IsSliceOf sl vl vu vs) (pl : IsPart vl none) (pu : IsPart vu none) (ps : IsPart vs (some (-1)))
    (h : Q (.ref s.heap.objs.size) { s with heap := s.heap.push { cls := .type "tuple", data := .seq items.toList.reverse.toArray } }) (hsz : items.size ≤ sizeLine) : wpAny (model prog w) A (getItem (.ref t) (.ref sl)) Q E s := by
  have hfit : sizeOk (.seq items.toList.reverse.toArray) := by
    show items.toList.reverse.toArray.size ≤ sizeLine
    rw [List.size_toArray, List.length_reverse, Array.length_toList]
    exact hsz
  obtain ⟨os, hos, hcs, hds⟩ := id hs
  have hTs : s.TypeIs (.ref sl) "slice" := ⟨os, hos, hcs⟩
  unfold getItem
  try with_reducible refine wpAny_holding ?_
  first | refine wpAny_bind (wpAny_pure ?_) | skip
  refine wpAny_bind (wpAny_sequenceKey ht.typeIs (by decide) ?_)
  refine wpAny_bind (wpAny_callSpecial?_slot (name := Str.ofString "__getitem__") ht.typeIs PyProof.Rows.slot_tuple_getitem
    (wpAny_call_entry PyProof.Rows.slot_tuple_getitem ht.typeIs entry_tuple_getitem ?_ (args_tuple_getitem _ _)))
  show wpAny _ _ (Builtin.Tuple.tupleItemsOf (.ref t) >>= _) _ _ s
  refine wpAny_bind (tupleItemsOf_ ht ?_)
  refine wpAny_bind (wpAny_typeOf hTs ?_)
  rw [if_pos (by decide)]
  refine wpAny_bind (applied_back hs pl pu ps ?_)
  have hno : ¬ ((((items.size : Int) - 1) == 0 && (-1 : Int) == 1 && items.size == items.size) = true) := by
    intro q
    rw [Bool.and_eq_true, Bool.and_eq_true] at q
    exact absurd q.1.2 (by decide)
  show wpAny _ _ (if (((items.size : Int) - 1) == 0 && (-1 : Int) == 1 && items.size == items.size) = true then _ else _) _ _ s
  rw [if_neg hno, back_pick]
  first
    | exact wpAny_bind (m := Builtin.Tuple.tupleExact _) (wpAny_newObj_type (wpAny_pure ⟨_, rfl, wpAny_pure h⟩) hfit)
    | exact wpAny_bind (wpAny_bind (m := Builtin.Tuple.tupleExact _) (wpAny_newObj_type (wpAny_pure ⟨_, rfl, wpAny_pure h⟩) hfit))
end
section
variable {X : Cx}
/-- x[::-1], a list's or a tuple's -/
def tRevS (K : PySem.W.Frag) (te : TE) : TE := fun σ H Q => te σ H fun x H1 => ∃ a xs, x = .ref a ∧ ((SqL K H1 a xs ∧ ∀ p, H1 p = none → Q (.ref p) (upd H1 p (.lst xs.reverse))) ∨ (SqT K H1 a xs ∧ ∀ p, H1 p = none → Q (.ref p) (upd H1 p (.tup xs.reverse))))
theorem pe_revS {e : Expr} {te : TE} {k : Nat} {p1 p2 p3 pos : Pos} (he : PE X e te) : PE X (.Subscript e (.Slice none none (some (.UnaryOp .USub (.Constant (.int 1) k p1) p2)) p3) pos) (tRevS X.K te) := by
  refine ⟨fun pins s σ H Q I h => ?_⟩
  have back : PO X (some (.UnaryOp .USub (.Constant (.int 1) k p1) p2)) (tPart (tUn (rU fun i => .int (-i)) (tC (.int 1)))) := po_some (pe_un un_neg pe_int)
  refine Subscript_ (thn (he.run pins s σ H _ I h) fun v s1 hv => ?_)
  obtain ⟨x, H1, I1, r1, a, xs, ex, q⟩ := hv
  subst ex
  cases r1
  refine wpAny_Slice (thn (po_none.run pins s1 σ H1 (fun o G => o = none ∧ G = H1) I1 ⟨rfl, rfl⟩) fun vl s2 h2 => ?_)
  obtain ⟨l, H2, I2, pl, el, e2⟩ := h2
  subst el e2
  refine thn (po_none.run pins s2 σ H2 (fun o G => o = none ∧ G = H2) I2 ⟨rfl, rfl⟩) fun vu s3 h3 => ?_
  obtain ⟨u, H3, I3, pu, eu, e3⟩ := h3
  subst eu e3
  refine thn (back.run pins s3 σ H3 (fun o G => o = some (-1) ∧ G = H3) I3 ⟨1, rfl, -1, rfl, rfl, rfl⟩) fun vs s4 h4 => ?_
  obtain ⟨o, H4, I4, ps, eo, e4⟩ := h4
  subst eo e4
  have I5 : Inv X pins σ H4 { s4 with heap := s4.heap.push { cls := .type "slice", data := .fields #[vl, vu, vs] } } := I4.kept (t' := s4.toks) fun b ob z => Heap.get?_push_of_some _ z
  show wpAny _ X.A (subscriptTail e (.Slice none none (some (.UnaryOp .USub (.Constant (.int 1) k p1) p2)) p3) (.ref a) (.ref s4.heap.objs.size)) _ X.xe { s4 with heap := s4.heap.push { cls := .type "slice", data := .fields #[vl, vu, vs] } }
  rcases q with ⟨hx, q⟩ | ⟨hx, q⟩
  · obtain ⟨its, r, ht, hz⟩ := I5.list hx
    have hlen := r.length
    refine tail_any (ops := [.ref a, .ref s4.heap.objs.size]) ht.isList.typeIs (PySem.slot_list_getitem.lookup) ?_ (by with_unfolding_all rfl)
    refine wpAny_getItem_list_slice ht.isList (Heap.IsSliceOf.new _ vl vu vs) pl pu ps (by decide) ?_ (by rw [List.size_toArray]; omega)
    rw [PySem.W.krv_pick]
    refine ⟨.ref _, _, I5.laid (t' := s4.toks) (o := .lst xs.reverse) (fun b ob z => Heap.get?_push_of_some _ z) (Nat.le_refl _) ?_, rfl, q _ (I5.hok.fresh (Nat.le_refl _))⟩
    exact ⟨by rw [List.length_reverse]; exact hz, _, 0, r.reverse, Heap.get?_push_size _ rfl⟩
  · obtain ⟨its, r, ht, hz⟩ := I5.tuple hx
    have hlen := r.length
    refine tail_any (ops := [.ref a, .ref s4.heap.objs.size]) ht.typeIs PyProof.Rows.slot_tuple_getitem.lookup ?_ (by with_unfolding_all rfl)
    refine getItem_tuple_back ht (Heap.IsSliceOf.new _ vl vu vs) pl pu ps ?_ (by rw [List.size_toArray]; omega)
    refine ⟨.ref _, _, I5.laid (t' := s4.toks) (o := .tup xs.reverse) (fun b ob z => Heap.get?_push_of_some _ z) (Nat.le_refl _) ?_, rfl, q _ (I5.hok.fresh (Nat.le_refl _))⟩
    refine ⟨by rw [List.length_reverse]; exact hz, its.reverse, r.reverse, ?_⟩
    exact ⟨_, Heap.get?_push_size _ rfl, rfl, 0, by simp⟩
end
end Ld
set_option Elab.async false
set_option linter.all false
set_option maxRecDepth 100000
set_option maxHeartbeats 4000000
namespace K65
open PySem L2 Ld GxR
/-! data with small leaves -/
mutual
def lf (B : Nat) : PyData → Bool
  | .none | .bool _ => true
  | .int i => decide (i.natAbs ≤ B)
  | .str x => x.cps.toList.all fun c => decide (c < 128)
  | .list xs | .tuple xs => lfAll B xs
  | .dict kvs => PyData.showableKv kvs && PyData.leavesShortKv 600 kvs
def lfAll (B : Nat) : List PyData → Bool
  | [] => true
  | x :: xs => lf B x && lfAll B xs
end
theorem lfAll_iff {B : Nat} : ∀ {xs : List PyData}, lfAll B xs = true ↔ ∀ e ∈ xs, lf B e = true
  | [] => by simp [lfAll]
  | x :: xs => by
    simp only [lfAll, Bool.and_eq_true, lfAll_iff (xs := xs), List.mem_cons, forall_eq_or_imp]
theorem wAll_app : ∀ (xs ys : List PyData), PyData.weightAll (xs ++ ys) = PyData.weightAll xs + PyData.weightAll ys
  | [], ys => by simp [PyData.weightAll]
  | x :: xs, ys => by
    simp only [List.cons_append, PyData.weightAll, wAll_app xs ys]
    omega
theorem wAll_cut (xs : List PyData) (i : Nat) : PyData.weightAll (xs.take i) + PyData.weightAll (xs.drop i) = PyData.weightAll xs := by
  rw [← wAll_app, List.take_append_drop]
theorem wAll_rev : ∀ (xs : List PyData), PyData.weightAll xs.reverse = PyData.weightAll xs
  | [] => rfl
  | x :: xs => by
    rw [List.reverse_cons, wAll_app, wAll_rev xs]
    simp only [PyData.weightAll]
    omega
theorem wAll_mem : ∀ {xs : List PyData} {e : PyData}, e ∈ xs → e.weight + 1 ≤ PyData.weightAll xs
  | x :: xs, e, h => by
    simp only [PyData.weightAll]
    rcases List.mem_cons.mp h with rfl | h
    · omega
    · have := wAll_mem h
      omega
theorem wAll_len : ∀ (xs : List PyData), xs.length ≤ PyData.weightAll xs
  | [] => Nat.le_refl _
  | x :: xs => by
    have := wAll_len xs
    simp only [PyData.weightAll, List.length_cons]
    omega
theorem dAll_iff {k : Nat} : ∀ {xs : List PyData}, PyData.depthAll xs ≤ k ↔ ∀ e ∈ xs, e.depth ≤ k
  | [] => by simp [PyData.depthAll]
  | x :: xs => by
    simp only [PyData.depthAll, List.mem_cons, forall_eq_or_imp, ← dAll_iff (xs := xs)]
    omega
mutual
theorem lf_mono {B B' : Nat} (h : B ≤ B') : ∀ (d : PyData), lf B d = true → lf B' d = true
  | .none, _ => rfl
  | .bool _, _ => rfl
  | .int i, e => by
    have e' : i.natAbs ≤ B := of_decide_eq_true e
    exact decide_eq_true (Nat.le_trans e' h)
  | .str x, e => e
  | .list xs, e => lfAll_mono h xs e
  | .tuple xs, e => lfAll_mono h xs e
  | .dict kvs, e => e
theorem lfAll_mono {B B' : Nat} (h : B ≤ B') : ∀ (xs : List PyData), lfAll B xs = true → lfAll B' xs = true
  | [], _ => rfl
  | x :: xs, e => by
    have e' : (lf B x && lfAll B xs) = true := e
    rw [Bool.and_eq_true] at e'
    show (lf B' x && lfAll B' xs) = true
    rw [lf_mono h x e'.1, lfAll_mono h xs e'.2]
    rfl
end
def big : Nat := 10 ^ 540
theorem int_len {i : Int} (h : i.natAbs ≤ big) : (Str.ofString (toString i)).length ≤ 560 := by
  have hb : i.natAbs < 10 ^ 545 := Nat.lt_of_le_of_lt h (by decide +kernel)
  rcases Int.lt_or_le i 0 with h0 | h0
  · obtain ⟨n, rfl⟩ : ∃ n : Nat, i = Int.negSucc n := by
      cases i with
      | ofNat n => exact absurd h0 (by simp)
      | negSucc n => exact ⟨n, rfl⟩
    have e : (toString (Int.negSucc n) : String) = "-" ++ toString ((n + 1 : Nat) : Int) := rfl
    rw [e]
    have q := PyProof.Rows.toString_length_le (v := ((n + 1 : Nat) : Int)) (by omega) (k := 545) (by decide) (by
      have : (n + 1 : Nat) < 10 ^ 545 := hb
      exact_mod_cast this)
    have ea : (Str.ofString ("-" ++ toString ((n + 1 : Nat) : Int))).length = 1 + (Str.ofString (toString ((n + 1 : Nat) : Int))).length := by
      rw [PyProof.Rows.ofString_length, PyProof.Rows.ofString_length]
      simp [Nat.add_comm]
    omega
  · obtain ⟨n, rfl⟩ : ∃ n : Nat, i = (n : Int) := ⟨i.toNat, by omega⟩
    have q := PyProof.Rows.toString_length_le (v := (n : Int)) (by omega) (k := 545) (by decide) (by
      have : n < 10 ^ 545 := hb
      exact_mod_cast this)
    omega
theorem int_show {i : Int} (h : i.natAbs ≤ big) : i.natAbs.log2 < 1920 := by
  have hb : i.natAbs < 2 ^ 1800 := Nat.lt_of_le_of_lt h (by decide +kernel)
  exact Nat.lt_trans (PySem.Flt.log2_lt_of (by decide) hb) (by decide)
mutual
theorem lf_show : ∀ (d : PyData), lf big d = true → d.showable = true ∧ d.leavesShort 600 = true
  | .none, _ => ⟨rfl, rfl⟩
  | .bool _, _ => ⟨rfl, rfl⟩
  | .int i, e => by
    have e' : i.natAbs ≤ big := of_decide_eq_true e
    exact ⟨decide_eq_true (int_show e'), decide_eq_true (Nat.le_trans (int_len e') (by decide))⟩
  | .str x, e => by
    refine ⟨rfl, ?_⟩
    have e' : (x.cps.toList.all fun c => decide (c < 128)) = true := e
    show (x.cps.toList.all fun c => decide (c < 16 ^ 8)) = true
    rw [List.all_eq_true] at e' ⊢
    intro c hc
    have := of_decide_eq_true (e' c hc)
    exact decide_eq_true (by omega)
  | .list xs, e => lfAll_show xs e
  | .tuple xs, e => lfAll_show xs e
  | .dict kvs, e => by
    have e' : (PyData.showableKv kvs && PyData.leavesShortKv 600 kvs) = true := e
    rw [Bool.and_eq_true] at e'
    exact e'
theorem lfAll_show : ∀ (xs : List PyData), lfAll big xs = true → PyData.showableAll xs = true ∧ PyData.leavesShortAll 600 xs = true
  | [], _ => ⟨rfl, rfl⟩
  | x :: xs, e => by
    have e' : (lf big x && lfAll big xs) = true := e
    rw [Bool.and_eq_true] at e'
    obtain ⟨a1, a2⟩ := lf_show x e'.1
    obtain ⟨b1, b2⟩ := lfAll_show xs e'.2
    refine ⟨?_, ?_⟩
    · show (x.showable && _) = true
      rw [a1, b1]
      rfl
    · show (x.leavesShort 600 && _) = true
      rw [a2, b2]
      rfl
end
structure Gd (B n k : Nat) (d : PyData) : Prop where
  lf : lf B d = true
  w : d.weight ≤ n
  dp : d.depth ≤ k
theorem odd_gd {d : PyData} (h : d ∈ oddD) : Gd (10 ^ 9) 60 6 d := by
  have q : (oddD.all fun d => lf (10 ^ 9) d && decide (d.weight ≤ 60) && decide (d.depth ≤ 6)) = true := by decide +kernel
  have := List.all_eq_true.mp q d h
  simp only [Bool.and_eq_true, decide_eq_true_eq] at this
  exact ⟨this.1.1, this.1.2, this.2⟩
theorem Gd.sm {n k : Nat} {d : PyData} (g : Gd big n k d) (hn : n ≤ 20000) (hk : k ≤ 32) : Sm d = true := by
  obtain ⟨h1, h2⟩ := lf_show d g.lf
  have h3 := g.w
  have h4 := g.dp
  unfold Sm
  simp only [Bool.and_eq_true, decide_eq_true_eq]
  exact ⟨⟨⟨h1, h2⟩, by omega⟩, by omega⟩
theorem Gd.mono {B n k B' n' k' : Nat} {d : PyData} (g : Gd B n k d) (h1 : B ≤ B') (h2 : n ≤ n') (h3 : k ≤ k') : Gd B' n' k' d := ⟨lf_mono h1 d g.lf, Nat.le_trans g.w h2, Nat.le_trans g.dp h3⟩
end K65
set_option Elab.async false
set_option linter.all false
set_option maxRecDepth 100000
set_option maxHeartbeats 4000000
namespace K65
open PySem L2 Ld GxR
theorem kit_lt {K : PySem.W.Frag} {T : String} (h : K7 T) : PySem.W.kitAny K (.type T) [.type "list", .type "tuple"] = some (decide (T = "list") || decide (T = "tuple")) := by
  cases h <;> rfl
theorem kit_int {K : PySem.W.Frag} {T : String} (h : K7 T) : PySem.W.kitOne K (.type T) (.type "int") = some (decide (T = "int") || decide (T = "bool")) := by
  cases h <;> rfl
def spOther : Sp := fun vs H Q _ => ∃ (a : Addr) (x b c : Int) (v : V) (d : PyData) (B n k : Nat), vs = [.ref a, v] ∧ Pot H a x b c ∧ (0 ≤ b ∧ b < 2 ^ 200) ∧ (0 ≤ c ∧ c < 2 ^ 58) ∧ Da (hid a H) v d ∧ Gd B n k d ∧ (10 ^ 9 ≤ B ∧ B + 1 ≤ big) ∧ n ≤ 2400 ∧
  ∀ (v' : V) (d' : PyData) (H' : Hp) (x' c' : Int), Da (hid a H') v' d' → Gd (B + 1) (8 * n + 200) (k + 8) d' → Pot H' a x' b c' → c ≤ c' → c' ≤ c + 3 → Ka a H H' → Q v' H'
/-- one of a list of things that are all good -/
def Goods (B n k : Nat) (ds : List PyData) : Prop := ∀ e ∈ ds, Gd B n k e
theorem Goods.nil {B n k : Nat} : Goods B n k [] := fun e h => absurd h (by simp)
theorem Goods.cons {B n k : Nat} {d : PyData} {ds : List PyData} (h : Gd B n k d) (t : Goods B n k ds) : Goods B n k (d :: ds) := fun e he => by
  rcases List.mem_cons.mp he with rfl | he
  · exact h
  · exact t e he
theorem Goods.app {B n k : Nat} {ds es : List PyData} (h : Goods B n k ds) (t : Goods B n k es) : Goods B n k (ds ++ es) := fun e he => by
  rcases List.mem_append.mp he with he | he
  · exact h e he
  · exact t e he
theorem pick {K : PySem.W.Frag} {H : Hp} {a p : Addr} {vs : List V} {ds : List PyData} {B n k : Nat} {r : Int} {Q : VK} (e : H p = some (.lst vs)) (h : DaAll (hid a H) vs ds) (g : Goods B n k ds) (h0 : 0 ≤ r) (h1 : r < ds.length)
    (q : ∀ v d, Da (hid a H) v d → Gd B n k d → Q v H) : rIxL K (.ref p) (.int r) H Q := by
  obtain ⟨v, d, hv, hd, hda⟩ := DaAll.some h (i := r.toNat) (by omega)
  refine ⟨p, vs, r, v, rfl, rfl, .inl (.inl e), ?_, q v d hda (g d (List.mem_of_getElem? hd))⟩
  have hl : r.toNat < vs.length := (List.getElem?_eq_some_iff.mp hv).1
  rw [at_nat h0 hl]
  rw [List.getElem?_eq_getElem hl] at hv
  exact hv
theorem gd_seq {B n k : Nat} {isL : Bool} {ds : List PyData} (h1 : ∀ e ∈ ds, lf B e = true) (h2 : PyData.weightAll ds ≤ n) (h3 : ∀ e ∈ ds, e.depth ≤ k) : Gd B n (k + 1) (mkS isL ds) := by
  have e1 := lfAll_iff.mpr h1
  have e3 := dAll_iff.mpr h3
  cases isL with
  | true => exact ⟨e1, h2, by show PyData.depth (.list ds) ≤ _; simp only [PyData.depth]; omega⟩
  | false => exact ⟨e1, h2, by show PyData.depth (.tuple ds) ≤ _; simp only [PyData.depth]; omega⟩
theorem gd_parts {B n k : Nat} {isL : Bool} {ds : List PyData} (g : Gd B n k (mkS isL ds)) : (∀ e ∈ ds, lf B e = true) ∧ PyData.weightAll ds ≤ n ∧ ∀ e ∈ ds, e.depth + 1 ≤ k := by
  obtain ⟨g1, g2, g3⟩ := g
  cases isL with
  | true =>
    refine ⟨lfAll_iff.mp g1, g2, fun e he => ?_⟩
    have g3 : PyData.depth (.list ds) ≤ k := g3
    simp only [PyData.depth] at g3
    have := (dAll_iff (k := k - 1)).mp (by omega) e he
    omega
  | false =>
    refine ⟨lfAll_iff.mp g1, g2, fun e he => ?_⟩
    have g3 : PyData.depth (.tuple ds) ≤ k := g3
    simp only [PyData.depth] at g3
    have := (dAll_iff (k := k - 1)).mp (by omega) e he
    omega
/-- what _law_put makes is good -/
theorem gd_put {B n k m : Nat} {isL : Bool} {ds es : List PyData} {i j : Nat} (g : Gd B n k (mkS isL ds)) (h : Goods B m (k + 6) es) (hw : PyData.weightAll es ≤ n + 100) : Gd B (8 * n + 200) (k + 8) (mkS isL (ds.take i ++ es ++ ds.drop (i + j))) := by
  obtain ⟨g1, g2, g3⟩ := gd_parts g
  have mem : ∀ e ∈ ds.take i ++ es ++ ds.drop (i + j), e ∈ ds ∨ e ∈ es := fun e he => by
    rcases List.mem_append.mp he with he | he
    · rcases List.mem_append.mp he with he | he
      · exact .inl (List.mem_of_mem_take he)
      · exact .inr he
    · exact .inl (List.mem_of_mem_drop he)
  refine (gd_seq (n := 8 * n + 200) (k := k + 7) (fun e he => ?_) ?_ fun e he => ?_)
  · rcases mem e he with he | he
    · exact g1 e he
    · exact (h e he).lf
  · rw [wAll_app, wAll_app]
    have c1 := wAll_cut ds i
    have c2 := wAll_cut ds (i + j)
    omega
  · rcases mem e he with he | he
    · have := g3 e he
      omega
    · have := (h e he).dp
      omega
end K65
set_option Elab.async false
set_option linter.all false
set_option maxRecDepth 100000
set_option maxHeartbeats 4000000
namespace K65
open PySem L2 Ld GxR
/-- the 'for any list or tuple' of what is laid -/
theorem sq_da {K : PySem.W.Frag} {H : Hp} {v : V} {d : PyData} {ds : List PyData} {isL : Bool} (h : Da H v d) (e : d = mkS isL ds) : ∃ r xs, v = .ref r ∧ (SqL K H r xs ∨ SqT K H r xs) ∧ DaAll H xs ds ∧ (isL = true → H r = some (.lst xs)) ∧ (isL = false → H r = some (.tup xs)) := by
  cases isL with
  | true =>
    subst e
    cases h with
    | lst e hall => exact ⟨_, _, rfl, .inl (.inl (.inl e)), hall, fun _ => e, fun z => nomatch z⟩
  | false =>
    subst e
    cases h with
    | tup e hall => exact ⟨_, _, rfl, .inr (.inl (.inl e)), hall, fun z => (nomatch z), fun _ => e⟩
theorem rev_all {H : Hp} : ∀ {vs : List V} {ds : List PyData}, DaAll H vs ds → DaAll H vs.reverse ds.reverse
  | _, _, .nil => .nil
  | _, _, .cons h t => by
    rw [List.reverse_cons, List.reverse_cons]
    exact DaAll.snoc h (rev_all t)
theorem itT {c : Bool} {A B : Prop} (h : c = true) (q : A) : if c = true then A else B := by
  rw [if_pos h]
  exact q
theorem itF {c : Bool} {A B : Prop} (h : c = false) (q : B) : if c = true then A else B := by
  rw [if_neg (by rw [h]; decide)]
  exact q
theorem cut_all {H : Hp} {xs : List V} {ds : List PyData} (h : DaAll H xs ds) (lo hi : Option Int) : ∃ es, DaAll H (cutV xs lo hi) es ∧ PyData.weightAll es ≤ PyData.weightAll ds ∧ ∀ e ∈ es, e ∈ ds := by
  refine ⟨_, DaAll.take _ (DaAll.drop _ h), ?_, fun e he => List.mem_of_mem_drop (List.mem_of_mem_take he)⟩
  have c1 := wAll_cut ds (HT.sIx xs.length 0 lo)
  have c2 := wAll_cut (ds.drop (HT.sIx xs.length 0 lo)) (HT.sIx xs.length xs.length hi - HT.sIx xs.length 0 lo)
  omega
theorem up_ok {z : Str} (h : TxOk z) : TxOk (Txt.upper z) := by
  have all : ∀ c, c < 128 → ∀ e ∈ Unicode.upperOf c, e < 128 := by
    have q : ((List.range 128).all fun c => (Unicode.upperOf c).all fun e => decide (e < 128)) = true := by decide +kernel
    intro c hc e he
    exact of_decide_eq_true (List.all_eq_true.mp (List.all_eq_true.mp q c (List.mem_range.mpr hc)) e he)
  intro c hc
  have hc1 : c ∈ ((z.cps.mapIdx fun _ c => (Unicode.upperOf c).toArray).flatten).toList := hc
  rw [Array.mem_toList_iff, Array.mem_flatten] at hc1
  obtain ⟨row, h1, h2⟩ := hc1
  rw [Array.mem_mapIdx] at h1
  obtain ⟨i, hi, rfl⟩ := h1
  have h3 : z.cps[i] < 128 := h _ (by simp)
  exact all _ h3 c (by simpa using h2)
theorem cutS_len (z : Str) (lo hi : Option Int) : (cutS z lo hi).length ≤ z.length := by
  unfold cutS
  show Array.size _ ≤ z.cps.size
  simp only [List.size_toArray, List.length_take, List.length_drop, Array.length_toList]
  omega
theorem gd_str {B m k : Nat} {y : Str} (h : TxOk y) (hl : y.length ≤ m) : Gd B m k (.str y) :=
  ⟨List.all_eq_true.mpr fun c hc => decide_eq_true (h c hc), hl, by simp [PyData.depth]⟩
theorem tx_of {B n k : Nat} {y : Str} (h : Gd B n k (.str y)) : TxOk y := fun c hc => of_decide_eq_true (List.all_eq_true.mp (show (y.cps.toList.all fun c => decide (c < 128)) = true from h.lf) c hc)
theorem tx_lit {x : Str} (h : (x.cps.toList.all fun c => decide (c < 128)) = true) : TxOk x := fun c hc => of_decide_eq_true (List.all_eq_true.mp h c hc)
theorem gd_int {B m k : Nat} {j : Int} (h : j.natAbs ≤ B) (hB : B ≤ big) (hm : 1802 ≤ m) : Gd B m k (.int j) := by
  refine ⟨decide_eq_true h, ?_, by simp [PyData.depth]⟩
  show (if j == 0 then 0 else j.natAbs.log2 + 1) ≤ m
  have h1 : j.natAbs < 2 ^ 1800 := Nat.lt_of_le_of_lt (Nat.le_trans h hB) (by decide +kernel)
  have h2 := PySem.Flt.log2_lt_of (by decide : 0 < 1800) h1
  split <;> omega
theorem gd_bool {B m k : Nat} (b : Bool) : Gd B m k (.bool b) := ⟨rfl, Nat.zero_le _, by simp [PyData.depth]⟩
theorem gd_none {B m k : Nat} : Gd B m k .none := ⟨rfl, Nat.zero_le _, by simp [PyData.depth]⟩
theorem tx_int (i : Int) : TxOk (toString i) := fun c hc => by
  have hc1 : c ∈ (Str.ofString (toString i)).cps.toList := hc
  rw [Str.ofString_eq_toList] at hc1
  obtain ⟨ch, h1, rfl⟩ : ∃ ch ∈ (toString i).toList, ch.toNat = c := by simpa using hc1
  exact PySem.int_ascii i ch h1
theorem kinds (d : PyData) : (∃ isL ds, d = mkS isL ds) ∨ (∃ x, d = .str x) ∨ (∃ i, d = .int i) ∨ (∃ b, d = .bool b) ∨ (d = .none ∨ ∃ kvs, d = .dict kvs) := by
  cases d with
  | none => exact .inr (.inr (.inr (.inr (.inl rfl))))
  | bool b => exact .inr (.inr (.inr (.inl ⟨b, rfl⟩)))
  | int i => exact .inr (.inr (.inl ⟨i, rfl⟩))
  | str x => exact .inr (.inl ⟨x, rfl⟩)
  | list ds => exact .inl ⟨true, ds, rfl⟩
  | tuple ds => exact .inl ⟨false, ds, rfl⟩
  | dict kvs => exact .inr (.inr (.inr (.inr (.inr ⟨kvs, rfl⟩))))
section
variable {P : Program} {w : World} {K : PySem.W.Frag} {mg : Str → Option Value} {base : Heap}
end
end K65
set_option Elab.async false
set_option linter.all false
set_option maxRecDepth 100000
set_option maxHeartbeats 4000000
namespace K65
open PySem L2 Ld GxR
def spSpoilt (m : Nat) : Sp := fun vs H Q _ => ∃ (a : Addr) (x b c : Int) (v : V) (d : PyData) (B n k : Nat), vs = [.ref a, v, .int m] ∧ Pot H a x b c ∧ (0 ≤ b ∧ b < 2 ^ 200) ∧ (0 ≤ c ∧ c + 2 * m < 2 ^ 58) ∧ Da (hid a H) v d ∧ Gd B n k d ∧ (10 ^ 9 ≤ B ∧ B + 1 ≤ big) ∧ n ≤ 2400 ∧
  ∀ (v' : V) (d' : PyData) (H' : Hp) (x' c' : Int), Da (hid a H') v' d' → Gd (B + 1) (8 * n + 200) (k + 8) d' → Pot H' a x' b c' → c ≤ c' → c' ≤ c + 3 + 2 * m → Ka a H H' → Q v' H'
theorem gd_at {B n k j : Nat} {isL : Bool} {ds : List PyData} {e e' : PyData} (g : Gd B n k (mkS isL ds)) (he : ds[j]? = some e) (g' : Gd (B + 1) (8 * e.weight + 200) (k - 1 + 8) e') : Gd (B + 1) (8 * n + 200) (k + 8) (mkS isL (ds.take j ++ [e'] ++ ds.drop (j + 1))) := by
  obtain ⟨g1, g2, g3⟩ := gd_parts g
  have hj := (List.getElem?_eq_some_iff.mp he).1
  have hm : e ∈ ds := List.mem_of_getElem? he
  have hk := g3 e hm
  refine gd_seq (n := 8 * n + 200) (k := k + 7) (fun u hu => ?_) ?_ fun u hu => ?_
  · rcases List.mem_append.mp hu with hu | hu
    · rcases List.mem_append.mp hu with hu | hu
      · exact lf_mono (by omega) u (g1 u (List.mem_of_mem_take hu))
      · obtain rfl : u = e' := by simpa using hu
        exact g'.lf
    · exact lf_mono (by omega) u (g1 u (List.mem_of_mem_drop hu))
  · rw [wAll_app, wAll_app]
    have c1 := wAll_cut ds j
    have c2 : PyData.weightAll (ds.drop j) = e.weight + 1 + PyData.weightAll (ds.drop (j + 1)) := by
      rw [List.drop_eq_getElem_cons hj]
      have : ds[j] = e := by
        rw [List.getElem?_eq_getElem hj] at he
        exact Option.some.inj he
      rw [this]
      rfl
    have c3 := g'.w
    simp only [PyData.weightAll]
    omega
  · rcases List.mem_append.mp hu with hu | hu
    · rcases List.mem_append.mp hu with hu | hu
      · have := g3 u (List.mem_of_mem_take hu)
        omega
      · obtain rfl : u = e' := by simpa using hu
        have := g'.dp
        omega
    · have := g3 u (List.mem_of_mem_drop hu)
      omega
section
variable {P : Program} {w : World} {K : PySem.W.Frag} {mg : Str → Option Value} {base : Heap}
end
end K65
set_option Elab.async false
set_option linter.all false
set_option maxRecDepth 100000
set_option maxHeartbeats 4000000
namespace K65
open PySem L2 Ld GxR
abbrev s__law_premises : Stmt := topS 47
abbrev N__law_premises : List Str := ["pot", "places", "most"]
theorem sc__law_premises : FnScope N__law_premises ["pot", "places"] (defScope s__law_premises) := ⟨rfl, rfl, rfl, by decide +kernel, rfl, by decide +kernel, by decide +kernel⟩
/-- some of the places, eight at most -/
def spPrem (K : PySem.W.Frag) : Sp := fun vs H Q _ => ∃ (a l : Addr) (x b c : Int) (xs : List V), vs = [.ref a, .ref l] ∧ Pot H a x b c ∧ (0 ≤ b ∧ b < 2 ^ 200) ∧ (0 ≤ c ∧ c < 2 ^ 58) ∧ SqL K H l xs ∧ l ≠ a ∧ 1 ≤ xs.length ∧ xs.length ≤ 1000 ∧
  ∀ (D : Addr) (ys zs : List V) (H' : Hp) (x' c' : Int), (ys ++ zs).Perm xs → 1 ≤ ys.length → ys.length ≤ 8 → H D = none → H' D = some (.lst ys) → Pot H' a x' b c' → c ≤ c' → c' ≤ c + 10 → Ka a H H' → Q (.ref D) H'
section
variable {P : Program} {w : World} {K : PySem.W.Frag} {mg : Str → Option Value} {base : Heap}
theorem ok__law_premises {f fN fS : Addr} {fd fdN fdS : FuncData} (F : Fun K "_law_premises" "_law_premises" s__law_premises f fd) (G__law_dip : FnOk P w K mg base CX0 1 fN fdN ["pot", "many"] spDip) (g__law_dip : mg "_law_dip" = some (.ref fN)) (k__law_dip : PySem.W.keepIn K (.ref fN) = true)
    (b__law_dip : Binds K fdN ["pot", "many"] []) (G__law_some : FnOk P w K mg base CX0 2 fS fdS ["pot", "things", "most"] (spSome K)) (g__law_some : mg "_law_some" = some (.ref fS)) (k__law_some : PySem.W.keepIn K (.ref fS) = true) (b__law_some : Binds K fdS ["pot", "things", "most"] []) : FnOk P w K mg base CX0 3 f fd ["pot", "places"] (spPrem K) := by
  refine F.ok sc__law_premises (fun vs H Q E h => ?_) (fun cdv A outer s H vs Q E hr h => ?_)
  · obtain ⟨a, l, x, b, c, xs, rfl, _⟩ := h
    rfl
  · obtain ⟨a, l, x, b, c, xs, rfl, hp, hb, ⟨hc0, hc1⟩, hl, la, h1, h2, q⟩ := h
    refine ⟨_, (pss_cons (ps_set (i := 2) sc__law_premises.nd rfl (Or.inl rfl) (pe_ix ix_list (pe_lst (pa_cons pe_int (pa_cons pe_int (pa_cons pe_int (pa_cons pe_int (pa_cons pe_int pa_nil)))))) (pe_call G__law_dip (hr.mono (by decide)) (by rfl) g__law_dip k__law_dip b__law_dip .nil pass0 (pa_cons (pv 0) (pa_cons pe_int pa_nil))) (fun _ _ => rfl)))
  (pss_one (ps_ret (pe_call G__law_some (hr.mono (by decide)) (by rfl) g__law_some k__law_some b__law_some .nil pass0 (pa_cons (pv 0) (pa_cons (pv 1) (pa_cons (pv 2) pa_nil))))))), ?_⟩
    refine ⟨small20 (Nat.le_of_ble_eq_true rfl), fun p1 n1 => ?_⟩
    have a1 : p1 ≠ a := pot_ne hp n1
    obtain ⟨H1, g1, e1, hq1⟩ := newH n1 (o := _)
    rw [hq1]
    refine ⟨_, rfl, a, x, b, c, 5, rfl, Same.pot g1 hp, hb, ⟨hc0, by omega⟩, ⟨by decide, by decide⟩, fun x2 c2 r u1 u2 u3 u4 => ?_⟩
    obtain ⟨H2, q2, k2, hq2⟩ := potH (a := a) x2 b c2 (H := H1)
    rw [hq2]
    have e2 := k2 _ _ a1 e1
    have hm : ∃ m : Int, atI [V.int 1, .int 2, .int 2, .int 3, .int 8] r = some (.int m) ∧ 1 ≤ m ∧ m ≤ 8 := by
      obtain h | h | h | h | h : r = 0 ∨ r = 1 ∨ r = 2 ∨ r = 3 ∨ r = 4 := by omega
      all_goals subst h
      · exact ⟨1, rfl, by decide, by decide⟩
      · exact ⟨2, rfl, by decide, by decide⟩
      · exact ⟨2, rfl, by decide, by decide⟩
      · exact ⟨3, rfl, by decide, by decide⟩
      · exact ⟨8, rfl, by decide, by decide⟩
    obtain ⟨m, hm0, hm1, hm2⟩ := hm
    refine ⟨p1, _, r, .int m, rfl, rfl, .inl (.inl e2), hm0, ?_⟩
    have hl2 : SqL K H2 l xs := sqL_keep (fun u e => k2 _ _ la e) (sqL_same g1 hl)
    refine ⟨_, rfl, _, rfl, _, rfl, a, l, x2, b, c2, m, xs, rfl, q2, hb, ⟨by omega, by omega⟩, hl2, h1, h2, ⟨hm1, by omega⟩, fun D ys zs H' x' c' y1 y2 y3 y4 y5 y6 y7 y8 y9 => ?_⟩
    have nD : H D = none := by
      cases e : H D with
      | none => rfl
      | some o =>
        by_cases z : D = a
        · rw [z] at y4
          rw [show H2 a = some _ from q2] at y4
          cases y4
        · rw [k2 _ _ z (g1 _ _ e)] at y4
          cases y4
    exact q D ys zs H' x' c' y1 y2 (by omega) nD y5 y6 (by omega) (by omega) ((Ka.of g1).trans (k2.trans y9))
end
end K65
set_option Elab.async false
set_option linter.all false
set_option maxRecDepth 100000
set_option maxHeartbeats 4000000
/-! the end of a law that is run at the caller itself (what runs around is known there), beside one table -/
namespace Ld
open PySem PySem.Spec PyProof.Rows L2 GxR
/-- what the run is told of, and what it has to come to -/
def RunsTrue (P : Program) (w : World) (K : PySem.W.Frag) (mg : Str → Option Value) (fa a c T : Addr) (ns : List Int) (s : Shared) : Prop :=
  ∀ (base : Heap) (H : Hp), K.In base → base.Ns mainGlobals mg → TabB base mg c T → Env0 P w K mg base callerA [] s H → H T = some (.tbl #[]) → SqL K H a (ns.map V.int) →
    codeAny (model P w) callerA (.call (.ref fa) ⟨[.ref a], []⟩) (CR CX0 [] P w H s (fun v _ => v = .bl true) fun _ _ _ => False) s
theorem no_mem {α : Type} {x : α} (h : x ∈ ([] : List α)) : False := by cases h
section
variable {P : Program} {w : World} {K : PySem.W.Frag} {mg mb : Str → Option Value} {fa a c T : Addr} {s : Shared} {vs : List Value} {ns : List Int}
/-- what is seen at the start: the table, and the script where it is no written one -/
structure Seen (K : PySem.W.Frag) (a T : Addr) (H : Hp) : Prop where
  tab : H T = some (.tbl #[])
  only : ∀ b u, H b = some u → b = T ∨ (b = a ∧ ∃ o xs, u = .frz o (.lst xs))
  out : H a ≠ none → K.lookup a = none
theorem seen_run (KX : K.In s.heap) (hns : s.heap.Ns mainGlobals mg) (hb : s.heap.Ns builtinsNs mb) (hbb : ∀ x : Str, x ≠ "__name__" → mb x = bootBuiltins x) (hlim : s.heap.NoLimit) (hg : s.gens = #[])
    (hT : s.heap.get? T = some { cls := .none, data := .fields #[] }) (nT : K.lookup T = none) (C : PySem.W.CodeHd s.heap c T)
    (hbm : ∃ (bm : Addr) (ob : Obj), mg "__builtins__" = some (.ref bm) ∧ bm ≠ builtinsNs ∧ s.heap.get? bm = some ob ∧ ob.cls = .type "module" ∧ ob.dict = some builtinsNs ∧ ob.data = .plain)
    (ha : s.heap.get? a = some { cls := .type "list", data := .seq vs.toArray }) (R : RunsTrue P w K mg fa a c T ns s) {H : Hp} (S : Seen K a T H) (hok : HOk P w H s.heap) (hS : SqL K H a (ns.map V.int)) :
    codeAny (model P w) callerA (.call (.ref fa) ⟨[.ref a], []⟩) (fun r s' => r = .ok (.ret (.bool true)) ∧ OldK s.heap s'.heap ∧ s'.os = s.os ∧ AllBare s'.gens) s := by
  -- an object that is neither a list nor an empty table is not seen
  have unseen : ∀ {b : Addr} {o : Obj}, s.heap.get? b = some o → (∀ ws n, o.data ≠ .seq ws n) → o.data ≠ .fields #[] → H b = none := fun {b o} e h1 h2 => by
    cases q : H b with
    | none => rfl
    | some u =>
      exfalso
      rcases S.only b u q with z | ⟨z, _⟩
      · rw [z, hT] at e
        cases e
        exact h2 rfl
      · rw [z, ha] at e
        cases e
        exact h1 _ _ rfl
  have unseenD : ∀ {b : Addr} {o : Obj} {es : Array DictEntry} {n : Nat}, s.heap.get? b = some o → o.data = .dict es n → (hidT s.heap H).get? b = some o := fun {b o es n} e d =>
    hidT_get e (unseen e (fun ws m z => by rw [d] at z; cases z) fun z => by rw [d] at z; cases z)
  have nsUp : ∀ {b : Addr} {m : Str → Option Value}, s.heap.Ns b m → (hidT s.heap H).Ns b m := fun {b m} ⟨o, es, n, e, d, r⟩ => ⟨o, es, n, unseenD e d, d, r⟩
  have kUp : K.In (hidT s.heap H) := fun b o e => hidT_get (KX b o e) (by
    cases q : H b with
    | none => rfl
    | some u =>
      exfalso
      rcases S.only b u q with z | ⟨z, _⟩
      · rw [z, nT] at e
        cases e
      · rw [z, S.out (by rw [← z, q]; exact fun y => nomatch y)] at e
        cases e)
  have tb : TabB (hidT s.heap H) mg c T := by
    refine ⟨?_, ?_, fun z => ?_⟩
    · obtain ⟨o, us, file, tf, flags, tg, inF, text, tt, e1, r1, r2, r3, r⟩ := C
      refine ⟨o, us, file, tf, flags, tg, inF, text, tt, hidT_get e1 (unseen e1 (fun ws n z => ?_) fun z => ?_), r1, r2, r3, r⟩
      · rw [r2] at z
        cases z
      · rw [r2] at z
        cases z
        simp at r3
    · obtain ⟨bm, ob, b1, b2, b3, b4, b5, b6⟩ := hbm
      refine ⟨bm, ob, b1, b2, fun z => ?_, fun z => ?_, hidT_get b3 (unseen b3 (fun ws n z => ?_) fun z => ?_), b4, b5, b6⟩
      · obtain ⟨o, es, n, e, d, _⟩ := hns
        rw [z, e] at b3
        cases b3
        rw [d] at b6
        cases b6
      · rw [z, hT] at b3
        cases b3
        cases b6
      · rw [b6] at z
        cases z
      · rw [b6] at z
        cases z
    · obtain ⟨o, es, n, e, d, _⟩ := hns
      rw [z, hT] at e
      cases e
      cases d
  have md : L2.Mod K mg (hidT s.heap H) := ⟨kUp, nsUp hns, ⟨mb, nsUp hb, hbb⟩, let ⟨mc, h1, h2⟩ := hlim; ⟨mc, nsUp h1, h2⟩⟩
  have e0 : Env0 P w K mg (hidT s.heap H) callerA [] s H := ⟨rfl, md, fun b o e => of_hidT e, Nat.le_of_eq (hidT_size _ _), trivial, fun b z => (no_mem (show b ∈ ([] : List Addr) from z)).elim, hok, .of_eq hg⟩
  refine codeAny_mono (R _ H kUp (nsUp hns) tb e0 S.tab hS) fun r s' h => ?_
  match r, h with
  | .error e, h => exact (show False from h).elim
  | .ok .next, h => exact False.elim h
  | .ok .brk, h => exact False.elim h
  | .ok .cont, h => exact False.elim h
  | .ok (.ret u), h =>
    obtain ⟨v, H', os, bare, un, hok', r', q⟩ := h
    obtain rfl : v = .bl true := q
    obtain rfl : u = Value.bool true := r'
    -- what stood stands as before, but for the table
    have old : ∀ b o, b ≠ T → s.heap.get? b = some o → s'.heap.get? b = some o := fun b o nb e => by
      cases q : H b with
      | none => exact un.keep b o e q (fun z => no_mem (show b ∈ ([] : List Addr) from z)) fun z => no_mem z
      | some u =>
        rcases S.only b u q with z | ⟨_, ob, xs, z⟩
        · exact absurd z nb
        · rw [z] at q
          obtain ⟨e1, _⟩ := hok b _ q
          obtain ⟨e2, _⟩ := hok' b _ (un.frzs b ob _ q)
          rw [e] at e1
          cases e1
          exact e2
    obtain ⟨more, hm⟩ : ∃ more : Array Value, s'.heap.get? T = some { cls := .none, data := .fields more } := by
      obtain ⟨more, z⟩ := un.tbls T #[] S.tab
      exact ⟨_, hok' T _ z⟩
    refine ⟨rfl, ⟨fun b o e => ?_, fun b o e => ?_⟩, os, bare⟩
    · by_cases hbT : b = T
      · subst hbT
        rw [hT] at e
        cases e
        exact .inr (.inl ⟨(C.tab hT).isCodeTable, rfl, #[], more, rfl, by rw [Array.empty_append]; exact hm⟩)
      · exact .inl (old b o hbT e)
    · by_cases hbT : b = T
      · subst hbT
        exact ⟨_, hm⟩
      · exact ⟨o, old b o hbT e⟩
theorem run_of_true (KX : K.In s.heap) (hns : s.heap.Ns mainGlobals mg) (hb : s.heap.Ns builtinsNs mb) (hbb : ∀ x : Str, x ≠ "__name__" → mb x = bootBuiltins x) (hlim : s.heap.NoLimit) (hg : s.gens = #[])
    (hT : s.heap.get? T = some { cls := .none, data := .fields #[] }) (nT : K.lookup T = none) (C : PySem.W.CodeHd s.heap c T)
    (hbm : ∃ (bm : Addr) (ob : Obj), mg "__builtins__" = some (.ref bm) ∧ bm ≠ builtinsNs ∧ s.heap.get? bm = some ob ∧ ob.cls = .type "module" ∧ ob.dict = some builtinsNs ∧ ob.data = .plain)
    (ha : s.heap.get? a = some { cls := .type "list", data := .seq vs.toArray }) (hi : IntsAre vs ns) (hl : ns.length ≤ sizeLine) (R : RunsTrue P w K mg fa a c T ns s) :
    codeAny (model P w) callerA (.call (.ref fa) ⟨[.ref a], []⟩) (fun r s' => r = .ok (.ret (.bool true)) ∧ OldK s.heap s'.heap ∧ s'.os = s.os ∧ AllBare s'.gens) s := by
  have rv := vals_ints hi
  have lv := hi.length
  have aT : a ≠ T := fun z => by
    rw [z, hT] at ha
    cases ha
  by_cases hk : K.lookup a = none
  · -- the script is seen as it stands
    refine seen_run KX hns hb hbb hlim hg hT nT C hbm ha R (H := fun b => if b = a then some (.frz { cls := .type "list", data := .seq vs.toArray } (.lst (ns.map V.int))) else if b = T then some (.tbl #[]) else none)
      ⟨(if_neg aT.symm).trans (if_pos rfl), fun b u e => ?_, fun _ => hk⟩ (fun b u e => ?_) (.inl (.inr ⟨_, if_pos rfl⟩))
    · by_cases z : b = a
      · exact .inr ⟨z, _, _, (Option.some.inj ((if_pos z).symm.trans e)).symm⟩
      · by_cases y : b = T
        · exact .inl y
        · exact absurd ((if_neg y).symm.trans ((if_neg z).symm.trans e)) (fun x => nomatch x)
    · by_cases z : b = a
      · have e' := Option.some.inj ((if_pos z).symm.trans e)
        subst e'
        rw [z]
        exact ⟨ha, by rw [List.length_map]; exact hl, vs, _, rv, ha⟩
      · by_cases y : b = T
        · have e' := Option.some.inj ((if_pos y).symm.trans ((if_neg z).symm.trans e))
          subst e'
          rw [y]
          exact hT
        · exact absurd ((if_neg y).symm.trans ((if_neg z).symm.trans e)) (fun x => nomatch x)
  · obtain ⟨o, ho⟩ := Option.ne_none_iff_exists'.mp hk
    have e := KX a o ho
    rw [ha] at e
    cases e
    refine seen_run KX hns hb hbb hlim hg hT nT C hbm ha R (H := fun b => if b = T then some (.tbl #[]) else none) ⟨if_pos rfl, fun b u e => ?_, fun z => absurd (if_neg aT) z⟩ (fun b u e => ?_)
      (.inr ⟨_, vs.toArray, _, ho, rfl, rfl, rfl, by rw [List.size_toArray, lv]; exact hl, by simpa using rv⟩)
    · by_cases y : b = T
      · exact .inl y
      · exact absurd ((if_neg y).symm.trans e) (fun x => nomatch x)
    · by_cases y : b = T
      · have e' := Option.some.inj ((if_pos y).symm.trans e)
        subst e'
        rw [y]
        exact hT
      · exact absurd ((if_neg y).symm.trans e) (fun x => nomatch x)
end
end Ld
set_option Elab.async false
set_option linter.all false
set_option maxRecDepth 100000
set_option maxHeartbeats 4000000
/-! all of a generator expression whose elements may do anything that PE tells (calls of defs too). -/
namespace Gx
open PySem PySem.Spec PyProof.Rows L2 GenW GxR

/-- the context of a generator expression's frame -/
abbrev gx (X : Cx) (A : Around) (N : List Str) (s : Shared) (H : Hp) (genv : Env) (fp : List Addr) : Cx :=
  { X with A := A.deeper genv, N := N, s_0 := s, H_0 := H, env := genv, outer := X.stack, stack := genv :: X.stack, ex := fp, fn := fun _ => false, calm := true, pn := [], xe := fun _ _ => False }
def capOk (N0 N : List Str) (scope : Scope) (cap : List (Option Nat)) : Bool := (cap.zip N).all fun p => match p.1 with
  | none => true
  | some k => N0[k]? == some p.2 && scope.names.lookup p.2 == some .free
structure GxOk (N0 N : List Str) (sc scope : Scope) (cap : List (Option Nat)) : Prop where
  kind : scope.kind = .function
  co : scope.isCoroutine = false
  cell : ∀ y ∈ scope.names, y.2 ≠ .cell
  dot : scope.names.lookup (".0" : Str) = some NameKind.local
  uniq : ∀ y ∈ scope.names, scope.names.lookup y.1 = some y.2
  free : ∀ y ∈ scope.names, y.2 = .free → sc.names.lookup y.1 = some .cell ∨ sc.names.lookup y.1 = some .free
  len : cap.length = N.length
  cap : capOk N0 N scope cap = true
/-- what the frame's names hold at its beginning: captured ones alone -/
def gx0 (cap : List (Option Nat)) (σ : L2.St) : L2.St := cap.map fun o => match o with
  | none => none
  | some k => (σ[k]?).join
theorem capOk_get {N0 N : List Str} {scope : Scope} {cap : List (Option Nat)} (h : capOk N0 N scope cap = true) {i k : Nat} {y : Str} (hN : N[i]? = some y) (hc : cap[i]? = some (some k)) : N0[k]? = some y ∧ scope.names.lookup y = some .free := by
  unfold capOk at h
  rw [List.all_eq_true] at h
  have hm : (some k, y) ∈ cap.zip N := by
    have e : (cap.zip N)[i]? = some (some k, y) := by
      rw [List.getElem?_zip_eq_some]
      exact ⟨hc, hN⟩
    exact List.mem_of_getElem? e
  have q := h _ hm
  simp only [Bool.and_eq_true, beq_iff_eq] at q
  exact q
theorem gx0_get {cap : List (Option Nat)} {σ : L2.St} {i : Nat} {v : V} (h : (gx0 cap σ)[i]? = some (some v)) : ∃ k, cap[i]? = some (some k) ∧ σ[k]? = some (some v) := by
  unfold gx0 at h
  rw [List.getElem?_map] at h
  cases e : cap[i]? with
  | none => rw [e] at h; cases h
  | some o =>
    rw [e] at h
    cases o with
    | none => simp at h
    | some k =>
      refine ⟨k, rfl, ?_⟩
      have h' : (σ[k]?).join = some v := by simpa using h
      cases e2 : σ[k]? with
      | none => rw [e2] at h'; cases h'
      | some u => rw [e2] at h'; cases u with
        | none => cases h'
        | some u => cases h'; rfl
section
variable {X : Cx} {pins : List (Addr × Obj)} {σ : L2.St} {H : Hp} {s : Shared}
theorem gx_start {N : List Str} {scope : Scope} {cap : List (Option Nat)} {fp : List Addr} {A : Around} {code : Value} {h' : Heap} {gs : Array GenState} {tk : Nat} {it : Value}
    (I : Inv X pins σ H s) (ok : GxOk X.N N X.env.scope scope cap) (hfp : ∀ b ∈ fp, FpOk X pins H b ∧ b < s.heap.objs.size) (hA : A.handled = none) (hAf : A.frames = X.A.frames)
    (hn : h'.Ns s.heap.objs.size (fun y => if y = (".0" : Str) then some it else none)) (kp : ∀ b o, s.heap.get? b = some o → h'.get? b = some o) (hgs : AllBare gs) :
    Inv (gx X A N s H (genEnv scope (cloFrom X.env.cells scope.names []) s.heap.objs.size code builtinsNs X.env) fp) [] (gx0 cap σ) H { s with heap := h', gens := gs, toks := tk } := by
  have hfree : ∀ y ∈ scope.names, y.2 = .free → ∃ c, X.env.cells.lookup y.1 = some c := fun y hy e => by
    rcases ok.free y hy e with k | k
    · exact I.ok.has _ (.inl k)
    · exact I.ok.has _ (.inr k)
  have cm : ∀ {y c}, (cloFrom X.env.cells scope.names []).lookup y = some c → X.env.cells.lookup y = some c ∧ c < s.heap.objs.size ∧ scope.names.lookup y = some .free := fun {y c} hl => by
    rcases cloFrom_mem (PySem.mem_of_lookup hl) with hm | ⟨h1, rfl⟩
    · cases hm
    · obtain ⟨c, hc⟩ := hfree _ h1 rfl
      have hc : X.env.cells.lookup y = some c := hc
      rw [hc]
      obtain ⟨w, z⟩ := I.cell _ _ hc
      exact ⟨rfl, z.lt, ok.uniq _ h1⟩
  have look : ∀ {y}, scope.names.lookup y = some .free → ∃ c, (cloFrom X.env.cells scope.names []).lookup y = some c := fun {y} hl =>
    mem_lookup (cloFrom_has (cells := X.env.cells) (acc := []) (PySem.mem_of_lookup hl))
  have okB : (gx X A N s H (genEnv scope (cloFrom X.env.cells scope.names []) s.heap.objs.size code builtinsNs X.env) fp).Ok := by
    refine ⟨I.ok.mod, ok.kind, I.ok.glob, rfl, Nat.le_refl _, fun y z c e1 e2 => ?_, fun y hy => ?_, fun y c z e => ?_, fun _ => hA, Around.frames_deeper (by rw [hAf]; exact I.ok.frames), .inr ⟨rfl, rfl⟩,
      fun b hb => ⟨?_, fun y c e z => ?_⟩, I.bs, Nat.le_trans I.ok.bsz I.sz, fun b o e hb => ?_, fun b hb z => ?_, I.stack, I.stkFree⟩
    · exact I.ok.inj y z c (cm e1).1 (cm e2).1
    · have hy : scope.names.lookup y = some .cell ∨ scope.names.lookup y = some .free := hy
      rcases hy with hy | hy
      · exact absurd rfl (ok.cell _ (PySem.mem_of_lookup hy))
      · exact look hy
    · exact absurd (show false = true from z) Bool.false_ne_true
    · exact Nat.ne_of_lt (hfp b hb).2
    · exact (hfp b hb).1.2.2.2.2.1 y c (cm e).1 z
    · rcases (hfp b hb).1.2.2.2.1 with z | z
      · exact I.ok.noex b o e z
      · exact absurd (Nat.lt_of_lt_of_le (Heap.lt_size e) (Nat.le_trans I.ok.bsz z)) (Nat.lt_irrefl _)
    · rcases List.mem_cons.mp (I.stkSub b z) with z | z
      · exact (hfp b hb).1.2.1 z
      · exact (hfp b hb).1.2.2.1 z
  refine ⟨okB, rfl, hgs, Un.kept kp, ⟨_, hn, fun i y v e1 e2 e3 => ?_⟩, fun y c e => ?_, I.hok.fresh (Nat.le_refl _), fun y c e => ?_, fun p hp => absurd (show p ∈ ([] : List (Addr × Obj)) ++ [] from hp) (by simp), I.hok.kept kp, ?_⟩
  · obtain ⟨k, hk, hv⟩ := gx0_get e2
    obtain ⟨hy, hf⟩ := capOk_get ok.cap (show N[i]? = some y from e1) hk
    obtain ⟨m, hn0, hl⟩ := I.loc
    have hk2 := ok.free _ (PySem.mem_of_lookup hf) rfl
    obtain ⟨w, r, q⟩ := hl k y v hy hv (hk2.elim (fun k => .inr (.inl k)) (fun k => .inr (.inr k)))
    refine ⟨w, r, .inr ⟨.inr hf, ?_⟩⟩
    obtain ⟨c, hc⟩ := look hf
    rcases q with ⟨k0, _⟩ | ⟨_, c', e', z⟩
    · have k0 : X.env.scope.names.lookup y = some .local := k0
      rcases hk2 with k' | k' <;> rw [show X.env.scope.names.lookup y = _ from k'] at k0 <;> cases k0
    · rw [(cm hc).1] at e'
      cases e'
      exact ⟨c, hc, z.keeps kp⟩
  · obtain ⟨w, z⟩ := I.cell y c (cm e).1
    exact ⟨w, z.keeps kp⟩
  · exact I.freeC y c (cm e).1
  · show (gx0 cap σ).length = N.length
    unfold gx0
    rw [List.length_map]
    exact ok.len
end
end Gx
set_option Elab.async false
set_option linter.all false
set_option maxRecDepth 100000
set_option maxHeartbeats 4000000
namespace Gx
open PySem PySem.Spec PyProof.Rows L2 GenW GxR

theorem over_gx {A : Around} {elt : Expr} {gens : List Comprehension} {scope : Scope} {pos : Pos} {it acc : Value} {env : Env} : A.over (.compLoop (.GeneratorExp elt gens scope pos) 0 it acc env) [] = A.deeper env := by
  first
    | rfl
    | (obtain ⟨hd, d, fr, gs, u⟩ := A; simp [Around.over, Around.deeper, marksOver, frameCount, unitsOf, envsOf, guardsOf, pushEnvs, pushGuards, Code.envs, Code.env?, Code.isFrame, Code.guards, Code.isGuard, Code.weight, Code.frames, Code.isCreation, Code.isCaller, Code.cUnits])
theorem over_gxS {A : Around} {elt : Expr} {gens : List Comprehension} {scope : Scope} {pos : Pos} {it acc : Value} {env : Env} : A.over (.compStart (.GeneratorExp elt gens scope pos) 0 it acc env) [] = A.deeper env := by
  first
    | rfl
    | (obtain ⟨hd, d, fr, gs, u⟩ := A; simp [Around.over, Around.deeper, marksOver, frameCount, unitsOf, envsOf, guardsOf, pushEnvs, pushGuards, Code.envs, Code.env?, Code.isFrame, Code.guards, Code.isGuard, Code.weight, Code.frames, Code.isCreation, Code.isCaller, Code.cUnits])

/-- while the generator sleeps, nothing but the table of generators changes -/
structure Slp (s s' : Shared) : Prop where
  os : s'.os = s.os
  heap : s'.heap = s.heap
  bare : AllBare s'.gens
theorem Slp.inv {X : Cx} {pins : List (Addr × Obj)} {σ : L2.St} {H : Hp} {s s' : Shared} (I : Inv X pins σ H s) (z : Slp s s') : Inv X pins σ H s' := by
  obtain ⟨h, g, d, t, o⟩ := s'
  obtain ⟨z1, z2, z3⟩ := z
  have z1 : o = s.os := z1
  have z2 : h = s.heap := z2
  subst z1
  subst z2
  exact I.step (g' := g) (t' := t) (d' := d) (ch := []) (fun b hb => absurd hb (by simp)) (fun b ob _ _ hc q _ => q) (fun b ob _ _ hc q _ => ⟨ob.slots, q⟩) (fun _ _ _ _ n => n) (fun b ob hc q => ⟨ob, q⟩)
    (fun _ _ q => q) (fun _ _ _ q => q) (fun b ps q => ⟨#[], by rw [q]; simp⟩) (fun m hm => hm) I.hok z3

/-- what a turn of the walk comes to; W by the turn and a measure -/
abbrev Wt := Nat → Nat → Hp → Prop
def Step (J : It) (g : TG) (te : TE) (σ0 : L2.St) (Q : VK) (W : Wt) : Prop := ∀ i m H, W i m H →
  (J.stop i H ∧ Q (.bl true) H) ∨ (J.go i H ∧ ∃ Nx : Hp → Prop, (∀ H', Nx H' → ∃ m', m' < m ∧ W (i + 1) m' H') ∧ ∀ x H', J.yld i H x H' → g x σ0 H' fun σ2 H2 => te σ2 H2 fun y H4 => ∃ b, y = .bl b ∧ (σ2.length = σ0.length ∧ ∀ (i : Nat) (v : V), σ0[i]? = some (some v) → σ2[i]? = some (some v)) ∧ if b = true then Nx H4 else Q (.bl false) H4)

def GxY (X : Cx) (pg : List (Addr × Obj)) (σ0 : L2.St) (fp : List Addr) (tn : Nat → Heap → Prop) (W : Wt) (Q : VK) : Protocol := fun n _ v s kap =>
  ∃ (b : Bool) (H : Hp), v = .bool b ∧ Inv X pg σ0 H s ∧ (b = false → Q (.bl false) H) ∧ (b = true → ∀ s', Slp s s' → kap (.send .none) s')
def GxP (X : Cx) (pg : List (Addr × Obj)) (Q : VK) : Nat → Shared → Shared → Prop := fun _ _ s => ∃ σ H, Inv X pg σ H s ∧ Q (.bl true) H
def GxR (X : Cx) (pg : List (Addr × Obj)) (Q : VK) : GenEnd := fun n s₀ r s => r = .ok .next ∧ GxP X pg Q n s₀ s

section
variable {X : Cx}
theorem seg_gx {A : Around} {elt tg iter : Expr} {scope : Scope} {pos : Pos} {genv : Env} {pg : List (Addr × Obj)} {σ0 : L2.St} {fp : List Addr} {it : Addr} {tn : Nat → Heap → Prop} {J : It} {g : TG} {te : TE} {W : Wt} {Q : VK}
    (hX : X.A = A.deeper genv) (hE : X.env = genv) (hx : X.xe = fun _ _ => False) (hc : X.calm = true) (hex : X.ex = fp) (hpg : ∀ p ∈ X.pn ++ pg, ∀ b ∈ fp, p.1 ≠ b) (hco : genv.scope.isCoroutine = false)
    (T : Turn X.prog X.w X.K tg J fp it tn) (hg : PG X tg g) (he : PE X elt te) (step : Step J g te σ0 Q W) :
    ∀ (m n i : Nat) (s₀ s : Shared) (H : Hp), m < n → W i m H → Inv X pg σ0 H s → tn i s.heap → (∀ b ∈ fp, H b = none) →
      Seg (model X.prog X.w) A (GxR X pg Q) (GxY X pg σ0 fp tn W Q) n s₀ (.compLoop (.GeneratorExp elt [⟨tg, iter, [], 0⟩] scope pos) 0 (.ref it) .none genv)
        ((model X.prog X.w).den (.compLoop (.GeneratorExp elt [⟨tg, iter, [], 0⟩] scope pos) 0 (.ref it) .none genv)) [] s := by
  have stat : ∀ {pins : List (Addr × Obj)} {σ' : L2.St} {H' : Hp} {s' : Shared}, Inv X pg σ' H' s' → (∀ b ∈ fp, H' b = none) → ∀ b ∈ fp, FpOk X pg H' b := fun {pins σ' H' s'} I' hn b hb =>
    ⟨hn b hb, (I'.ok.exf b (by rw [hex]; exact hb)).1, I'.ok.exfs b (by rw [hex]; exact hb), .inl (by rw [hex]; exact hb), fun x c e => (I'.ok.exf b (by rw [hex]; exact hb)).2 x c e, fun p hp => hpg p hp b hb⟩
  have hy : ∀ v, yieldOut genv v = yieldValue v := fun v => by simp only [yieldOut, hco, Bool.false_eq_true, if_false]
  intro m
  induction m using Nat.strongRecOn with
  | ind m ih =>
    intro n i s₀ s H hmn w I st nf
    show Seg _ A _ _ n s₀ _ ((compTurn (.GeneratorExp elt [⟨tg, iter, [], 0⟩] scope pos) 0 (.ref it) .none genv).onRaise (leaving genv)) [] s
    rw [compTurn_gen, Sem.onRaise_eq_wrap]
    refine seg_bind_wrap (wpAny_standAt ?_)
    rcases step i m H w with ⟨stop, qq⟩ | ⟨go, Nx, hNx, stp⟩
    · refine seg_bind_wrap ?_
      rw [over_gx, ← hX]
      refine thnF (T.done X rfl rfl rfl hc i pg s σ0 H (fun _ _ => False) I (stat (pins := pg) I nf) st stop) fun r s6 ⟨hr, I6⟩ => ?_
      subst hr
      exact seg_end (.ok .next) ⟨rfl, σ0, H, I6, qq⟩
    · refine seg_bind_wrap ?_
      rw [over_gx, ← hX]
      refine thnF (T.item X rfl rfl rfl hc i pg s σ0 H (fun _ _ => False) I (stat (pins := pg) I nf) st go) fun r s6 ⟨u, hr, h6⟩ => ?_
      subst hr
      refine seg_bind_wrap ?_
      rw [over_gx, ← hX]
      refine thnF h6 fun _ s7 ⟨x, H7, I7, r7, y7, st7, n7⟩ => ?_
      have I7' := I7.pinned (stat (pins := pg) I7 n7) (T.obj _ _ st7)
      refine seg_bind_wrap ?_
      rw [over_gx, ← hX]
      have pr := hg.run _ s7 σ0 H7 x u _ I7' r7 (stp x H7 y7)
      rw [hE, hx] at pr
      refine thnF pr fun _ s8 ⟨σ8, H8, I8, q8⟩ => ?_
      refine seg_bind_wrap (wpAny_tests_nil ?_)
      simp only [if_true, hy]
      rw [Sem.bind_eq_wrap', Sem.bind_eq_wrap', Sem.wrap_wrap, Sem.wrap_wrap]
      refine seg_wrap ?_
      rw [over_gx, ← hX]
      have er := he.run _ s8 σ8 H8 _ I8 q8
      rw [hE, hx] at er
      refine thnF er fun z s10 ⟨yv, H10, I10, r10, b, eb, hw, nx⟩ => ?_
      subst eb
      obtain rfl : z = .bool b := r10
      obtain ⟨n', rfl⟩ : ∃ k, n = k + 1 := ⟨n - 1, by omega⟩
      have pin' : ∀ c ∈ fp, ∀ o, s7.heap.get? c = some o → s10.heap.get? c = some o ∧ H10 c = none := fun c hb o e =>
        let z := I10.pin (c, o) (List.mem_append_right _ (List.mem_append_right _ (mem_pinsAt hb e)))
        ⟨z.1, z.2.1⟩
      have I11 : Inv X pg σ0 H10 s10 := (I10.unpinned (pins := pg)).weak hw.1.symm hw.2
      have st11 : tn (i + 1) s10.heap := T.keep _ _ _ st7 fun c hb o e => (pin' c hb o e).1
      have nf11 : ∀ c ∈ fp, H10 c = none := fun c hb => by
        obtain ⟨o, e, _⟩ := T.obj _ _ st7 c hb
        exact (pin' c hb o e).2
      refine seg_at (seg_yield rfl rfl rfl ⟨b, H10, rfl, I11, fun eb => ?_, fun eb s'' zz => ?_⟩)
      · rw [eb] at nx
        simpa using nx
      · rw [eb] at nx
        obtain ⟨m', hm, w'⟩ := hNx H10 (by simpa using nx)
        refine seg_again rfl (ih m' hm n' (i + 1) s'' s'' H10 (by omega) w' (zz.inv I11) (by rw [zz.heap]; exact st11) nf11)
theorem seg_gxS {A : Around} {elt tg iter : Expr} {scope : Scope} {pos : Pos} {genv : Env} {pg : List (Addr × Obj)} {σ0 : L2.St} {fp : List Addr} {it : Addr} {tn : Nat → Heap → Prop} {J : It} {g : TG} {te : TE} {W : Wt} {Q : VK}
    (hX : X.A = A.deeper genv) (hE : X.env = genv) (hx : X.xe = fun _ _ => False) (hc : X.calm = true) (hex : X.ex = fp) (hpg : ∀ p ∈ X.pn ++ pg, ∀ b ∈ fp, p.1 ≠ b) (hco : genv.scope.isCoroutine = false)
    (T : Turn X.prog X.w X.K tg J fp it tn) (hg : PG X tg g) (he : PE X elt te) (step : Step J g te σ0 Q W) (m n i : Nat) (s₀ s : Shared) (H : Hp) (hmn : m < n) (w : W i m H) (I : Inv X pg σ0 H s) (st : tn i s.heap) (nf : ∀ b ∈ fp, H b = none) :
      Seg (model X.prog X.w) A (GxR X pg Q) (GxY X pg σ0 fp tn W Q) n s₀ (.compStart (.GeneratorExp elt [⟨tg, iter, [], 0⟩] scope pos) 0 (.ref it) .none genv)
        ((model X.prog X.w).den (.compStart (.GeneratorExp elt [⟨tg, iter, [], 0⟩] scope pos) 0 (.ref it) .none genv)) [] s := by
  have loop := seg_gx (iter := iter) (scope := scope) (pos := pos) hX hE hx hc hex hpg hco T hg he step m n i s₀ s H hmn w I st nf
  show Seg _ A _ _ _ s₀ _ ((compStart (.GeneratorExp elt [⟨tg, iter, [], 0⟩] scope pos) 0 (.ref it) .none genv).onRaise (leaving genv)) [] s
  unfold compStart
  rw [Sem.onRaise_eq_wrap]
  show Seg _ A _ _ _ s₀ _ ((ask >>= _).wrap _ _ _ _) [] s
  refine seg_bind_wrap (wpAny_askSetting ?_)
  split
  · exact seg_again rfl loop
  · first
      | exact seg_bind_wrap (wpAny_rule (seg_bind_wrap (wpAny_standAt (seg_bind_wrap (T.self _ i s _ _ st (seg_again rfl loop))))))
      | (refine seg_bind_wrap (wpAny_rule ?_); show Seg _ A _ _ _ s₀ _ ((standAt iter.pos >>= _).wrap _ _ _ _) [] s; exact seg_bind_wrap (wpAny_standAt (seg_bind_wrap (T.self _ i s _ _ st (seg_again rfl loop)))))
end
end Gx
set_option Elab.async false
set_option linter.all false
set_option maxRecDepth 100000
set_option maxHeartbeats 4000000
namespace Gx
open PySem PySem.Spec PyProof.Rows L2 GenW GxR
theorem bare_set {gens : Array GenState} {g : Nat} {x : GenState} (h : AllBare gens) (hx : x.bare = true) : AllBare (gens.setIfInBounds g x) := by
  intro y hy
  obtain ⟨i, hi, rfl⟩ := Array.mem_iff_getElem.mp hy
  rw [Array.getElem_setIfInBounds]
  split
  · exact hx
  · exact h _ (Array.getElem_mem (by simpa using hi))
  · simpa using hi
theorem gens_at {s : Shared} {g : Nat} {x : GenState} (h : g < s.gens.size) : (s.setGen g x).gens[g]? = some x := by
  simp [Shared.setGen, h]
section
variable {X : Cx}
theorem all_gx {A : Around} {pg : List (Addr × Obj)} {σ0 : L2.St} {fp : List Addr} {tn : Nat → Heap → Prop} {W : Wt} {Q : VK} {a : Addr} {g : Nat} {og : Obj} {R : Result → Shared → Prop}
    (hh : A.handled = none) (hroom : A.depth < recursionLimit) (hpa : (a, og) ∈ pg) (hog : ∃ nm qn, og.cls = .type "generator" ∧ og.data = .fields #[.int g 0, nm, qn])
    (hR : ∀ b σ H s s' , Inv X pg σ H s → Q (.bl b) H → s'.os = s.os → (∀ c o, s.heap.get? c = some o → s'.heap.get? c = some o) → AllBare s'.gens → R (.ok (.ret (.bool b))) s')
    (hgen : ∀ h : Heap, h.get? a = some og → h.IsGen a g) :
    ∀ (n : Nat) (gs : GenState) (σ : L2.St) (H : Hp) (s : Shared), Inv X pg σ H s → s.gens[g]? = some gs → (∀ s'', Slp s s'' → gs.Goes (model X.prog X.w) A.in1.in1 (GxR X pg Q) (GxY X pg σ0 fp tn W Q) n (.send .none) s'') →
      codeAny (model X.prog X.w) A (.builtin "all.loop" ⟨[.ref a], []⟩) R s := by
  intro n
  induction n with
  | zero =>
    intro gs σ H s I hgs hgo
    have hlt : g < s.gens.size := by
      rcases Nat.lt_or_ge g s.gens.size with h' | h'
      · exact h'
      · rw [Array.getElem?_eq_none h'] at hgs; cases hgs
    refine codeAny_builtin F.entry_all_loop ?_
    rw [Around.under_plainId F.plain_all_loop _]
    show wpAny _ A.in1 (pyNext (.ref a) >>= _) _ _ s
    refine wpAny_bind ?_
    refine wpAny_gsz (n := g + 1) hlt ?_
    have slp : Slp s (s.setGen g .running) := ⟨rfl, rfl, bare_set I.bare rfl⟩
    refine wpAny_pyNext_genexpQ (A := A.in1) (P := GxP X pg Q) hh I.nolimit hroom (hgen _ (I.pin _ (List.mem_append_right _ hpa)).1) hgs (hgo _ slp) (fun v s₁ gs' hb hv => ?_) (fun s₁ hp h' hk => ?_)
    · obtain ⟨b, H1, rfl, I1, hf, ht⟩ := hv
      intro hsz
      have I2 : Inv X pg σ0 H1 (s₁.setGen g gs') := Slp.inv I1 ⟨rfl, rfl, bare_set I1.bare hb⟩
      refine wpAny_bind (wpAny_holding (wpAny_truthy_bool ?_))
      refine wpAny_bind (wpAny_letGo ?_)
      cases b with
      | true => exact (ht rfl s₁ ⟨rfl, rfl, I1.bare⟩).elim
      | false =>
        simp only [Bool.false_eq_true, if_false]
        refine wpAny_bind (wpAny_rule (wpAny_pure ?_))
        exact hR false σ0 H1 _ _ I2 (hf rfl) rfl (fun _ _ e => e) I2.bare
    · obtain ⟨σ1, H1, I1, q⟩ := hp
      intro hsz
      refine wpAny_bind (wpAny_rule (wpAny_pure ?_))
      exact hR true σ1 H1 s₁ _ I1 q rfl hk (bare_set I1.bare rfl)
  | succ n ih =>
    intro gs σ H s I hgs hgo
    have hlt : g < s.gens.size := by
      rcases Nat.lt_or_ge g s.gens.size with h' | h'
      · exact h'
      · rw [Array.getElem?_eq_none h'] at hgs; cases hgs
    refine codeAny_builtin F.entry_all_loop ?_
    rw [Around.under_plainId F.plain_all_loop _]
    show wpAny _ A.in1 (pyNext (.ref a) >>= _) _ _ s
    refine wpAny_bind ?_
    refine wpAny_gsz (n := g + 1) hlt ?_
    have slp : Slp s (s.setGen g .running) := ⟨rfl, rfl, bare_set I.bare rfl⟩
    refine wpAny_pyNext_genexpQ (A := A.in1) (P := GxP X pg Q) hh I.nolimit hroom (hgen _ (I.pin _ (List.mem_append_right _ hpa)).1) hgs (hgo _ slp) (fun v s₁ gs' hb hv => ?_) (fun s₁ hp h' hk => ?_)
    · obtain ⟨b, H1, rfl, I1, hf, ht⟩ := hv
      intro hsz
      have I2 : Inv X pg σ0 H1 (s₁.setGen g gs') := Slp.inv I1 ⟨rfl, rfl, bare_set I1.bare hb⟩
      have hsz1 : g < s₁.gens.size := by rw [setGen_size] at hsz; exact hsz
      refine wpAny_bind (wpAny_holding (wpAny_truthy_bool ?_))
      refine wpAny_bind (wpAny_letGo ?_)
      cases b with
      | true =>
        simp only [if_true]
        refine wpAny_pure ⟨plainId_quiet F.plain_all_loop _, ih gs' σ0 H1 _ I2 (gens_at hsz1) fun s'' z => ?_⟩
        exact ht rfl s'' ⟨z.os, z.heap, z.bare⟩
      | false =>
        simp only [Bool.false_eq_true, if_false]
        refine wpAny_bind (wpAny_rule (wpAny_pure ?_))
        exact hR false σ0 H1 _ _ I2 (hf rfl) rfl (fun _ _ e => e) I2.bare
    · obtain ⟨σ1, H1, I1, q⟩ := hp
      intro hsz
      refine wpAny_bind (wpAny_rule (wpAny_pure ?_))
      exact hR true σ1 H1 s₁ _ I1 q rfl hk (bare_set I1.bare rfl)
theorem room_gx {k : Nat} {A : Around} (r : Room (k + 1) A) (env : Env) : Room k (A.in1.in1.deeper env) :=
  ⟨r.hd, by have := r.dp; show A.depth + 1 + 3 * k + 5 < _; omega, by have := r.un; show A.units + 1 + 1 + 3 + 16 * k + 200 < _; omega⟩
/-- all(e for t in it): the def's table may have grown; then the walk -/
def tAllG (P : Addr) (wi : TI) (g : TG) (te : TE) (cap : List (Option Nat)) : TE := fun σ H Q => wi σ H fun J H1 => TabG H1 P ∧ ∀ H2, Tabbed P H1 H2 → ∃ W : Wt, (∃ m, W 0 m H2) ∧ Step J g te (gx0 cap σ) Q W
theorem pe_allG {c P : Addr} {elt tg iter : Expr} {p pos gpos : Pos} {scope : Scope} {N : List Str} {cap : List (Option Nat)} {wi : TI} {g : TG} {te : TE} {k : Nat}
    (hr : Room (k + 1) X.A) (hg : Gl X "all") (hm : X.mg "all" = none) (hb : bootBuiltins "all" = some (.builtin "all")) (TB : TabB X.base X.mg c P) (hcode : X.env.code = .ref c) (ok : GxOk X.N N X.env.scope scope cap) (hi : PI X tg iter wi)
    (hgT : ∀ (s : Shared) (H : Hp) (C : Addr) (code : Value) (fp : List Addr), PG (gx X X.A.in1.in1 N s H (genEnv scope (cloFrom X.env.cells scope.names []) C code builtinsNs X.env) fp) tg g)
    (heT : ∀ (s : Shared) (H : Hp) (C : Addr) (code : Value) (fp : List Addr), Room k (X.A.in1.in1.deeper (genEnv scope (cloFrom X.env.cells scope.names []) C code builtinsNs X.env)) → PE (gx X X.A.in1.in1 N s H (genEnv scope (cloFrom X.env.cells scope.names []) C code builtinsNs X.env) fp) elt te)
    (hs : ∀ v, genFold iter X.env v = pure v)
    (he : starEach [.GeneratorExp elt [⟨tg, iter, [], 0⟩] scope gpos] X.env = (false, eval (.GeneratorExp elt [⟨tg, iter, [], 0⟩] scope gpos) X.env) :: starEach [] X.env := by rfl) :
    PE X (.Call (.Name "all" p) [.GeneratorExp elt [⟨tg, iter, [], 0⟩] scope gpos] [] pos) (tAllG P wi g te cap) := by
  refine ⟨fun pins s σ H Q I h => ?_⟩
  refine wpAny_Call_Name_kw (ld_blt I hg hm hb ?_)
  refine PyProof.Rows.callWith_builtin1 ?_ he (by rfl)
  rw [he]
  show wpAny _ _ (spliced ((false, eval (.GeneratorExp elt [⟨tg, iter, [], 0⟩] scope gpos) X.env) :: backTo pos (starEach [] X.env))) _ _ s
  refine Calls.spliced_cons ?_
  have hfree : ∀ y ∈ scope.names, y.2 = .free → ∃ c, X.env.cells.lookup y.1 = some c := fun y hy e => by
    rcases ok.free y hy e with k | k
    · exact I.ok.has _ (.inl k)
    · exact I.ok.has _ (.inr k)
  have hdep : X.A.depth < recursionLimit := by have := hr.dp; omega
  refine wpAny_GeneratorExp_make ok.co (closure_ok hfree) ok.cell ok.dot ok.kind hdep (thn (hi.run pins s σ H _ I h) fun xv s1 hx => thn hx fun itv s2 h2 => ?_) hs
  obtain ⟨it, fp, tn, J, H1, e, I1, T, st1, f1, ⟨ps, hP, ht⟩, q1⟩ := h2
  subst e
  have hPs : s2.heap.get? P = some { cls := .none, data := .fields ps } := I1.hok P _ hP
  have cd : PySem.W.CodeHd s2.heap c P := TB.code.keeps fun b u e => I1.bk b u e
  have cont : ∀ (code : Value) (h3 : Heap) (tk : Nat) (ps' : Array Value), Heap.ExtBut P s2.heap h3 → s2.heap.objs.size ≤ h3.objs.size → h3.get? P = some { cls := .none, data := .fields ps' } → (∃ more, ps' = ps ++ more) → TriplesOk ps'.toList →
      wpAny (model X.prog X.w) X.A (builtinsFor X.env.globals X.env.builtins) (fun bi s₄ => ∀ h', h'.Ns s₄.heap.objs.size (fun y => if y = (".0" : Str) then some (.ref it) else none) → Heap.SameBut s₄.heap.objs.size (s₄.heap.push { cls := .type "frame", data := .dict #[] }) h' →
          wpAny (model X.prog X.w) X.A (spliced (backTo pos (starEach [] X.env))) (fun vs s' => wpAny (model X.prog X.w) X.A (call (.builtin "all") (Value.ref h'.objs.size :: vs)) (EP X pins σ Q) X.xe s') X.xe { s₄ with
            gens := s₄.gens.push (.fresh (.compStart (.GeneratorExp elt [⟨tg, iter, [], 0⟩] scope gpos) 0 (.ref it) .none (genEnv scope (cloFrom X.env.cells scope.names []) s₄.heap.objs.size code bi X.env))),
            toks := s₄.toks + 1 + 1 + 1,
            heap := h'.push { cls := .type "generator", data := .fields #[.int s₄.gens.size 0, .str "<genexpr>" (s₄.toks + 1), .str (X.env.qual ++ "<genexpr>") (s₄.toks + 1 + 1)] } }) X.xe { s2 with heap := h3, toks := tk } := by
    intro code h3 tk ps' hx hsz hP3 hmore ht3
    obtain ⟨more, em⟩ := hmore
    subst em
    obtain ⟨bm, ob, e1, e2, e3, e4, e5, e6, e7, e8⟩ := TB.bm
    have keep3 : ∀ b u, b ≠ P → s2.heap.get? b = some u → h3.get? b = some u := fun b u hb e => hx b u hb e
    refine wpAny_builtinsFor (m := X.mg) (by rw [I1.ok.glob]; exact ((I1.mod.glob.keeps I1.bk)).extBut hx TB.gP) e1 e2 (keep3 _ _ e4 (I1.bk _ _ e5)) e6 e7 e8 ?_
    intro h' hn' hs'
    have I4 := inv_tab (more := more) (h' := h3) (g' := s2.gens) (d' := s2.drawn) (t' := tk) I1 hP keep3 hP3 I1.bare
    have hbase : ∀ b, b ∈ fp → b ≠ P := fun b hb z => by
      have := (f1 b hb).1
      rw [z, hP] at this
      cases this
    have tab : Tabbed P H1 (upd H1 P (.tbl (ps ++ more))) := ⟨⟨_, upd_same, ht3⟩, fun b hb => upd_ne hb⟩
    obtain ⟨W, ⟨m0, w0⟩, stp⟩ := q1 _ tab
    generalize hH2 : upd H1 P (.tbl (ps ++ more)) = H2 at I4 tab w0
    have H2fp : ∀ b ∈ fp, H2 b = none := fun b hb => by rw [← hH2, upd_ne (hbase b hb)]; exact (f1 b hb).1
    have f4 : ∀ b ∈ fp, FpOk X pins H2 b ∧ b < h3.objs.size := fun b hb => by
      obtain ⟨o, e, _⟩ := T.obj _ _ st1 b hb
      exact ⟨⟨H2fp b hb, (f1 b hb).2⟩, Nat.lt_of_lt_of_le (Heap.lt_size e) hsz⟩
    have st4 : tn 0 h3 := T.keep _ _ _ st1 fun b hb o e => keep3 b o (hbase b hb) e
    have hsz' : h'.objs.size = h3.objs.size + 1 := by rw [hs'.1, Heap.size_push]
    have keep' : ∀ b o, h3.get? b = some o → h'.get? b = some o := fun b o e => hs'.extBut b o (Nat.ne_of_lt (Heap.lt_size e)) (Heap.get?_push_of_some _ e)
    refine Calls.spliced_nil ?_
    generalize hog : ({ cls := .type "generator", data := .fields #[.int s2.gens.size 0, .str "<genexpr>" (tk + 1), .str (X.env.qual ++ "<genexpr>") (tk + 1 + 1)] } : Obj) = og
    have keep5 : ∀ b o, h3.get? b = some o → (h'.push og).get? b = some o := fun b o e => Heap.get?_push_of_some _ (keep' b o e)
    have I5 := gx_start (N := N) (code := code) (tk := tk + 1 + 1 + 1) (gs := s2.gens.push (.fresh (.compStart (.GeneratorExp elt [⟨tg, iter, [], 0⟩] scope gpos) 0 (.ref it) .none (genEnv scope (cloFrom X.env.cells scope.names []) h3.objs.size code builtinsNs X.env)))) I4 ok f4 (A := X.A.in1.in1) hr.hd rfl (hn'.push og) keep5 (I1.bare.push rfl)
    have hgt : h3.objs.size ≤ h'.objs.size := by omega
    have I6 := I5.pins_of (pins' := [(h'.objs.size, og)]) fun p hp => by
      obtain rfl : p = (h'.objs.size, og) := by simpa using hp
      refine ⟨Heap.get?_push_size _ (by rw [← hog]; rfl), I4.hok.fresh hgt, ?_, fun hb => ?_, fun v => by rw [← hog]; intro z; cases z⟩
      · show h'.objs.size ≠ h3.objs.size
        omega
      · rcases List.mem_cons.mp (I4.stkSub _ hb) with z | z
        · have := I4.lt
          have z : h'.objs.size = X.env.locals := z
          rw [← z] at this
          exact absurd (Nat.lt_of_lt_of_le this hgt) (Nat.lt_irrefl _)
        · exact I4.nofs (a := h'.objs.size) hgt z
    have st5 : tn 0 (h'.push og) := T.keep _ _ _ st4 fun b hb o e => keep5 b o e
    refine call_function_tree F.kind_all F.plain_all F.entry_all (F.args_all1 _) ?_
    unfold Builtin.«all»
    refine wpAny_bind (m := oneArg "all" _) (wpAny_pure ?_)
    have isg : ∀ h : Heap, h.get? h'.objs.size = some og → h.IsGen h'.objs.size s2.gens.size := fun h e => ⟨og, _, _, e, by rw [← hog], by rw [← hog], by rw [← hog]⟩
    refine wpAny_bind (wpAny_pyIter_gen (isg _ (Heap.get?_push_size _ (by rw [← hog]; rfl))) ?_)
    refine wpAny_pure ⟨plainId_quiet F.plain_all_loop _, ?_⟩
    have pgT := hgT { s2 with heap := h3, toks := tk } H2 h3.objs.size code fp
    have peT := heT { s2 with heap := h3, toks := tk } H2 h3.objs.size code fp (room_gx hr _)
    generalize hgenv : genEnv scope (cloFrom X.env.cells scope.names []) h3.objs.size code builtinsNs X.env = genv at I5 I6 pgT peT
    have hscope : genv.scope.isCoroutine = false := by rw [← hgenv]; exact ok.co
    have hpg : ∀ p ∈ ([] : List (Addr × Obj)) ++ [(h'.objs.size, og)], ∀ b ∈ fp, p.1 ≠ b := fun p hp b hb => by
      obtain rfl : p = (h'.objs.size, og) := by simpa using hp
      exact Nat.ne_of_gt (Nat.lt_of_lt_of_le (f4 b hb).2 hgt)
    refine all_gx (X := gx X X.A.in1.in1 N { s2 with heap := h3, toks := tk } H2 genv fp) (A := X.A) (pg := [(h'.objs.size, og)]) (σ0 := gx0 cap σ) (fp := fp) (tn := tn) (W := W) (Q := Q) (og := og) (g := s2.gens.size) hr.hd hdep (by simp) ⟨_, _, by rw [← hog], by rw [← hog]⟩ ?_ isg (m0 + 1) _ _ H2 _ I6 (Array.getElem?_push_size ..) ?_
    · intro b σ' H' sa sb Ia qa hos hk hbare
      refine ⟨.bl b, H', I4.call' (s' := sb) (ch := fp) (hos.trans Ia.os) (Ia.base.trans (Un.kept hk)) (Ia.hok.kept hk) hbare fun c hc => ⟨(f4 c hc).1.2.2.2.1, (f4 c hc).1.2.1, (f4 c hc).1.2.2.2.2.1, (f4 c hc).1.2.2.2.2.2⟩, rfl, qa⟩
    · intro s'' z
      refine ⟨rfl, seg_gxS (X := gx X X.A.in1.in1 N { s2 with heap := h3, toks := tk } H2 genv fp) (A := X.A.in1.in1) rfl rfl rfl rfl rfl hpg hscope T pgT peT stp m0 (m0 + 1) 0 s'' s'' H2 (Nat.lt_succ_self _) w0 (z.inv I6) ?_ H2fp⟩
      rw [z.heap]
      exact st5
  refine ⟨I1.nolimit, ?_⟩
  cases hf : codeAmong gpos ps.toList with
  | none =>
    refine wpAny_genexprCodeX hcode (cd.code hPs ht) (cd.tab hPs) hf fun c' h' tk hx hge hlt hco' _ htab' _ => ?_
    obtain ⟨o1, vs, f1, tf, fl, tg, inF, tx, tt, op, _, _, _, _, _, _, _, _, _, htr, _⟩ := hco'
    exact cont _ h' tk _ hx (Nat.le_trans hge (Nat.le_of_lt hlt)) htab'.2 ⟨_, rfl⟩ htr
  | some cv =>
    refine wpAny_genexprCode_hit hcode (cd.code hPs ht) hf ?_
    exact cont cv s2.heap s2.toks ps (Heap.ExtBut.refl _ _) (Nat.le_refl _) hPs ⟨#[], by simp⟩ ht
end
end Gx
set_option Elab.async false
set_option linter.all false
set_option maxRecDepth 100000
set_option maxHeartbeats 4000000
namespace Gx
open PySem PySem.Spec PyProof.Rows L2 GenW GxR
theorem GxOk.plain {N0 N : List Str} {sc scope : Scope} {cap : List (Option Nat)} (kind : scope.kind = .function) (co : scope.isCoroutine = false) (cell : (scope.names.all fun y => decide (y.2 ≠ .cell ∧ y.2 ≠ .free)) = true) (dot : scope.names.lookup (".0" : Str) = some NameKind.local)
    (uniq : (scope.names.all fun y => decide (scope.names.lookup y.1 = some y.2)) = true) (len : cap.length = N.length) (hcap : capOk N0 N scope cap = true) : GxOk N0 N sc scope cap where
  kind := kind
  co := co
  cell := fun y hy => (of_decide_eq_true (List.all_eq_true.mp cell y hy)).1
  dot := dot
  uniq := fun y hy => of_decide_eq_true (List.all_eq_true.mp uniq y hy)
  free := fun y hy e => absurd e (of_decide_eq_true (List.all_eq_true.mp cell y hy)).2
  len := len
  cap := hcap
/-- what the element leaves of the frame's names -/
def Kept (σ0 σ2 : L2.St) : Prop := σ2.length = σ0.length ∧ ∀ (i : Nat) (v : V), σ0[i]? = some (some v) → σ2[i]? = some (some v)
theorem kept_set {σ : L2.St} {j : Nat} {x : Option V} (h : σ[j]? = some none) : Kept σ (σ.set j x) := by
  refine ⟨List.length_set, fun i v e => ?_⟩
  by_cases hj : j = i
  · rw [hj, e] at h
    cases h
  · rw [List.getElem?_set_ne hj]
    exact e
/-- all(e for t in l), l a list: by its places -/
theorem all_list {K : PySem.W.Frag} {a : Addr} {xs : List V} {g : TG} {te : TE} {σ0 : L2.St} {H : Hp} {Q : VK} (Pv : Nat → Hp → Prop) (h0 : Pv 0 H) (hl : ∀ i H, i ≤ xs.length → Pv i H → SqL K H a xs)
    (hs : ∀ i x H, xs[i]? = some x → Pv i H → g x σ0 H fun σ2 H2 => te σ2 H2 fun y H4 => ∃ b, y = .bl b ∧ Kept σ0 σ2 ∧ if b = true then Pv (i + 1) H4 else Q (.bl false) H4) (hd : ∀ H, Pv xs.length H → Q (.bl true) H) :
    ∃ W : Wt, (∃ m, W 0 m H) ∧ Step (Itl K a) g te σ0 Q W := by
  refine ⟨fun i m H => m = xs.length - i ∧ i ≤ xs.length ∧ Pv i H, ⟨xs.length, by simp, Nat.zero_le _, h0⟩, ?_⟩
  rintro i m G ⟨rfl, hi, p⟩
  have q := hl i G hi p
  by_cases hlt : i < xs.length
  · refine .inr ⟨⟨xs, xs[i], q, by simp [hlt]⟩, Pv (i + 1), fun H' p' => ⟨xs.length - (i + 1), by omega, rfl, hlt, p'⟩, fun x H' y => ?_⟩
    obtain ⟨e, y⟩ := y
    subst e
    have z : xs[i]? = some x := by
      first
        | exact y xs q
        | (obtain ⟨ys, q2, e2⟩ := y; rw [sqL_fun q q2]; exact e2)
    exact hs i x _ z p
  · have e : i = xs.length := by omega
    subst e
    exact .inl ⟨by first | exact ⟨xs, q, Nat.le_refl _⟩ | exact ⟨xs, q, by simp⟩, hd G p⟩
end Gx
set_option Elab.async false
set_option linter.all false
set_option maxRecDepth 100000
set_option maxHeartbeats 4000000
namespace K65
open PySem L2 Ld GxR Gx
/-! the program's side: whole numbers, costs, lists of places -/
def wholeD : PyData → Bool
  | .int _ => true
  | _ => false
def costD : PyData → Bool
  | .int i => decide (1 ≤ i)
  | _ => false
def placesD : PyData → Bool
  | .list ds => ds.all placeD
  | _ => false
def spWhole : Sp := fun vs H Q _ => ∃ (v : V) (d : PyData), vs = [v] ∧ Da H v d ∧ Q (.bl (wholeD d)) H
/-- two code tables may have grown -/
def Tab2 (T1 T2 : Addr) (H H' : Hp) : Prop := TabG H' T1 ∧ TabG H' T2 ∧ ∀ b, b ≠ T1 → b ≠ T2 → H' b = H b
theorem Tab2.refl {T1 T2 : Addr} {H : Hp} (h1 : TabG H T1) (h2 : TabG H T2) : Tab2 T1 T2 H H := ⟨h1, h2, fun _ _ _ => rfl⟩
theorem Tab2.trans {T1 T2 : Addr} {H H1 H2 : Hp} (x : Tab2 T1 T2 H H1) (y : Tab2 T1 T2 H1 H2) : Tab2 T1 T2 H H2 := ⟨y.1, y.2.1, fun b n m => (y.2.2 b n m).trans (x.2.2 b n m)⟩
theorem Tab2.keep {T1 T2 : Addr} {H H1 : Hp} (g1 : TabG H T1) (g2 : TabG H T2) (t : Tab2 T1 T2 H H1) : ∀ a o, H a = some o → (∀ ps, o ≠ .tbl ps) → H1 a = some o := fun a o e n => by
  obtain ⟨ps, hp, _⟩ := g1
  obtain ⟨qs, hq, _⟩ := g2
  rw [t.2.2 a (fun z => by rw [z, hp] at e; exact n ps (Option.some.inj e).symm) fun z => by rw [z, hq] at e; exact n qs (Option.some.inj e).symm]
  exact e
theorem Tab2.l {T1 T2 : Addr} {H H1 : Hp} (g2 : TabG H T2) (ne : T2 ≠ T1) (t : Tabbed T1 H H1) : Tab2 T1 T2 H H1 := ⟨t.1, by
  obtain ⟨qs, hq, r⟩ := g2
  exact ⟨qs, by rw [t.2 T2 ne]; exact hq, r⟩, fun b n _ => t.2 b n⟩
theorem Tab2.r {T1 T2 : Addr} {H H1 : Hp} (g1 : TabG H T1) (ne : T1 ≠ T2) (t : Tabbed T2 H H1) : Tab2 T1 T2 H H1 := ⟨by
  obtain ⟨qs, hq, r⟩ := g1
  exact ⟨qs, by rw [t.2 T1 ne]; exact hq, r⟩, t.1, fun b _ n => t.2 b n⟩
def spAre (T1 T2 : Addr) : Sp := fun vs H Q _ => ∃ (v : V) (d : PyData), vs = [v] ∧ Da H v d ∧ d.weight ≤ 20000 ∧ TabG H T1 ∧ TabG H T2 ∧ ∀ H', Tab2 T1 T2 H H' → Q (.bl (placesD d)) H'
theorem tyb_of {K : PySem.W.Frag} {H : Hp} {v : V} {d : PyData} (h : Da H v d) : TyB K H v (tyD d) ∧ K7 (tyD d) := by
  cases h with
  | non => exact ⟨.non, .none⟩
  | bl b => exact ⟨.bl b, .bool⟩
  | int i => exact ⟨.int i, .int⟩
  | str x => exact ⟨.str x, .str⟩
  | lst e _ => exact ⟨.lst (.inl (.inl e)), .list⟩
  | tup e _ => exact ⟨.tup (.inl (.inl e)), .tuple⟩
  | dct e _ _ => exact ⟨.dK e, .dict⟩
section
variable {P : Program} {w : World} {K : PySem.W.Frag} {mg : Str → Option Value} {base : Heap}
end
end K65
set_option Elab.async false
set_option linter.all false
set_option maxRecDepth 100000
set_option maxHeartbeats 4000000
namespace Ld
open PySem PySem.Spec PyProof.Rows L2
section
variable {X : Cx}
/-- a list of anything, and the empty one -/
def rNeNil : R2 := fun x y H Q => ∃ a b xs, x = .ref a ∧ y = .ref b ∧ H a = some (.lst xs) ∧ H b = some (.lst []) ∧ Q (.bl (!xs.isEmpty)) H
theorem op_neNil (hu : X.A.units + 64 < cLine) : OpR X (compareOp .NotEq) rNeNil := by
  intro pins s σ H x y v u Q I rx ry h
  obtain ⟨a, b, xs, rfl, rfl, ha, hb, q⟩ := h
  by_cases hx : xs = []
  · subst hx
    exact op_neD hu pins s σ H _ _ v u Q I rx ry ⟨.list [], .list [], .lst (.inl (.inl ha)) .nil, .lst (.inl (.inl hb)) .nil, by decide, by decide, q⟩
  · cases rx
    cases ry
    obtain ⟨its, r, ht, hz⟩ := I.list (.inl (.inl ha) : SqL X.K H a xs)
    obtain ⟨its2, r2, ht2, hz2⟩ := I.list (.inl (.inl hb) : SqL X.K H b [])
    have hl := r.length
    have hl2 := r2.length
    have hpos : 0 < xs.length := List.length_pos_iff.mpr hx
    have e : (!xs.isEmpty) = true := by simpa using hx
    rw [e] at q
    refine PySem.SeqAt.RcNeAt.lists_lengths ht.isList ht2.isList ?_ (by omega) X.prog X.w X.xe _ ⟨.bl true, H, I, rfl, q⟩
    rw [List.size_toArray, List.size_toArray]
    rw [bne_iff_ne]
    intro z
    have hl3 : ([] : List V).length = 0 := rfl
    omega
def rEqNil : R2 := fun x y H Q => ∃ a b xs, x = .ref a ∧ y = .ref b ∧ H a = some (.lst xs) ∧ H b = some (.lst []) ∧ Q (.bl xs.isEmpty) H
theorem op_eqNil (hu : X.A.units + 64 < cLine) : OpR X (compareOp .Eq) rEqNil := by
  intro pins s σ H x y v u Q I rx ry h
  obtain ⟨a, b, xs, rfl, rfl, ha, hb, q⟩ := h
  by_cases hx : xs = []
  · subst hx
    exact op_eqD hu pins s σ H _ _ v u Q I rx ry ⟨.list [], .list [], .lst (.inl (.inl ha)) .nil, .lst (.inl (.inl hb)) .nil, by decide, by decide, q⟩
  · cases rx
    cases ry
    obtain ⟨its, r, ht, hz⟩ := I.list (.inl (.inl ha) : SqL X.K H a xs)
    obtain ⟨its2, r2, ht2, hz2⟩ := I.list (.inl (.inl hb) : SqL X.K H b [])
    have hl := r.length
    have hl2 := r2.length
    have hpos : 0 < xs.length := List.length_pos_iff.mpr hx
    have e : xs.isEmpty = false := by simpa using hx
    rw [e] at q
    refine PySem.SeqAt.RcAt.lists_lengths ht.isList ht2.isList ?_ (by omega) X.prog X.w X.xe _ ⟨.bl false, H, I, rfl, q⟩
    rw [List.size_toArray, List.size_toArray]
    rw [bne_iff_ne]
    intro z
    have hl3 : ([] : List V).length = 0 := rfl
    omega
end
end Ld
set_option Elab.async false
set_option linter.all false
set_option maxRecDepth 100000
set_option maxHeartbeats 4000000
namespace K65
open PySem L2 Ld GxR Gx
/-! the law's own look at lists of unlike places -/
def unlikeD (ds : List PyData) : Bool := (List.range ds.length).all fun k => !((ds.take k).any fun z => z.eqv (ds.getD k .none))
def unlikePlacesD : PyData → Bool
  | .list ds => ds.all placeD && unlikeD ds
  | _ => false
theorem place_of_true {d : PyData} (h : placeD d = true) : ∃ x y, d = .tuple [.str x, .str y] ∧ nameD (.str x) = true ∧ nameD (.str y) = true := by
  match d, h with
  | .tuple [a, b], h =>
    have h : (nameD a && nameD b) = true := h
    rw [Bool.and_eq_true] at h
    obtain ⟨h1, h2⟩ := h
    match a, b, h1, h2 with
    | .str x, .str y, h1, h2 => exact ⟨x, y, rfl, h1, h2⟩
theorem name_ok {x : Str} (h : nameD (.str x) = true) : TxOk x := fun c hc => by
  have h : (decide (1 ≤ x.length ∧ x.length ≤ 8) && x.cps.toList.all signB) = true := h
  rw [Bool.and_eq_true, List.all_eq_true] at h
  have := (signB_iff c).mp (h.2 c hc)
  omega
theorem lay_place {d : PyData} (h : placeD d = true) : PyData.canLay0 d = true ∧ d.depth = 1 := by
  obtain ⟨x, y, rfl, h1, h2⟩ := place_of_true h
  obtain ⟨l1, l2⟩ := lay_strs [x, y] fun z hz => by
    rcases List.mem_cons.mp hz with rfl | hz
    · exact name_ok h1
    · obtain rfl : z = y := by simpa using hz
      exact name_ok h2
  refine ⟨l1, ?_⟩
  show PyData.depthAll [.str x, .str y] + 1 = 1
  rw [show PyData.depthAll [.str x, .str y] = 0 from l2]
theorem dp_place {K : PySem.W.Frag} {H : Hp} {v : V} {d : PyData} (hd : Da H v d) (h : placeD d = true) : Dp K H v d := by
  obtain ⟨x, y, rfl, h1, h2⟩ := place_of_true h
  cases hd with
  | tup e hall =>
    refine .tup (.inl (.inl e)) ?_
    cases hall with
    | cons a t =>
      cases a
      cases t with
      | cons b t2 =>
        cases b
        cases t2
        exact .cons (.str x) (.cons (.str y) .nil)
theorem dp_places {K : PySem.W.Frag} {H : Hp} : ∀ {vs : List V} {ds : List PyData}, DaAll H vs ds → ds.all placeD = true → DpAll K H vs ds
  | _, _, .nil, _ => .nil
  | _, _, .cons (d := d) (ds := ds) h t, e => by
    rw [List.all_cons, Bool.and_eq_true] at e
    exact .cons (dp_place h e.1) (dp_places t e.2)
theorem lay_places : ∀ {ds : List PyData}, ds.all placeD = true → PyData.canLayAll0 ds = true ∧ PyData.depthAll ds ≤ 1
  | [], _ => ⟨rfl, Nat.zero_le _⟩
  | d :: ds, e => by
    rw [List.all_cons, Bool.and_eq_true] at e
    obtain ⟨a1, a2⟩ := lay_place e.1
    obtain ⟨b1, b2⟩ := lay_places e.2
    refine ⟨?_, ?_⟩
    · show (PyData.canLay0 d && PyData.canLayAll0 ds) = true
      rw [a1, b1]
      rfl
    · simp only [PyData.depthAll]
      omega
theorem shaped_places {ds : List PyData} (e : ds.all placeD = true) : SeqAt.shaped (.list ds) = true := by
  obtain ⟨h1, h2⟩ := lay_places e
  unfold SeqAt.shaped
  rw [Bool.and_eq_true]
  refine ⟨h1, decide_eq_true ?_⟩
  show PyData.depthAll ds + 1 ≤ 64
  omega
theorem shaped_place {d : PyData} (e : placeD d = true) : SeqAt.shaped d = true := by
  obtain ⟨h1, h2⟩ := lay_place e
  unfold SeqAt.shaped
  rw [Bool.and_eq_true]
  exact ⟨h1, decide_eq_true (by omega)⟩
theorem all_take {ds : List PyData} (e : ds.all placeD = true) (i : Nat) : (ds.take i).all placeD = true :=
  List.all_eq_true.mpr fun d hd => List.all_eq_true.mp e d (List.mem_of_mem_take hd)
def spLAre : Sp := fun vs H Q _ => ∃ (v : V) (d : PyData), vs = [v] ∧ Da H v d ∧ d.weight ≤ 20000 ∧ (∀ ds, d = .list ds → ∀ e ∈ ds, TxAll e) ∧ ∀ H', Same H H' → Q (.bl (unlikePlacesD d)) H'
section
variable {P : Program} {w : World} {K : PySem.W.Frag} {mg : Str → Option Value} {base : Heap}
end
end K65
set_option Elab.async false
set_option linter.all false
set_option maxRecDepth 100000
set_option maxHeartbeats 4000000
namespace K65
open PySem L2 Ld GxR Gx
theorem tx_str {B : Nat} {x : Str} (h : lf B (.str x) = true) : TxOk x := fun c hc => of_decide_eq_true (List.all_eq_true.mp (show (x.cps.toList.all fun c => decide (c < 128)) = true from h) c hc)
theorem tx_lf {B : Nat} {d : PyData} (h : lf B d = true) : TxAll d := by
  refine ⟨fun x e => ?_, fun ds e e' he x ex => ?_⟩
  · subst e
    exact tx_str h
  · subst e
    have q := lfAll_iff.mp (show lfAll B ds = true from h) e' he
    rw [ex] at q
    exact tx_str q
def lenD : PyData → Bool
  | .list ds => decide (1 ≤ ds.length ∧ ds.length ≤ 8)
  | _ => false
def ruleD : PyData → Bool
  | .tuple [a, b, c, p] => nameD a && nameD b && costD c && (unlikePlacesD p && lenD p)
  | _ => false
def spLRule : Sp := fun vs H Q _ => ∃ (v : V) (d : PyData), vs = [v] ∧ Da H v d ∧ d.weight ≤ 20000 ∧ lf big d = true ∧ ∀ H', Same H H' → Q (.bl (ruleD d)) H'
theorem ruleD_len {ds : List PyData} (h : ds.length ≠ 4) : ruleD (.tuple ds) = false := by
  match ds, h with
  | [], _ => rfl
  | [_], _ => rfl
  | [_, _], _ => rfl
  | [_, _, _], _ => rfl
  | [_, _, _, _], h => exact absurd rfl h
  | _ :: _ :: _ :: _ :: _ :: _, _ => rfl
theorem four_of {H : Hp} {xs : List V} {ds : List PyData} (h : DaAll H xs ds) (e : xs.length = 4) : ∃ v0 v1 v2 v3 d0 d1 d2 d3, xs = [v0, v1, v2, v3] ∧ ds = [d0, d1, d2, d3] ∧ Da H v0 d0 ∧ Da H v1 d1 ∧ Da H v2 d2 ∧ Da H v3 d3 := by
  match xs, ds, h, e with
  | _, _, .cons h0 (.cons h1 (.cons h2 (.cons h3 .nil))), _ => exact ⟨_, _, _, _, _, _, _, _, rfl, rfl, h0, h1, h2, h3⟩
section
variable {P : Program} {w : World} {K : PySem.W.Frag} {mg : Str → Option Value} {base : Heap}
end
end K65
set_option Elab.async false
set_option linter.all false
set_option maxRecDepth 100000
set_option maxHeartbeats 4000000
/-! dicts by comprehensions: keys of any kind that DPut tells, one `for` or two, given to a name -/
namespace Dc
open PySem PySem.Spec PyProof.Rows L2
section
variable {X : Cx} {pins : List (Addr × Obj)} {σ : L2.St} {H H' : Hp} {s : Shared} {E : Value → Shared → Prop} {D : Addr} {y z : V} {u r : Value}
/-- the store of a dict's comprehension -/
theorem d_dictPut {Q : Unit → Shared → Prop} (hu : X.A.units < cLine) (I : Inv X pins σ H s) (g : DPut H D y z H') (ry : RelV y u) (rz : RelV z r) (h : ∀ s', Inv X pins σ H' s' → Q () s') : wpAny (model X.prog X.w) X.A (dictSet D u r) Q E s := by
  rcases g with ⟨kvs, k, e, rfl, l, rfl⟩ | ⟨kvs, k, b, e, rfl, eb, l, rfl⟩
  · exact d_dictSet I e l ry rz h
  · cases (show u = Value.ref b from ry)
    obtain ⟨zl, hd, xs, rel, dd⟩ := dt_of I.hok e
    have hlx : xs.length ≤ sizeLine := by
      rw [← Paired.length rel]
      exact zl
    have hlp : (putK kvs k z).length ≤ sizeLine := by
      have := length_putK kvs k z
      omega
    refine wpAny_dictSet_heap (hsz := hlx) (knd := tupleKind (mixKind X.prog X.w)) (show (tupleKind (mixKind X.prog X.w)).room X.A from hu) (key_of I.hok eb) dd fun g' dg hsb => h _ ?_
    obtain ⟨q, es, ep, q1, q2, q3, q4, _, q5⟩ := dg
    refine d_write I (by rw [e]; trivial) hsb ⟨q, q1⟩ ⟨hlp, hd, _, (rel.put k eb rz).keeps fun c ys ec => ?_, q, es, ep, q1, q2, q3, q4, q5⟩
    rw [upd_ne (ne_of ec e fun x => nomatch x)]
    exact ec
end
/-- no error is told of here -/
abbrev NoE : Value → Shared → Prop := fun _ _ => False
/-- a clause's turn: from its item on -/
def LoopEq (e : Expr) (d : Nat) (it acc : Value) (env : Env) (p : Pos) (tg : Expr) (ifs : List Expr) (K : Sem Fin) : Prop :=
  compTurn e d it acc env = (do
    standAt p
    match ← pyNext it with
    | none => pure (.done .next)
    | some v =>
      letOwnedTupleGo tg it v
      assign tg env v
      let mut ok := true
      for c in ifs do
        if ok then ok ← isTrue c env (eval c env)
      if ok then K else again (.compLoop e d it acc env))
/-- the tests of a clause -/
abbrev testsOf (ifs : List Expr) (env : Env) : Sem Bool := forIn ifs true fun c r => if r = true then do let ok ← isTrue c env (eval c env); pure (ForInStep.yield ok) else pure (ForInStep.yield r)
theorem loopE {prog : Program} {w : World} {A : Around} {R : Result → Shared → Prop} {kx vx : Expr} {gens : List Comprehension} {sc : Scope} {ps : Pos} {d : Nat} {it acc : Value} {env : Env} {p : Pos} {tg : Expr} {ifs : List Expr} {K : Sem Fin} (heq : LoopEq (.DictComp kx vx gens sc ps) d it acc env p tg ifs K) (J : Nat → Shared → Prop)
    (turn : ∀ n s, J n s → wpAny (model prog w) A (pyNext it) (fun r s1 => match r with
      | none => R (.ok .next) s1
      | some v => wpAny (model prog w) A (letOwnedTupleGo tg it v) (fun _ s2 => wpAny (model prog w) A (assign tg env v) (fun _ s3 => wpAny (model prog w) A (testsOf ifs env) (fun ok s4 =>
          if ok = true then wpAny (model prog w) A K (fun f s5 => f = .again (.compLoop (.DictComp kx vx gens sc ps) d it acc env) ∧ ∃ m, m < n ∧ J m s5) NoE s4 else ∃ m, m < n ∧ J m s4) NoE s3) NoE s2) NoE s1) NoE s)
    (n : Nat) (s : Shared) (h : J n s) : codeAny (model prog w) A (.compLoop (.DictComp kx vx gens sc ps) d it acc env) R s := by
  refine codeAny_loop rfl J (fun n s hJ => ?_) n h
  show wpAny _ A ((compTurn (.DictComp kx vx gens sc ps) d it acc env).onRaise fun x => do noteFrame x env; theTreesLotGoes x) _ _ s
  refine wpAny_noted ?_
  rw [heq]
  refine wpAny_bind (wpAny_standAt (wpAny_bind (thnF (turn n s hJ) fun r s1 h1 => ?_)))
  cases r with
  | none => exact wpAny_pure h1
  | some v =>
    refine wpAny_bind (thnF h1 fun _ s2 h2 => wpAny_bind (thnF h2 fun _ s3 h3 => wpAny_bind (thnF h3 fun ok s4 h4 => ?_)))
    cases ok with
    | false => exact wpAny_pure ⟨rfl, h4⟩
    | true =>
      refine thnF h4 fun f s5 h5 => ?_
      obtain ⟨rfl, h5⟩ := h5
      exact ⟨rfl, h5⟩
/-- what slots a turn may leave -/
def Weaker (σ τ : L2.St) : Prop := σ.length = τ.length ∧ ∀ (j : Nat) v, σ[j]? = some (some v) → τ[j]? = some (some v)
theorem weaker_wipe (σ : L2.St) (vs : List Nat) : Weaker (wipe σ vs) σ := ⟨wipe_length σ vs, fun _ _ e => (wipe_some e).1⟩
theorem weaker_of {σ τ : L2.St} {vs : List Nat} (e : wipe τ vs = wipe σ vs) : Weaker (wipe σ vs) τ := by
  rw [← e]
  exact weaker_wipe τ vs
theorem Weaker.wipe {σ τ : L2.St} {vs vs1 : List Nat} (h : Weaker (wipe σ vs) τ) (hs : ∀ i ∈ vs1, i ∈ vs) : Weaker (wipe σ vs) (wipe τ vs1) := by
  refine ⟨h.1.trans (wipe_length τ vs1).symm, fun j v e => ?_⟩
  rw [wipe_out fun z => (wipe_some e).2 (hs j z)]
  exact h.2 j v e
/-- one clause, at any depth, of a block's context B -/
theorem clause {B : Cx} (hc : B.calm = true) (hx : B.xe = NoE) {pins : List (Addr × Obj)} {σ : L2.St} {vs fp : List Nat} {tn : Nat → Heap → Prop} {I : It} {it : Addr} {acc : Value} {kx vx tg : Expr} {gens : List Comprehension} {sc : Scope} {ps : Pos} {d : Nat} {p : Pos} {ifs : List Expr} {g : TG} {tt : TT} {K : Sem Fin} {R : Result → Shared → Prop}
    {Stop : Hp → Prop} {Em : L2.St → Hp → (Hp → Prop) → Prop} {W : Nat → Nat → Hp → Prop} (T : Turn B.prog B.w B.K tg I fp it tn) (pg : PG B tg g) (pt : PTs B ifs tt) (heq : LoopEq (.DictComp kx vx gens sc ps) d (.ref it) acc B.env p tg ifs K)
    (turn : ∀ i m H, W i m H → (I.stop i H ∧ Stop H) ∨ (I.go i H ∧ ∃ Nx : Hp → Prop, (∀ H', Nx H' → ∃ m', m' < m ∧ W (i + 1) m' H') ∧ ∀ x H', I.yld i H x H' → g x (wipe σ vs) H' fun σ2 H2 => wipe σ2 vs = wipe σ vs ∧ tt σ2 H2 fun b H3 => if b = true then Em σ2 H3 Nx else Nx H3))
    (em : ∀ (qs : List (Addr × Obj)) (τ : L2.St) (H : Hp) (s : Shared) (Nx : Hp → Prop), Inv B (pins ++ qs) τ H s → Weaker (wipe σ vs) τ → Em τ H Nx →
      wpAny (model B.prog B.w) B.A K (fun f s5 => f = .again (.compLoop (.DictComp kx vx gens sc ps) d (.ref it) acc B.env) ∧ ∃ τ5 H5, Inv B (pins ++ qs) τ5 H5 s5 ∧ Weaker (wipe σ vs) τ5 ∧ Nx H5) NoE s)
    (fin : ∀ H s, Inv B pins (wipe σ vs) H s → Stop H → R (.ok .next) s) {H0 : Hp} {s0 : Shared} {m0 : Nat} (I0 : Inv B pins (wipe σ vs) H0 s0) (t0 : tn 0 s0.heap) (f0 : ∀ b ∈ fp, FpOk B pins H0 b) (w0 : W 0 m0 H0) :
    codeAny (model B.prog B.w) B.A (.compLoop (.DictComp kx vx gens sc ps) d (.ref it) acc B.env) R s0 := by
  have fpok : ∀ {H : Hp}, (∀ b ∈ fp, H b = none) → ∀ b ∈ fp, FpOk B pins H b := fun hn b hb => ⟨hn b hb, (f0 b hb).2⟩
  refine loopE heq (fun n s => ∃ i H, Inv B pins (wipe σ vs) H s ∧ tn i s.heap ∧ (∀ b ∈ fp, H b = none) ∧ W i n H) ?_ m0 s0 ⟨0, H0, I0, t0, fun b hb => (f0 b hb).1, w0⟩
  rintro n s ⟨i, H, I1, t1, n1, w1⟩
  rcases turn i n H w1 with ⟨hstop, hS⟩ | ⟨hgo, Nx, hNx, step⟩
  · refine thnF (T.done B rfl rfl rfl hc i pins s _ H NoE I1 (fpok n1) t1 hstop) fun r s2 h2 => ?_
    obtain ⟨rfl, I2⟩ := h2
    exact fin H s2 I2 hS
  · refine thnF (T.item B rfl rfl rfl hc i pins s _ H NoE I1 (fpok n1) t1 hgo) fun r s2 h2 => ?_
    obtain ⟨u, rfl, h2⟩ := h2
    refine thnF h2 fun _ s3 h3 => ?_
    obtain ⟨x, H3, I3, r3, y3, t3, n3⟩ := h3
    have Ip := I3.pinned (fpok n3) (T.obj _ _ t3)
    have pgr := pg.run _ s3 _ H3 x u _ Ip r3 (step x H3 y3)
    rw [hx] at pgr
    refine thnF pgr fun _ s4 h4 => ?_
    obtain ⟨σ4, H4, I4, hw4, q4⟩ := h4
    have ptr := pt.run _ s4 σ4 H4 _ I4 q4
    rw [hx] at ptr
    refine thnF ptr fun b s5 h5 => ?_
    obtain ⟨H5, I5, q5⟩ := h5
    have back : ∀ {τ : L2.St} {H' : Hp} {s' : Shared}, Inv B (pins ++ pinsAt fp s3.heap) τ H' s' → Weaker (wipe σ vs) τ → Nx H' → ∃ m, m < n ∧ ∃ i H, Inv B pins (wipe σ vs) H s' ∧ tn i s'.heap ∧ (∀ b ∈ fp, H b = none) ∧ W i m H := fun {τ H' s'} I' wk nx => by
      obtain ⟨m', hm, w'⟩ := hNx H' nx
      have kept : ∀ b ∈ fp, ∀ o, s3.heap.get? b = some o → s'.heap.get? b = some o ∧ H' b = none := fun b hb o eo =>
        let z := I'.pin (b, o) (List.mem_append_right _ (List.mem_append_right _ (mem_pinsAt hb eo)))
        ⟨z.1, z.2.1⟩
      refine ⟨m', hm, i + 1, H', (I'.unpinned).weak wk.1 wk.2, T.keep _ _ _ t3 fun b hb o eo => (kept b hb o eo).1, fun b hb => ?_, w'⟩
      obtain ⟨o, eo, _⟩ := T.obj _ _ t3 b hb
      exact (kept b hb o eo).2
    cases b with
    | false => exact back I5 (weaker_of hw4) (by simpa using q5)
    | true =>
      simp only [if_true] at q5 ⊢
      refine thnF (em _ σ4 H5 s5 Nx I5 (weaker_of hw4) q5) fun f s6 h6 => ?_
      obtain ⟨rfl, τ6, H6, I6, wk6, nx6⟩ := h6
      exact ⟨rfl, back I6 wk6 nx6⟩
section
variable {X : Cx} {pins : List (Addr × Obj)} {σ : L2.St} {H : Hp} {s : Shared}
theorem new_dict (I : Inv X pins σ H s) {o0 : HO} (h0 : o0 = .dK [] ∨ o0 = .dT []) : Inv X pins σ (upd H s.heap.objs.size o0) { s with heap := s.heap.push { cls := .type "dict", data := .dict #[] } } := by
  refine I.laid (a := s.heap.objs.size) (o := o0) (t' := s.toks) (fun _ _ q => Heap.get?_push_of_some _ q) (Nat.le_refl _) ?_
  rcases h0 with rfl | rfl
  · exact dk_empty s.heap I.big
  · exact dt_empty s.heap I.big
/-- the block of a dict's comprehension, its loop left open -/
theorem blockD {Q : VK} {kx vx tg iter : Expr} {ifs : List Expr} {rest : List Comprehension} {scope : Scope} {own : List (Str × Nat)} {pos pos' : Pos} {wi : TI} {o0 : HO} {use : Option (Value → Sem Unit)} {Qf : Value → Shared → Prop} {Lp : It → Addr → Hp → Prop}
    (h0 : o0 = .dK [] ∨ o0 = .dT []) (hc : X.calm = true) (hN : X.N.Nodup) (I : Inv X pins σ H s) (hi : PI X tg iter wi) (ok : BlkOk X.N X.env.scope scope own) (hs : ∀ x, foldedSetIterable iter X.env x = pure x)
    (h : wi σ H fun J H1 => ∀ D, H1 D = none → Lp J D (upd H1 D o0))
    (loop : ∀ (s3 : Shared) (H3 : Hp) (C : Addr) (cl : List (Str × Addr)) (fp : List Addr) (it : Addr) (tn : Nat → Heap → Prop) (J : It) (D : Addr) (s4 : Shared) (R : Result → Shared → Prop),
      Turn X.prog X.w X.K tg J fp it tn → Inv (X.blk s3 H3 scope (compEnvC scope cl C X.env) fp) [] (wipe σ (own.map (·.2))) H3 s4 → tn 0 s4.heap → (∀ b ∈ fp, FpOk (X.blk s3 H3 scope (compEnvC scope cl C X.env) fp) [] H3 b) → Lp J D H3 →
      (∀ H' s', Inv (X.blk s3 H3 scope (compEnvC scope cl C X.env) fp) [] (wipe σ (own.map (·.2))) H' s' → Q (.ref D) H' → R (.ok .next) s') →
      codeAny (model X.prog X.w) X.A (.compLoop (.DictComp kx vx (⟨tg, iter, ifs, 0⟩ :: rest) scope pos) 0 (.ref it) (.ref D) (compEnvC scope cl C X.env)) R s4)
    (hRR : ∀ D C s' m H', Inv X pins σ H' s' → Q (.ref D) H' → s'.heap.Ns C m → FpOk X pins H' C → compPost (model X.prog X.w) X.A X.xe use Qf (.ref D) C (.ok .next) s') :
    wpAny (model X.prog X.w) X.A (comprehension (.DictComp kx vx (⟨tg, iter, ifs, 0⟩ :: rest) scope pos) scope X.env pos' newDict false (eval iter X.env) use) Qf X.xe s := by
  have free : ∀ y ∈ scope.names, y.2 = .free → ∃ c, X.env.cells.lookup y.1 = some c := fun y hy e => (ok.free y hy e).elim (fun k => I.ok.has _ (.inl k)) fun k => I.ok.has _ (.inr k)
  refine wpAny_comprehension_free (use := use) rfl hs (closure_ok free) ok.kind (fun y hy e => by rw [ok.uniq y hy, e]) (thn (hi.run pins s σ H _ I h) fun xv s1 h1 => thn h1 fun itv s2 h2 => ?_)
  obtain ⟨it, fp, tn, J, H2, rfl, I2, T, t2, f2, lp⟩ := h2
  refine wpAny_newObj_type (newEnv_comp ?_)
  have I3 := new_dict I2 h0
  have lpD := lp s2.heap.objs.size (I2.hok.fresh (Nat.le_refl _))
  generalize hD : s2.heap.objs.size = D at I3 lpD ⊢
  have older : ∀ b ∈ fp, b < s2.heap.objs.size := fun b hb => by
    obtain ⟨o, eo, _⟩ := T.obj _ _ t2 b hb
    exact Heap.lt_size eo
  generalize hs3 : ({ s2 with heap := s2.heap.push { cls := .type "dict", data := .dict #[] } } : Shared) = s3 at I3
  have e3 : s3.heap = s2.heap.push { cls := .type "dict", data := .dict #[] } := by rw [← hs3]
  have f3 : ∀ b ∈ fp, FpOk X pins (upd H2 D o0) b ∧ b < s3.heap.objs.size := fun b hb => by
    have lt := older b hb
    refine ⟨⟨?_, (f2 b hb).2⟩, ?_⟩
    · rw [upd_ne (by rw [← hD]; exact Nat.ne_of_lt lt)]
      exact (f2 b hb).1
    · rw [e3, Heap.size_push]
      exact Nat.lt_succ_of_lt lt
  have t3 : tn 0 s3.heap := T.keep _ _ _ t2 fun b _ o eo => by
    rw [e3]
    exact Heap.get?_push_of_some _ eo
  have I4 := block_start I3 ok hN f3
  generalize hH3 : upd H2 D o0 = H3 at I3 I4 lpD f3
  show codeAny _ _ (.compStart (.DictComp kx vx (⟨tg, iter, ifs, 0⟩ :: rest) scope pos) 0 (.ref it) (.ref D) (compEnvC scope (cellsFrom (s3.heap.objs.size + 1) scope.names (cloFrom X.env.cells scope.names [])) s3.heap.objs.size X.env)) (compPost (model X.prog X.w) X.A X.xe use Qf (.ref D) s3.heap.objs.size) { s3 with heap := pushCells (s3.heap.push { cls := .type "dict", data := .dict #[] }) scope.names }
  generalize hcl : cellsFrom (s3.heap.objs.size + 1) scope.names (cloFrom X.env.cells scope.names []) = cl at I4 ⊢
  generalize hs4 : ({ s3 with heap := pushCells (s3.heap.push { cls := .type "dict", data := .dict #[] }) scope.names } : Shared) = s4 at I4 ⊢
  have t4 : tn 0 s4.heap := T.keep _ _ _ t3 fun b _ o eo => by
    rw [← hs4]
    exact pushCells_keeps _ _ _ _ (Heap.get?_push_of_some _ eo)
  have f4 : ∀ b ∈ fp, FpOk (X.blk s3 H3 scope (compEnvC scope cl s3.heap.objs.size X.env) fp) [] H3 b := fun b hb =>
    ⟨(f3 b hb).1.1, (I4.ok.exf b hb).1, I4.ok.exfs b hb, .inl hb, fun x c ec => (I4.ok.exf b hb).2 x c ec, fun p hp => absurd (show p ∈ ([] : List (Addr × Obj)) ++ [] from hp) (by simp)⟩
  have L := loop s3 H3 s3.heap.objs.size cl fp it tn J D s4 (compPost (model X.prog X.w) X.A X.xe use Qf (.ref D) s3.heap.objs.size) T I4 t4 f4 lpD fun H' s' I' q => by
    have Ib : Inv X pins σ H' s' := I3.call' (ch := fp) I'.os I'.base I'.hok I'.bare fun b hb => ⟨(f3 b hb).1.2.2.2.1, (f3 b hb).1.2.1, (f3 b hb).1.2.2.2.2.1, (f3 b hb).1.2.2.2.2.2⟩
    obtain ⟨m, hn, _⟩ := I'.loc
    exact hRR D s3.heap.objs.size s' m H' Ib q hn (I3.fpOk (Nat.le_refl _) I'.free)
  exact codeAny_compStart_dict L (T.self X.A 0 _ _ _ t4 L)
end
/-! ### the store, the last clause's end -/
/-- what stores one entry, and goes on -/
def Kput (kx vx : Expr) (D : Addr) (env : Env) (c : Code) : Sem Fin := do
  (do
    let kv ← eval kx env
    let vv ← holding [kv] (eval vx env)
    standAt { kx.pos with endLine := vx.pos.endLine, endCol := vx.pos.endCol }
    holding [kv, vv] (dictSet D kv vv))
  again c
theorem put_run {B : Cx} {qs : List (Addr × Obj)} {τ : L2.St} {H : Hp} {s : Shared} {kx vx : Expr} {tk tv : TE} {D : Addr} {c : Code} {Nx : Hp → Prop} (hu : B.A.units < cLine) (hx : B.xe = NoE) (pk : PE B kx tk) (pv : PE B vx tv) (I : Inv B qs τ H s)
    (h : tk τ H fun y H4 => tv τ H4 fun z H5 => ∃ H6, DPut H5 D y z H6 ∧ Nx H6) : wpAny (model B.prog B.w) B.A (Kput kx vx D B.env c) (fun f s5 => f = .again c ∧ ∃ H5, Inv B qs τ H5 s5 ∧ Nx H5) NoE s := by
  unfold Kput
  have kr := pk.run _ s τ H _ I h
  rw [hx] at kr
  refine wpAny_bind (wpAny_bind (thnF kr fun u s1 h1 => ?_))
  obtain ⟨y, H1, I1, r1, h1⟩ := h1
  have vr := pv.run _ s1 τ H1 _ I1 h1
  rw [hx] at vr
  refine wpAny_bind (wpAny_holding (thnF vr fun v s2 h2 => ?_))
  obtain ⟨z, H2, I2, r2, H3, hp, nx⟩ := h2
  exact wpAny_bind (wpAny_standAt (wpAny_holding (d_dictPut hu I2 hp r1 r2 fun s3 I3 => wpAny_pure ⟨rfl, H3, I3, nx⟩)))
section
variable {X : Cx}
/-- {k: v for target in iter if ..}: the walk -/
def Lp1 (g : TG) (tt : TT) (tk tv : TE) (vs : List Nat) (σ : L2.St) (Q : VK) (J : It) (D : Addr) (H0 : Hp) : Prop := ∃ W : Nat → Nat → Hp → Prop, (∃ m, W 0 m H0) ∧ ∀ i m H, W i m H →
  (J.stop i H ∧ Q (.ref D) H) ∨ (J.go i H ∧ ∃ Nx : Hp → Prop, (∀ H', Nx H' → ∃ m', m' < m ∧ W (i + 1) m' H') ∧ ∀ x H', J.yld i H x H' → g x (wipe σ vs) H' fun σ2 H2 => wipe σ2 vs = wipe σ vs ∧ tt σ2 H2 fun b H3 =>
    if b = true then (tk σ2 H3 fun y H4 => tv σ2 H4 fun z H5 => ∃ H6, DPut H5 D y z H6 ∧ Nx H6) else Nx H3)
def tDp (o0 : HO) (wi : TI) (g : TG) (tt : TT) (tk tv : TE) (vs : List Nat) : TE := fun σ H Q => wi σ H fun J H1 => ∀ D, H1 D = none → Lp1 g tt tk tv vs σ Q J D (upd H1 D o0)
/-- the walk of a second clause -/
def In2 (g1 : TG) (tt1 : TT) (tk tv : TE) (vs1 : List Nat) (D : Addr) (σ2 : L2.St) (Nx : Hp → Prop) (J1 : It) (H4 : Hp) : Prop := ∃ W1 : Nat → Nat → Hp → Prop, (∃ m, W1 0 m H4) ∧ ∀ j k H, W1 j k H →
  (J1.stop j H ∧ Nx H) ∨ (J1.go j H ∧ ∃ Nx1 : Hp → Prop, (∀ H', Nx1 H' → ∃ k', k' < k ∧ W1 (j + 1) k' H') ∧ ∀ x H', J1.yld j H x H' → g1 x (wipe σ2 vs1) H' fun σ3 H5 => wipe σ3 vs1 = wipe σ2 vs1 ∧ tt1 σ3 H5 fun b H6 =>
    if b = true then (tk σ3 H6 fun y H7 => tv σ3 H7 fun z H8 => ∃ H9, DPut H8 D y z H9 ∧ Nx1 H9) else Nx1 H6)
/-- {k: v for target in iter if .. for target1 in iter1 if ..} -/
def Lp2 (g : TG) (tt : TT) (wi1 : TI) (g1 : TG) (tt1 : TT) (tk tv : TE) (vs vs1 : List Nat) (σ : L2.St) (Q : VK) (J : It) (D : Addr) (H0 : Hp) : Prop := ∃ W : Nat → Nat → Hp → Prop, (∃ m, W 0 m H0) ∧ ∀ i m H, W i m H →
  (J.stop i H ∧ Q (.ref D) H) ∨ (J.go i H ∧ ∃ Nx : Hp → Prop, (∀ H', Nx H' → ∃ m', m' < m ∧ W (i + 1) m' H') ∧ ∀ x H', J.yld i H x H' → g x (wipe σ vs) H' fun σ2 H2 => wipe σ2 vs = wipe σ vs ∧ tt σ2 H2 fun b H3 =>
    if b = true then wi1 σ2 H3 (In2 g1 tt1 tk tv vs1 D σ2 Nx) else Nx H3)
def tDp2 (o0 : HO) (wi : TI) (g : TG) (tt : TT) (wi1 : TI) (g1 : TG) (tt1 : TT) (tk tv : TE) (vs vs1 : List Nat) : TE := fun σ H Q => wi σ H fun J H1 => ∀ D, H1 D = none → Lp2 g tt wi1 g1 tt1 tk tv vs vs1 σ Q J D (upd H1 D o0)
abbrev Blks (X : Cx) (scope : Scope) (Φ : Cx → Prop) : Prop := ∀ (s : Shared) (H : Hp) (C : Addr) (cl : List (Str × Addr)) (fp : List Addr), Φ (X.blk s H scope (compEnvC scope cl C X.env) fp)
theorem core1 {pins : List (Addr × Obj)} {s : Shared} {σ : L2.St} {H : Hp} {Q : VK} {kx vx tg iter : Expr} {ifs : List Expr} {scope : Scope} {own : List (Str × Nat)} {pos pos' : Pos} {wi : TI} {g : TG} {tt : TT} {tk tv : TE} {o0 : HO} {use : Option (Value → Sem Unit)} {Qf : Value → Shared → Prop}
    (h0 : o0 = .dK [] ∨ o0 = .dT []) (hu : X.A.units < cLine) (hc : X.calm = true) (hN : X.N.Nodup) (I : Inv X pins σ H s) (hi : PI X tg iter wi) (ok : BlkOk X.N X.env.scope scope own) (hs : ∀ x, foldedSetIterable iter X.env x = pure x)
    (hg : Blks X scope fun B => PG B tg g) (ht : Blks X scope fun B => PTs B ifs tt) (hk : Blks X scope fun B => PE B kx tk) (hv : Blks X scope fun B => PE B vx tv) (h : tDp o0 wi g tt tk tv (own.map (·.2)) σ H Q)
    (hRR : ∀ D C s' m H', Inv X pins σ H' s' → Q (.ref D) H' → s'.heap.Ns C m → FpOk X pins H' C → compPost (model X.prog X.w) X.A X.xe use Qf (.ref D) C (.ok .next) s') :
    wpAny (model X.prog X.w) X.A (comprehension (.DictComp kx vx [⟨tg, iter, ifs, 0⟩] scope pos) scope X.env pos' newDict false (eval iter X.env) use) Qf X.xe s := by
  refine blockD (own := own) (rest := []) (Lp := Lp1 g tt tk tv (own.map fun x : Str × Nat => x.2) σ Q) h0 hc hN I hi ok hs h (fun s3 H3 C cl fp it tn J D s4 R T I4 t4 f4 lp fin => ?_) hRR
  obtain ⟨W, ⟨m0, w0⟩, turn⟩ := lp
  exact clause (B := X.blk s3 H3 scope (compEnvC scope cl C X.env) fp) (d := 0) (p := iter.pos) (K := Kput kx vx D (compEnvC scope cl C X.env) (.compLoop (.DictComp kx vx [⟨tg, iter, ifs, 0⟩] scope pos) 0 (.ref it) (.ref D) (compEnvC scope cl C X.env)))
    (Stop := fun H => Q (.ref D) H) (Em := fun σ2 H3 Nx => tk σ2 H3 fun y H4 => tv σ2 H4 fun z H5 => ∃ H6, DPut H5 D y z H6 ∧ Nx H6) hc rfl T (hg _ _ _ _ _) (ht _ _ _ _ _) (by rfl) turn
    (fun qs τ H s Nx I' wk hem => thnF (put_run hu rfl (hk _ _ _ _ _) (hv _ _ _ _ _) I' hem) fun f s5 h5 => by
      obtain ⟨rfl, H5, I5, nx⟩ := h5
      exact ⟨rfl, τ, H5, I5, wk, nx⟩) fin I4 t4 f4 w0
/-- the first of two clauses goes into the second -/
def Kin (kx vx tg1 iter1 : Expr) (ifs1 : List Expr) (gens : List Comprehension) (scope : Scope) (pos : Pos) (acc : Value) (env : Env) (c : Code) : Sem Fin := do
  let x ← eval iter1 env
  standAt iter1.pos
  let x ← foldedSetIterable iter1 env x
  let _ ← runOwn (.compStart (.DictComp kx vx gens scope pos) 1 (← holding [x] (pyIter x)) acc env) env
  again c
theorem start1D {prog : Program} {w : World} {A : Around} {R : Result → Shared → Prop} {s : Shared} {kx vx t0 i0 t1 i1 : Expr} {ifs0 ifs1 : List Expr} {scope : Scope} {pos : Pos} {it acc : Value} {env : Env} (h0 : codeAny (model prog w) A (.compLoop (.DictComp kx vx [⟨t0, i0, ifs0, 0⟩, ⟨t1, i1, ifs1, 0⟩] scope pos) 1 it acc env) R s)
    (h : wpAny (model prog w) A (pyIter it) (fun it2 s2 => codeAny (model prog w) A (.compLoop (.DictComp kx vx [⟨t0, i0, ifs0, 0⟩, ⟨t1, i1, ifs1, 0⟩] scope pos) 1 it2 acc env) R s2) NoE s) :
    codeAny (model prog w) A (.compStart (.DictComp kx vx [⟨t0, i0, ifs0, 0⟩, ⟨t1, i1, ifs1, 0⟩] scope pos) 1 it acc env) R s := by
  refine codeAny_of_tree ?_
  show wpAny _ _ ((compStart (.DictComp kx vx [⟨t0, i0, ifs0, 0⟩, ⟨t1, i1, ifs1, 0⟩] scope pos) 1 it acc env).onRaise fun x => do noteFrame x env; standAt theWindowsPlace) _ _ s
  refine wpAny_notedAt ?_
  unfold compStart
  show wpAny _ _ (ask >>= _) _ _ s
  refine wpAny_bind (wpAny_askSetting (wpAny_ite ?_))
  split
  · first
      | exact wpAny_pure (And.intro rfl h0)
      | exact wpAny_bind (wpAny_pure (wpAny_pure (And.intro rfl h0)))
  · first
      | exact wpAny_bind (wpAny_rule (wpAny_bind (wpAny_standAt (wpAny_bind (thnF h fun it2 s2 h2 => wpAny_pure (And.intro rfl h2))))))
      | (refine wpAny_bind (wpAny_rule ?_)
         show wpAny _ _ (standAt i1.pos >>= _) _ _ s
         exact wpAny_bind (wpAny_standAt (wpAny_bind (thnF h fun it2 s2 h2 => wpAny_pure (And.intro rfl h2)))))
theorem core2 {pins : List (Addr × Obj)} {s : Shared} {σ : L2.St} {H : Hp} {Q : VK} {kx vx tg iter tg1 iter1 : Expr} {ifs ifs1 : List Expr} {scope : Scope} {own : List (Str × Nat)} {vs1 : List Nat} {pos pos' : Pos} {wi wi1 : TI} {g g1 : TG} {tt tt1 : TT} {tk tv : TE} {o0 : HO} {use : Option (Value → Sem Unit)} {Qf : Value → Shared → Prop}
    (h0 : o0 = .dK [] ∨ o0 = .dT []) (hu : X.A.units < cLine) (hc : X.calm = true) (hN : X.N.Nodup) (I : Inv X pins σ H s) (hi : PI X tg iter wi) (ok : BlkOk X.N X.env.scope scope own) (hvs : ∀ i ∈ vs1, i ∈ own.map (·.2)) (hs : ∀ x, foldedSetIterable iter X.env x = pure x) (hs1 : ∀ env x, foldedSetIterable iter1 env x = pure x)
    (hg : Blks X scope fun B => PG B tg g) (ht : Blks X scope fun B => PTs B ifs tt) (hi1 : Blks X scope fun B => PI B tg1 iter1 wi1) (hg1 : Blks X scope fun B => PG B tg1 g1) (ht1 : Blks X scope fun B => PTs B ifs1 tt1) (hk : Blks X scope fun B => PE B kx tk) (hv : Blks X scope fun B => PE B vx tv)
    (h : tDp2 o0 wi g tt wi1 g1 tt1 tk tv (own.map (·.2)) vs1 σ H Q)
    (hRR : ∀ D C s' m H', Inv X pins σ H' s' → Q (.ref D) H' → s'.heap.Ns C m → FpOk X pins H' C → compPost (model X.prog X.w) X.A X.xe use Qf (.ref D) C (.ok .next) s') :
    wpAny (model X.prog X.w) X.A (comprehension (.DictComp kx vx [⟨tg, iter, ifs, 0⟩, ⟨tg1, iter1, ifs1, 0⟩] scope pos) scope X.env pos' newDict false (eval iter X.env) use) Qf X.xe s := by
  refine blockD (own := own) (rest := [⟨tg1, iter1, ifs1, 0⟩]) (Lp := Lp2 g tt wi1 g1 tt1 tk tv (own.map fun x : Str × Nat => x.2) vs1 σ Q) h0 hc hN I hi ok hs h (fun s3 H3 C cl fp it tn J D s4 R T I4 t4 f4 lp fin => ?_) hRR
  obtain ⟨W, ⟨m0, w0⟩, turn⟩ := lp
  generalize hce : compEnvC scope cl C X.env = ce at *
  have gB := fun Φ (z : Blks X scope Φ) => z s3 H3 C cl fp
  rw [hce] at gB
  refine clause (B := X.blk s3 H3 scope ce fp) (d := 0) (p := iter.pos) (K := Kin kx vx tg1 iter1 ifs1 [⟨tg, iter, ifs, 0⟩, ⟨tg1, iter1, ifs1, 0⟩] scope pos (.ref D) ce (.compLoop (.DictComp kx vx [⟨tg, iter, ifs, 0⟩, ⟨tg1, iter1, ifs1, 0⟩] scope pos) 0 (.ref it) (.ref D) ce))
    (Stop := fun H => Q (.ref D) H) (Em := fun σ2 H3 Nx => wi1 σ2 H3 (In2 g1 tt1 tk tv vs1 D σ2 Nx)) hc rfl T (gB _ hg) (gB _ ht) (by rfl) turn (fun qs τ H s Nx I' wk hem => ?_) fin I4 t4 f4 w0
  unfold Kin
  refine wpAny_bind (thnF ((gB _ hi1).run _ s τ H _ I' hem) fun x s5 h5 => ?_)
  refine wpAny_bind (wpAny_standAt (wpAny_bind (wpAny_of_eq (hs1 ce x) (wpAny_bind (wpAny_holding (thnF h5 fun itv s6 h6 => ?_))))))
  obtain ⟨it1, fp1, tn1, J1, H6, rfl, I6, T1, t6, f6, W1, ⟨m1, w1⟩, turn1⟩ := h6
  refine wpAny_bind (wpAny_runOwn ?_)
  rw [Around.mark_none]
  have L := clause (B := X.blk s3 H3 scope ce fp) (pins := [] ++ qs) (σ := τ) (vs := vs1) (d := 1) (p := iter1.pos) (acc := .ref D) (kx := kx) (vx := vx) (gens := [⟨tg, iter, ifs, 0⟩, ⟨tg1, iter1, ifs1, 0⟩]) (sc := scope) (ps := pos) (K := Kput kx vx D ce (.compLoop (.DictComp kx vx [⟨tg, iter, ifs, 0⟩, ⟨tg1, iter1, ifs1, 0⟩] scope pos) 1 (.ref it1) (.ref D) ce))
    (R := fun r s' => match r with
      | .ok _ => ∃ τ5 H5, Inv (X.blk s3 H3 scope ce fp) ([] ++ qs) τ5 H5 s' ∧ Weaker (L2.wipe σ (own.map (·.2))) τ5 ∧ Nx H5
      | .error _ => False)
    (Stop := Nx) (Em := fun σ2 H3 Nx1 => tk σ2 H3 fun y H4 => tv σ2 H4 fun z H5 => ∃ H6, DPut H5 D y z H6 ∧ Nx1 H6) hc rfl T1 (gB _ hg1) (gB _ ht1) (by rfl) turn1
    (fun qs' τ' H' s' Nx1 Iq wkq hem => thnF (put_run hu rfl (gB _ hk) (gB _ hv) Iq hem) fun f s5 h5 => by
      obtain ⟨rfl, H5, I5, nx⟩ := h5
      exact ⟨rfl, τ', H5, I5, wkq, nx⟩) (fun H' s' Iq nx => ⟨_, H', Iq, wk.wipe hvs, nx⟩)
    (I6.weak (wipe_length _ _) fun j v e => (wipe_some e).1) t6 f6 w1
  refine codeAny_mono (start1D L (T1.self X.A 0 _ _ _ t6 L)) fun r s' hr => ?_
  cases r with
  | ok f =>
    first
      | exact wpAny_pure ⟨rfl, hr⟩
      | exact wpAny_bind (wpAny_pure (wpAny_pure ⟨rfl, hr⟩))
  | error e => exact hr.elim
/-! ### given to a name -/
theorem swD {kx vx : Expr} {gs : List Comprehension} {scope : Scope} {pos py : Pos} {y : Str} {l : Nat} {env : Env} (hk : env.scope.kind = .function) (hy : env.scope.names.lookup y = some .local) (hl : (py.line == pos.line) = true)
    (ha : (scope.names.any fun (n, k) => n == y && (k == .local || k == .cell)) = false) : swapsWith (.DictComp kx vx gs scope pos) (some (.Name y py)) l env = pure true := by
  have k1 : env.kindOf y = some .local := hy
  have k2 : env.blockKind = .function := by
    unfold Env.blockKind
    rw [hk]
    rfl
  unfold swapsWith
  simp only [k2, k1, ha, Expr.pos, hl]
  rfl
theorem ps_setAny {i : Nat} {y : Str} {py pos spos : Pos} {kx vx tg iter : Expr} {ifs : List Expr} {rest : List Comprehension} {scope : Scope} {T : TE} (hN : X.N.Nodup) (hy : X.N[i]? = some y) (hyl : X.env.scope.names.lookup y = some .local)
    (hsw : swapsWith (.DictComp kx vx (⟨tg, iter, ifs, 0⟩ :: rest) scope pos) (some (.Name y py)) spos.line X.env = pure true)
    (core : ∀ (pins : List (Addr × Obj)) (s : Shared) (σ : L2.St) (H : Hp) (Q : VK) (pos' : Pos) (use : Option (Value → Sem Unit)) (Qf : Value → Shared → Prop), Inv X pins σ H s → T σ H Q →
      (∀ D C s' m H', Inv X pins σ H' s' → Q (.ref D) H' → s'.heap.Ns C m → FpOk X pins H' C → compPost (model X.prog X.w) X.A X.xe use Qf (.ref D) C (.ok .next) s') →
      wpAny (model X.prog X.w) X.A (comprehension (.DictComp kx vx (⟨tg, iter, ifs, 0⟩ :: rest) scope pos) scope X.env pos' newDict false (eval iter X.env) use) Qf X.xe s) :
    PS X (.Assign [.Name y py] (.DictComp kx vx (⟨tg, iter, ifs, 0⟩ :: rest) scope pos) spos) (tAsg T (gName i)) := by
  refine ⟨fun pins s σ H D I h => ?_⟩
  rw [exec_Assign_Name_used _ _ _ _ hsw]
  refine wpAny_bind (wpAny_standAt (wpAny_bind ?_))
  show wpAny _ X.A (do let _ ← comprehension (.DictComp kx vx (⟨tg, iter, ifs, 0⟩ :: rest) scope pos) scope X.env (firstIterPos (⟨tg, iter, ifs, 0⟩ :: rest) pos) newDict false (eval iter X.env) (some (assign (.Name y py) X.env))) _ _ s
  have h : T σ H fun x H1 => gName i x σ H1 D.nx := h
  refine wpAny_bind (thn (core pins s σ H (fun x H1 => gName i x σ H1 D.nx) _ _ (fun _ s' => SP X pins D .next s') I h fun L C s' m H' I' q hn f => ?_) fun _ s' hq => wpAny_pure (wpAny_pure hq))
  show wpAny _ _ (assign (.Name y py) X.env (.ref L)) _ _ _
  refine wpAny_assign_Name (store_ok2 (v := V.ref L) I' hN hy (.inl hyl) rfl (fun s2 I2 ⟨a, sb, ha⟩ => ?_) (.inr hyl))
  obtain ⟨f0, f1, f2, f3, f4, f5⟩ := f
  have apart : C ≠ a := ha.elim (fun z => by rw [z]; exact f1) fun z e => f4 y a z e.symm
  refine ⟨m, hn.sameBut sb apart, fun h3 sb3 => ?_⟩
  exact ⟨_, H', I2.turned (t' := s2.toks) (fun b o hb eo => (sb3.2 b hb).trans eo) f0 f1 f3 f4 f5, q⟩
/-- name = {k: v for target in iter if ..}, the name a local -/
theorem ps_setDp (o0 : HO) {i : Nat} {y : Str} {py pos spos : Pos} {kx vx tg iter : Expr} {ifs : List Expr} {scope : Scope} {own : List (Str × Nat)} {wi : TI} {g : TG} {tt : TT} {tk tv : TE} (h0 : o0 = .dK [] ∨ o0 = .dT []) (hu : X.A.units < cLine) (hc : X.calm = true) (hN : X.N.Nodup) (hy : X.N[i]? = some y) (hyl : X.env.scope.names.lookup y = some .local)
    (hsw : swapsWith (.DictComp kx vx [⟨tg, iter, ifs, 0⟩] scope pos) (some (.Name y py)) spos.line X.env = pure true) (hi : PI X tg iter wi) (ok : BlkOk X.N X.env.scope scope own)
    (hg : Blks X scope fun B => PG B tg g) (ht : Blks X scope fun B => PTs B ifs tt) (hk : Blks X scope fun B => PE B kx tk) (hv : Blks X scope fun B => PE B vx tv) (hs : ∀ x, foldedSetIterable iter X.env x = pure x := by intro _; rfl) :
    PS X (.Assign [.Name y py] (.DictComp kx vx [⟨tg, iter, ifs, 0⟩] scope pos) spos) (tAsg (tDp o0 wi g tt tk tv (own.map (·.2))) (gName i)) :=
  ps_setAny hN hy hyl hsw fun pins s σ H Q pos' use Qf I h hRR => core1 (own := own) h0 hu hc hN I hi ok hs hg ht hk hv h hRR
/-- two clauses -/
theorem ps_setDp2 (o0 : HO) {i : Nat} {y : Str} {py pos spos : Pos} {kx vx tg iter tg1 iter1 : Expr} {ifs ifs1 : List Expr} {scope : Scope} {own : List (Str × Nat)} {vs1 : List Nat} {wi wi1 : TI} {g g1 : TG} {tt tt1 : TT} {tk tv : TE} (h0 : o0 = .dK [] ∨ o0 = .dT []) (hu : X.A.units < cLine) (hc : X.calm = true) (hN : X.N.Nodup) (hy : X.N[i]? = some y) (hyl : X.env.scope.names.lookup y = some .local)
    (hsw : swapsWith (.DictComp kx vx [⟨tg, iter, ifs, 0⟩, ⟨tg1, iter1, ifs1, 0⟩] scope pos) (some (.Name y py)) spos.line X.env = pure true) (hi : PI X tg iter wi) (ok : BlkOk X.N X.env.scope scope own) (hvs : ∀ i ∈ vs1, i ∈ own.map (·.2))
    (hg : Blks X scope fun B => PG B tg g) (ht : Blks X scope fun B => PTs B ifs tt) (hi1 : Blks X scope fun B => PI B tg1 iter1 wi1) (hg1 : Blks X scope fun B => PG B tg1 g1) (ht1 : Blks X scope fun B => PTs B ifs1 tt1) (hk : Blks X scope fun B => PE B kx tk) (hv : Blks X scope fun B => PE B vx tv)
    (hs : ∀ x, foldedSetIterable iter X.env x = pure x := by intro _; rfl) (hs1 : ∀ env x, foldedSetIterable iter1 env x = pure x := by intro _ _; rfl) :
    PS X (.Assign [.Name y py] (.DictComp kx vx [⟨tg, iter, ifs, 0⟩, ⟨tg1, iter1, ifs1, 0⟩] scope pos) spos) (tAsg (tDp2 o0 wi g tt wi1 g1 tt1 tk tv (own.map (·.2)) vs1) (gName i)) :=
  ps_setAny hN hy hyl hsw fun pins s σ H Q pos' use Qf I h hRR => core2 (own := own) h0 hu hc hN I hi ok hvs hs hs1 hg ht hi1 hg1 ht1 hk hv h hRR
end
/-! ### the forms one uses -/
/-- over a list that stays -/
theorem lp1_list {K : PySem.W.Frag} {a : Addr} {xs : List V} {g : TG} {tt : TT} {tk tv : TE} {vs : List Nat} {σ : L2.St} {Q : VK} {D : Addr} {H0 : Hp} (Pv : Nat → Hp → Prop) (h0 : Pv 0 H0) (hl : ∀ i H, i ≤ xs.length → Pv i H → SqL K H a xs)
    (hs : ∀ i x H, xs[i]? = some x → Pv i H → g x (wipe σ vs) H fun σ2 H2 => wipe σ2 vs = wipe σ vs ∧ tt σ2 H2 fun b H3 => if b = true then (tk σ2 H3 fun y H4 => tv σ2 H4 fun z H5 => ∃ H6, DPut H5 D y z H6 ∧ Pv (i + 1) H6) else Pv (i + 1) H3)
    (hd : ∀ H, Pv xs.length H → Q (.ref D) H) : Lp1 g tt tk tv vs σ Q (Itl K a) D H0 := by
  refine ⟨fun i m H => m = xs.length - i ∧ i ≤ xs.length ∧ Pv i H, ⟨xs.length, by simp, Nat.zero_le _, h0⟩, ?_⟩
  rintro i m H ⟨rfl, hi, p⟩
  have q := hl i H hi p
  by_cases hlt : i < xs.length
  · refine .inr ⟨⟨xs, xs[i], q, by simp [hlt]⟩, Pv (i + 1), fun H' p' => ⟨xs.length - (i + 1), by omega, rfl, hlt, p'⟩, fun x H' yl => ?_⟩
    obtain ⟨rfl, yl⟩ := yl
    exact hs i x _ (yl xs q) p
  · obtain rfl : i = xs.length := by omega
    exact .inl ⟨⟨xs, q, Nat.le_refl _⟩, hd H p⟩
theorem lp2_list {K : PySem.W.Frag} {a : Addr} {xs : List V} {g g1 : TG} {wi1 : TI} {tt tt1 : TT} {tk tv : TE} {vs vs1 : List Nat} {σ : L2.St} {Q : VK} {D : Addr} {H0 : Hp} (Pv : Nat → Hp → Prop) (h0 : Pv 0 H0) (hl : ∀ i H, i ≤ xs.length → Pv i H → SqL K H a xs)
    (hs : ∀ i x H, xs[i]? = some x → Pv i H → g x (wipe σ vs) H fun σ2 H2 => wipe σ2 vs = wipe σ vs ∧ tt σ2 H2 fun b H3 => if b = true then wi1 σ2 H3 (In2 g1 tt1 tk tv vs1 D σ2 (Pv (i + 1))) else Pv (i + 1) H3)
    (hd : ∀ H, Pv xs.length H → Q (.ref D) H) : Lp2 g tt wi1 g1 tt1 tk tv vs vs1 σ Q (Itl K a) D H0 := by
  refine ⟨fun i m H => m = xs.length - i ∧ i ≤ xs.length ∧ Pv i H, ⟨xs.length, by simp, Nat.zero_le _, h0⟩, ?_⟩
  rintro i m H ⟨rfl, hi, p⟩
  have q := hl i H hi p
  by_cases hlt : i < xs.length
  · refine .inr ⟨⟨xs, xs[i], q, by simp [hlt]⟩, Pv (i + 1), fun H' p' => ⟨xs.length - (i + 1), by omega, rfl, hlt, p'⟩, fun x H' yl => ?_⟩
    obtain ⟨rfl, yl⟩ := yl
    exact hs i x _ (yl xs q) p
  · obtain rfl : i = xs.length := by omega
    exact .inl ⟨⟨xs, q, Nat.le_refl _⟩, hd H p⟩
/-- the second clause over a tuple that stays -/
theorem in2_tup {K : PySem.W.Frag} {a : Addr} {xs : List V} {g1 : TG} {tt1 : TT} {tk tv : TE} {vs1 : List Nat} {σ2 : L2.St} {Nx : Hp → Prop} {D : Addr} {H0 : Hp} (Pv : Nat → Hp → Prop) (h0 : Pv 0 H0) (hl : ∀ i H, i ≤ xs.length → Pv i H → SqT K H a xs)
    (hs : ∀ i x H, xs[i]? = some x → Pv i H → g1 x (wipe σ2 vs1) H fun σ3 H5 => wipe σ3 vs1 = wipe σ2 vs1 ∧ tt1 σ3 H5 fun b H6 => if b = true then (tk σ3 H6 fun y H7 => tv σ3 H7 fun z H8 => ∃ H9, DPut H8 D y z H9 ∧ Pv (i + 1) H9) else Pv (i + 1) H6)
    (hd : ∀ H, Pv xs.length H → Nx H) : In2 g1 tt1 tk tv vs1 D σ2 Nx (Itt K a) H0 := by
  refine ⟨fun i m H => m = xs.length - i ∧ i ≤ xs.length ∧ Pv i H, ⟨xs.length, by simp, Nat.zero_le _, h0⟩, ?_⟩
  rintro i m H ⟨rfl, hi, p⟩
  have q := hl i H hi p
  by_cases hlt : i < xs.length
  · refine .inr ⟨⟨xs, xs[i], q, by simp [hlt]⟩, Pv (i + 1), fun H' p' => ⟨xs.length - (i + 1), by omega, rfl, hlt, p'⟩, fun x H' yl => ?_⟩
    obtain ⟨rfl, yl⟩ := yl
    exact hs i x _ (yl xs q) p
  · obtain rfl : i = xs.length := by omega
    exact .inl ⟨⟨xs, q, Nat.le_refl _⟩, hd H p⟩
end Dc
set_option Elab.async false
set_option linter.all false
set_option maxRecDepth 100000
set_option maxHeartbeats 4000000
/-! sep.join(d) and [*d, ..] of a dict d -/
namespace Jd
open PySem PySem.Spec PyProof.Rows L2
open Builtin Builtin.Str Builtin.Int
theorem nolen_ki : typeLookup (.type "dict_keyiterator") "__len__" = pure none := by
  rw [typeLookup_type, builtinLookup_eq_fast]
  kernel_rfl
theorem hint_ki : typeLookup (.type "dict_keyiterator") "__length_hint__" = pure (some (.builtin "dict_keyiterator.__length_hint__")) := by
  rw [typeLookup_type, builtinLookup_eq_fast]
  kernel_rfl
section
variable {prog : Program} {w : World} {A : Around} {E : Value → Shared → Prop} {s : Shared}
theorem hint_it {r : Addr} {Q : Bool → Shared → Prop} (hT : s.TypeIs (.ref r) "dict_keyiterator") (h : Q false s) : wpAny (model prog w) A (Builtin.List.listLengthHint (.ref r)) Q E s := by
  unfold Builtin.List.listLengthHint
  refine wpAny_bind (wpAny_specialOf hT nolen_ki ?_)
  show wpAny _ A (specialOf (Value.ref r) (Str.ofString "__length_hint__") >>= _) _ _ _
  refine wpAny_bind (wpAny_specialOf hT hint_ki ?_)
  generalize hid : ("dict_keyiterator.__length_hint__" : String) = id0
  wp_delta
  rw [show splitId id0 = some ("dict_keyiterator", "__length_hint__") from by subst hid; decide +kernel]
  subst hid
  refine wpAny_bind (wpAny_isInstance (T := "dict_keyiterator") (b := true) hT (by rw [isSubtype_type]; kernel_rfl) ?_)
  first
    | (refine wpAny_pure ?_
       rw [if_neg (by decide)]
       exact wpAny_pure h)
    | (refine wpAny_ite_split (fun hab => absurd hab (by decide)) (fun _ => ?_)
       refine wpAny_ite_split (fun _ => ?_) (fun hab => absurd (by decide +kernel) hab)
       refine wpAny_ite_split (fun hab => absurd hab (by decide +kernel)) (fun _ => ?_)
       exact wpAny_pure h)
/-- what a dict's key iterator has to tell, in a list -/
theorem collect_it {Q : List Value → Shared → Prop} {I : Addr} {fp wr : List Addr} {G : Array GenState → Array GenState → Prop} {n : Nat} {P : Nat → Value → Prop} {St : Nat → Shared → Prop}
    (W : WalksS prog w A.in1 I fp wr G n P St) (hT : ∀ i s, St i s → s.TypeIs (.ref I) "dict_keyiterator") (st : St 0 s) (hfp : ∀ b ∈ fp, b < s.heap.objs.size) (hI : I ∈ fp) (hn : n ≤ sizeLine)
    (hQ : ∀ s' acc, Moved wr G s s' → ItemsOf P acc n → Q acc.toList s') : wpAny (model prog w) A (collect (.ref I)) Q E s := by
  have nf : s.heap.objs.size ∉ fp := fun hm => Nat.lt_irrefl _ (hfp _ hm)
  have nI : s.heap.objs.size ≠ I := fun e => nf (e ▸ hI)
  unfold collect
  refine wpAny_bind (wpAny_runValue (codeAny_builtin F.entry_proto_collect ?_))
  rw [Around.under_plainId F.plain_proto_collect _]
  show wpAny _ A.in1 (newList [] >>= fun l => again (.builtin "list.__iadd__" ⟨[l, .ref I], []⟩)) _ _ s
  refine wpAny_bind (wpAny_newObj_type (wpAny_pure ⟨plainId_quiet F.plain_list_iadd _, codeAny_builtin F.entry_list_iadd ?_⟩))
  rw [Around.under_plainId F.plain_list_iadd _]
  have st1 := W.frame 0 s (s.heap.push { cls := .type "list", data := .seq ([] : List Value).toArray }) s.toks st (Nat.le_refl _) fun b _ o e => Heap.get?_push_of_some _ e
  have new : (s.heap.push { cls := .type "list", data := .seq ([] : List Value).toArray }).get? s.heap.objs.size = some { cls := .type "list", data := .seq ([] : List Value).toArray } := Heap.get?_push_size _ rfl
  have apart : Builtin.List.listSameRef (.ref s.heap.objs.size) (.ref I) = false := by simp [Builtin.List.listSameRef, nI]
  show wpAny _ A.in1 (Builtin.List.listExtendWith (.ref s.heap.objs.size) (.ref I) (.ref s.heap.objs.size)) _ _ _
  unfold Builtin.List.listExtendWith
  refine wpAny_bind (wpAny_typeOf (hT 0 _ st1) ?_)
  rw [if_neg (by rw [apart]; decide)]
  refine wpAny_bind (W.self 0 _ _ _ st1 (wpAny_bind (wpAny_holding (hint_it (hT 0 _ st1) ?_))))
  refine wpAny_pure ⟨plainId_quiet F.plain_extend_loop _, codeAny_extend_loopS W hn _ nf _ n 0 _ _ _ rfl (Nat.zero_le _) st1 new (ItemsOf.nil P) fun s' acc' c' hm hS' hacc => ?_⟩
  show wpAny _ A (load s.heap.objs.size >>= _) _ _ s'
  exact wpAny_bind (wpAny_load hS' (wpAny_pure (hQ s' acc' (Moved.drop_new (o := { cls := .type "list", data := .seq ([] : List Value).toArray }) (tk := s.toks) hm (Nat.le_refl _)) hacc)))
end
section
variable {X : Cx} {pins : List (Addr × Obj)} {σ : L2.St} {H : Hp} {s : Shared}
theorem pget {α β : Type} {F : α → β → Prop} : ∀ {l : List α} {m : List β} {j : Nat} {a : α}, Paired F l m → l[j]? = some a → ∃ b, m[j]? = some b ∧ F a b
  | _, _, _, _, .nil, e => by simp at e
  | _, _, 0, _, .cons r _, e => by
    simp at e
    subst e
    exact ⟨_, rfl, r⟩
  | _, _, j + 1, _, .cons _ t, e => by
    obtain ⟨b, h1, h2⟩ := pget (j := j) t (by simpa using e)
    exact ⟨b, by simpa using h1, h2⟩
/-- the texts of a dict's keys -/
def txts : List Str → List (Key × V) → Prop := Paired fun a p => p.1 = Sum.inr a
/-- sep.join(d), d a dict with texts for keys -/
theorem mt_joinD (hc : X.calm = true) : MtR X "str.join" (fun x xs H Q => ∃ sep d kvs ws, x = .str sep ∧ xs = [.ref d] ∧ H d = some (.dK kvs) ∧ txts ws kvs ∧ JoinOk sep ws = true ∧ Q (.str (Txt.join sep ws)) H) := by
  intro pins s σ H x xs v us Q I rx rs h
  obtain ⟨sep, d, kvs, ws, rfl, rfl, hd, tx, jok, q⟩ := h
  obtain ⟨t, rfl⟩ := rx
  cases rs with
  | cons r1 rs =>
  cases rs
  cases r1
  obtain ⟨z, lo, vs, rk, dd⟩ := (show ObjOk X.prog X.w H s.heap d (.dK kvs) from I.hok d _ hd)
  obtain ⟨ep, hat⟩ := dd.dictAt
  have lk : kvs.length = vs.length := Paired.length rk
  have lw : ws.length = kvs.length := Paired.length tx
  have hT : s.TypeIs (.ref d) "dict" := hat.dictOf.typeIs
  refine wpAny_call (codeAny_call_builtin F.slot_str_join.plain F.entry_str_join (F.slot_str_join.check _ _ _ _ _ _ _ _ (typeIs_str _ _ _) (F.args_str_join_2 _ _) ?_))
  rw [join_tree_other]
  refine wpAny_bind (wpAny_typeOf hT ?_)
  show wpAny _ X.A.in1 ((pyIter (.ref d)).tryCatch _ >>= fun it => collect it >>= fun items => joinTail sep items) _ _ s
  refine wpAny_bind (wpAny_tryCatch (wpAny_pyIter_dict lo hat ?_))
  have hdI : d ≠ s.heap.objs.size := Nat.ne_of_lt hat.lt_size
  have W := (Walks.dictKeys (prog := X.prog) (w := X.w) (A := X.A.in1.in1) (knd := mixKind X.prog X.w) (I.ok.hd hc) s.heap.objs.size d hdI vs ep).toS
  refine wpAny_bind (collect_it W (fun i s' st => ?_) ⟨⟨_, Heap.get?_push_size _ rfl, rfl, rfl⟩, hat.push _⟩ (fun b hb => ?_) (by simp) (by omega) fun s' acc hm hacc => ?_)
  · obtain ⟨⟨o, ho, hcl, _⟩, _⟩ := st
    exact ⟨o, ho, hcl⟩
  · show b < (s.heap.push _).objs.size
    rw [Heap.size_push]
    rcases List.mem_cons.mp hb with e | hb
    · rw [e]
      exact Nat.lt_succ_self _
    · rw [List.mem_singleton.mp hb]
      exact Nat.lt_succ_of_lt hat.lt_size
  · have at' : ∀ j (u : Value), acc.toList[j]? = some u → ∃ a t, ws[j]? = some a ∧ u = .str a t := fun j u hu => by
      obtain ⟨k, y, hky, hi⟩ := hacc.2 j u (by rw [← Array.getElem?_toList]; exact hu)
      have e1 : (kvs.map (·.1))[j]? = some k := by
        rw [KV.keys rk, List.getElem?_map, hky]
        rfl
      have hj : j < ws.length := by
        have := (List.getElem?_eq_some_iff.mp e1).1
        rw [List.length_map] at this
        omega
      obtain ⟨p, hp, e2⟩ := pget tx (List.getElem?_eq_getElem hj)
      rw [List.getElem?_map, hp] at e1
      have e3 : p.1 = k := Option.some.inj e1
      rw [e2] at e3
      subst e3
      have rv : RelV (kV (.inr ws[j])) u := keyIs_rel hi
      obtain ⟨t2, e4⟩ := (show ∃ t, u = Value.str ws[j] t from rv)
      exact ⟨_, t2, List.getElem?_eq_getElem hj, e4⟩
    obtain ⟨l, hl⟩ := exists_strValues acc.toList fun u hu => by
      obtain ⟨j, hj, rfl⟩ := List.mem_iff_getElem.mp hu
      obtain ⟨a, t2, _, e⟩ := at' j _ (List.getElem?_eq_getElem hj)
      exact ⟨a, t2, e⟩
    have el : l.map (·.1) = ws := by
      have ll : l.length = acc.toList.length := by
        rw [← hl]
        unfold strValues
        rw [List.length_map]
      have la : acc.toList.length = vs.length := by
        rw [Array.length_toList]
        exact hacc.1
      refine List.ext_getElem? fun j => ?_
      rw [List.getElem?_map]
      cases hj : l[j]? with
      | none =>
        rw [List.getElem?_eq_none (l := ws) (by have := List.getElem?_eq_none_iff.mp hj; omega)]
        rfl
      | some p =>
        have h2 : acc.toList[j]? = some (.str p.1 p.2) := by
          rw [← hl]
          unfold strValues
          rw [List.getElem?_map, hj]
          rfl
        obtain ⟨a, t2, ha, e⟩ := at' j _ h2
        injection e with e e'
        rw [ha, ← e]
        rfl
    rw [← hl]
    have jok' : JoinOk sep (l.map (·.1)) = true := by
      rw [el]
      exact jok
    have jno := jok'
    unfold JoinOk at jno
    rw [Bool.not_eq_true'] at jno
    have g : Gives (joinTail sep (strValues l)) (joinMade sep l) := by
      have g0 := gives_joinTail sep l jno
      cases l with
      | nil => exact g0
      | cons p r => cases r with
        | nil => exact g0
        | cons q' r' => exact g0
    refine g X.prog X.w X.A (wants _ _) s' (post_join l ⟨joinFit_length jno, fun t' k => ?_⟩)
    have hk : ∀ b o, s.heap.get? b = some o → s'.heap.get? b = some o := fun b o e =>
      hm.heap b o (fun hI => absurd (Heap.lt_size e) (by rw [List.mem_singleton.mp hI]; exact Nat.lt_irrefl _)) (Heap.get?_push_of_some _ e)
    rw [Moved.eq_with hm, el]
    exact ⟨.str _, H, I.kept hk, ⟨t', rfl⟩, q⟩
/-- [*d, ..]: the keys of a dict whose keys are tuples, or what a list or tuple holds -/
def Items (K : PySem.W.Frag) (H : Hp) (p : Addr) (xs : List V) : Prop := (SqT K H p xs ∨ SqL K H p xs) ∨ ∃ kvs bs, Rd H p (.dT kvs) ∧ IsKeys H kvs bs ∧ xs = bs.map V.ref
theorem star_dT (hc : X.calm = true) {d : Addr} {kvs : List (List Key × V)} {E : Value → Shared → Prop} {Q : List Value → Shared → Prop} (I : Inv X pins σ H s) (hd : Rd H d (.dT kvs)) (hQ : ∀ bs us s', Inv X pins σ H s' → IsKeys H kvs bs → Vals (bs.map V.ref) us → Q us s') : PySem.W.StarOf (model X.prog X.w) X.A E (.ref d) Q s := by
  obtain ⟨z, lo, ks, pr, o, es, ep, ho, hx, hdt, he, hn⟩ := (show ObjOk X.prog X.w H s.heap d (.dT kvs) from hd.ok I.hok)
  have l1 : es.size = ks.length := size_of_entries he
  have l2 : kvs.length = ks.length := Paired.length pr
  have hT : s.TypeIs (.ref d) "dict" := ⟨o, ho, hx.1⟩
  have col : wpAny (model X.prog X.w) X.A (collect (.ref d)) Q E s := by
    refine PySem.W.kdu_collect (kdl_raw lo hx hdt) (I.ok.hd hc) ho (by omega) fun h' tk acc hk it => ?_
    refine hQ (ks.map fun x => x.2.1) acc.toList _ (I.kept hk) (isKeys_of pr) ?_
    have ll : acc.toList.length = ks.length := by
      rw [Array.length_toList, it.1]
      exact l1
    refine vals_of_at (by rw [List.length_map, List.length_map, ll]) fun j x u h1 h2 => ?_
    obtain ⟨en, hen, rfl⟩ := it.2 j u (by rw [← Array.getElem?_toList]; exact h2)
    have qe := entry_at he j
    rw [hen] at qe
    rw [List.getElem?_map, List.getElem?_map] at h1
    cases hb : ks[j]? with
    | none =>
      rw [hb] at qe
      exact nomatch (show some en = none from qe)
    | some b =>
      rw [hb] at qe h1
      have e2 : en = entryOfKey (tupleKind (mixKind X.prog X.w)) b := Option.some.inj qe
      have e3 : V.ref b.2.1 = x := Option.some.inj h1
      rw [← e3, e2]
      rfl
  unfold PySem.W.StarOf notIterableAtAll
  exact wpAny_bind (wpAny_specialOf hT PySem.F.slot_dict_iter.lookup (wpAny_pure ⟨rfl, col⟩))
def tStarD (K : PySem.W.Frag) (te : TE) (t : TA) : TA := fun σ H Q => te σ H fun x H1 => ∃ p, x = V.ref p ∧ ((∃ xs, (SqT K H1 p xs ∨ SqL K H1 p xs) ∧ t σ H1 fun ys H2 => Q (xs ++ ys) H2) ∨ ∃ kvs, Rd H1 p (.dT kvs) ∧ ∀ bs, IsKeys H1 kvs bs → t σ H1 fun ys H2 => Q (bs.map V.ref ++ ys) H2)
theorem pa_starD {e : Expr} {es : List Expr} {p : Pos} {te : TE} {t : TA} (hc : X.calm = true) (he : PE X e te) (hr : PA X es t) (hs : starEach (.Starred e p :: es) X.env = (true, eval e X.env) :: starEach es X.env := by rfl) : PA X (.Starred e p :: es) (tStarD X.K te t) := by
  refine ⟨fun pos pins s σ H Q I h => ?_⟩
  refine PySem.W.items_star (thn (he.run pins s σ H _ I h) fun v s1 ⟨y, H1, I1, ry, a, ey, q⟩ => ?_) hs
  subst ey
  obtain rfl : v = Value.ref a := ry
  rcases q with ⟨xs, hx, q⟩ | ⟨kvs, hd, q⟩
  · refine StX.star_any I1 hx fun us s2 I2 rv => ?_
    exact thn (hr.run pos pins s2 σ H1 _ I2 q) fun ws s3 ⟨vs, H3, I3, r3, q3⟩ => ⟨xs ++ vs, H3, I3, rv.append r3, q3⟩
  · refine star_dT hc I1 hd fun bs us s2 I2 hk rv => ?_
    exact thn (hr.run pos pins s2 σ H1 _ I2 (q bs hk)) fun ws s3 ⟨vs, H3, I3, r3, q3⟩ => ⟨bs.map V.ref ++ vs, H3, I3, rv.append r3, q3⟩
end
end Jd
set_option Elab.async false
set_option linter.all false
set_option maxRecDepth 100000
set_option maxHeartbeats 4000000
/-! sets of tuples of keys of any kind (texts too), below 64 members: the search -/
namespace Sg
open PySem PySem.Spec PyProof.Rows L2
section
variable {P : Program} {w : World} {κ : Type} [DecidableEq κ]
/-- a kind of keys that a search shows nothing of -/
structure Easy (kd : PySem.KeyKind P w κ) : Prop where
  cls : ∀ (n : Nat) (k : κ) (v : Value), kd.is k v = true → ofAClassStatement n v = pure false
  byv : ∀ (n : Nat) (k : κ) (v : Value), kd.is k v = true → ∃ b, hashByValue n v = pure b
variable (kd : PySem.KeyKind P w κ)
abbrev hsh (k : List κ) : Int := tupleKeyHash kd k
abbrev IsK (h : Heap) (k : List κ) (a : Addr) : Prop := IsTupleKey kd h k a
def ent (p : Addr × List κ) : Int × Value := (hsh kd p.2, Value.ref p.1)
/-- the set at a has the members L -/
structure Sof (h : Heap) (a : Addr) (L : List (Addr × List κ)) (es : Array (Int × Value)) (ep : Nat) (t : SetTable) : Prop where
  obj : ∃ o, h.get? a = some o ∧ o.ExactSet ∧ o.data = .set es ep t
  ents : es.toList = L.map (ent kd)
  tb : TabOk t (L.map fun p => hsh kd p.2)
  un : (L.map (·.2)).Nodup
  tp : ∀ p ∈ L, IsK kd h p.2 p.1
  ld : w.params.followText "set-order" = true ∨ t.led = true
  rm : L.length * 5 < t.mask * 3
  fw : L.length < 64
variable {kd}
theorem memK {ks : List κ} {vs : List Value} (h : ItemsAre kd ks vs) : ∀ v ∈ vs, ∃ k, kd.is k v = true := by
  induction h with
  | nil => intro v hv; cases hv
  | cons h1 _ ih =>
    intro v hv
    rcases List.mem_cons.mp hv with rfl | hv
    · exact ⟨_, h1⟩
    · exact ih v hv
variable {A : Around} {E : Value → Shared → Prop} {s : Shared}
theorem cls_tup (Z : Easy kd) {k : List κ} {b : Addr} {Q : Bool → Shared → Prop} (hk : IsK kd s.heap k b) (q : Q false s) : wpAny (model P w) A (ofAClassStatement 8 (.ref b)) Q E s := by
  have ty := hk.typeIs
  obtain ⟨o, items, n, ho, _, hd, hi⟩ := hk
  unfold ofAClassStatement
  refine wpAny_bind (wpAny_typeOf ty ?_)
  dsimp only
  have tt : (("tuple" : String) == "tuple") = true := by decide
  simp only [tt, if_true, Bool.not_true, Bool.false_eq_true, if_false]
  try refine wpAny_bind (wpAny_pure ?_)
  try simp only [Bool.not_true, Bool.false_eq_true, if_false]
  show wpAny _ _ (seqItems? (Value.ref b) >>= _) _ _ s
  refine wpAny_bind (wpAny_seqItems ho hd ?_)
  dsimp only
  refine wpAny_bind ?_
  show wpAny _ _ (forIn items _ _) _ _ s
  rw [← Array.forIn_toList]
  refine wpAny_forIn_list _ (fun more acc s1 => acc.1 = none ∧ s1 = s ∧ ∀ v ∈ more, ∃ k, kd.is k v = true) _ ?_ ?_ _ _ ⟨rfl, rfl, memK hi⟩
  · rintro v more acc s1 ⟨ha, rfl, hm⟩
    obtain ⟨kk, hkk⟩ := hm v List.mem_cons_self
    rw [Z.cls _ _ _ hkk]
    refine wpAny_bind (wpAny_pure ?_)
    simp only [Bool.false_eq_true, if_false]
    exact wpAny_pure ⟨rfl, rfl, fun u hu => hm u (List.mem_cons_of_mem _ hu)⟩
  · rintro ⟨a1, a2⟩ s1 ⟨ha, rfl, _⟩
    simp only at ha
    subst ha
    exact wpAny_pure q
theorem byv_tup (Z : Easy kd) {k : List κ} {b : Addr} {Q : Bool → Shared → Prop} (hk : IsK kd s.heap k b) (q : ∀ z, Q z s) : wpAny (model P w) A (hashByValue 8 (.ref b)) Q E s := by
  have ty := hk.typeIs
  obtain ⟨o, items, n, ho, _, hd, hi⟩ := hk
  unfold hashByValue
  refine wpAny_bind (wpAny_specialOf ty F.slot_tuple_hash.lookup ?_)
  show wpAny _ _ (seqItems? (Value.ref b) >>= _) _ _ s
  refine wpAny_bind (wpAny_seqItems ho hd ?_)
  refine wpAny_bind ?_
  show wpAny _ _ (forIn items _ _) _ _ s
  rw [← Array.forIn_toList]
  have all : ∀ (vs : List Value), (∀ v ∈ vs, ∃ k, kd.is k v = true) → ∀ v ∈ vs, ∃ z, hashByValue 7 v = pure z := fun vs h v hv => (h v hv).elim fun kk e => Z.byv 7 kk v e
  refine wpAny_forIn_list _ (fun more acc s1 => s1 = s ∧ ∀ v ∈ more, ∃ z, hashByValue 7 v = pure z) _ ?_ ?_ _ _ ⟨rfl, all _ (memK hi)⟩
  · rintro v more acc s1 ⟨rfl, hm⟩
    obtain ⟨z, hz⟩ := hm v List.mem_cons_self
    rw [hz]
    refine wpAny_bind (wpAny_pure ?_)
    cases z with
    | true =>
      simp only [Bool.not_true, Bool.false_eq_true, if_false]
      exact wpAny_pure ⟨rfl, fun u hu => hm u (List.mem_cons_of_mem _ hu)⟩
    | false =>
      simp only [Bool.not_false, if_true]
      refine wpAny_pure ?_
      first
        | exact wpAny_pure (q _)
        | exact q _
        | exact ⟨rfl, fun u hu => absurd hu (by simp)⟩
  · rintro ⟨a1, a2⟩ s1 ⟨rfl, _⟩
    cases a1 with
    | none => exact wpAny_pure (q _)
    | some z => exact wpAny_pure (q _)
theorem shown (Z : Easy kd) {k : List κ} {b : Addr} {Q : Bool → Shared → Prop} (hk : IsK kd s.heap k b) {ys : List Value} (hy : ∀ y ∈ ys, ∃ k' c, y = Value.ref c ∧ IsK kd s.heap k' c) (q : Q false s) :
    wpAny (model P w) A (searchCouldBeSeen (.ref b) ys) Q E s := by
  unfold searchCouldBeSeen
  refine wpAny_bind ?_
  refine wpAny_forIn_list _ (fun more acc s1 => acc.1 = none ∧ s1 = s ∧ ∀ y ∈ more, ∃ k' c, y = Value.ref c ∧ IsK kd s.heap k' c) _ ?_ ?_ _ _ ⟨rfl, rfl, hy⟩
  · rintro v more acc s1 ⟨ha, rfl, hm⟩
    obtain ⟨k', c, rfl, hc⟩ := hm v List.mem_cons_self
    have hm' : ∀ y ∈ more, ∃ k' c, y = Value.ref c ∧ IsK kd s1.heap k' c := fun u hu => hm u (List.mem_cons_of_mem _ hu)
    dsimp only
    by_cases hv : (b == c || (carriedByValue (.ref b) && carriedByValue (.ref c))) = true
    · exact wp_if_pos hv (wpAny_pure ⟨rfl, rfl, hm'⟩)
    · refine wp_if_neg hv (wpAny_bind (wpAny_eqIsQuiet_tuple hk ?_))
      simp only [Bool.not_true, Bool.false_eq_true, if_false]
      refine wpAny_bind (wpAny_eqIsQuiet_tuple hc ?_)
      simp only [Bool.not_true, Bool.false_eq_true, if_false]
      refine wpAny_bind (cls_tup Z hk ?_)
      simp only [Bool.false_eq_true, if_false]
      refine wpAny_bind (cls_tup Z hc ?_)
      simp only [Bool.false_eq_true, if_false]
      exact wpAny_pure ⟨rfl, rfl, hm'⟩
  · rintro ⟨a1, a2⟩ s1 ⟨ha, rfl, _⟩
    simp only at ha
    subst ha
    exact wpAny_pure q
variable {a : Addr} {L : List (Addr × List κ)} {es : Array (Int × Value)} {ep : Nat} {t : SetTable}
theorem Sof.sz (R : Sof kd s.heap a L es ep t) : es.size = L.length := by
  rw [← Array.length_toList, R.ents, List.length_map]
theorem Sof.pz (R : Sof kd s.heap a L es ep t) : t.place.size = L.length := by
  rw [R.tb.sz, List.length_map]
theorem Sof.ok (R : Sof kd s.heap a L es ep t) : t.fits es.size = true := by
  have e1 := R.sz
  have e2 := R.pz
  have e3 := R.rm
  unfold SetTable.fits SetTable.fill
  rw [R.tb.dm, Bool.and_eq_true, beq_iff_eq, decide_eq_true_eq]
  show t.place.size = es.size ∧ t.place.size + 0 ≤ t.mask
  omega
theorem Sof.at (R : Sof kd s.heap a L es ep t) {i : Nat} {p : Addr × List κ} (h : L[i]? = some p) : es[i]? = some (ent kd p) := by
  rw [← Array.getElem?_toList, R.ents, List.getElem?_map, h]
  rfl
theorem Sof.stay (R : Sof kd s.heap a L es ep t) : ¬ t.gaveWay = true := by
  unfold SetTable.gaveWay
  rw [mask_odd R.tb.mok]
  decide
/-- the way of a search -/
abbrev Wy (t : SetTable) (h : Int) (c : Nat) : Nat := way t.mask h c
abbrev Pb (t : SetTable) (h : Int) (c : Nat) : SetTable.Probe := nth t.mask (runAt t.mask (SetTable.bits h % (t.mask + 1)) (SetTable.bits h)) c
theorem pb_dummy (m : Nat) : ∀ (n : Nat) (p : SetTable.Probe), p.dummy = none → (nth m p n).dummy = none := by
  intro n
  induction n with
  | zero => intro p h; exact h
  | succ n ih =>
    intro p h
    refine ih (adv m p) ?_
    unfold adv
    split <;> exact h
theorem pb_add (t : SetTable) (h : Int) (c q : Nat) : nth t.mask (Pb t h c) q = Pb t h (c + q) := (nth_add t.mask c _ q).symm
/-- from the c-th step of the way on: it is there, or the empty place at the K-th -/
theorem look (Z : Easy kd) (R : Sof kd s.heap a L es ep t) {x : Addr} {k : List κ} (hx : IsK kd s.heap k x) (hu : A.units < cLine) {K : Nat} (hKf : K < 10 * SetTable.turns t.mask) (hK : Wy t (hsh kd k) K ∉ t.place.toList)
    (hb : ∀ c, c < K → Wy t (hsh kd k) c ∈ t.place.toList) {Q : SetFound → Shared → Prop} (yes : k ∈ L.map (·.2) → Q (.there none) s) (no : k ∉ L.map (·.2) → Q (.free (Wy t (hsh kd k) K) false) s) :
    ∀ (f c : Nat) (stand : Option SetTable.Probe), stand.getD (t.probeStart (hsh kd k)) = Pb t (hsh kd k) c → c ≤ K → K - c < f →
      (∀ (i : Nat) p, L[i]? = some p → p.2 = k → ∃ c', c ≤ c' ∧ c' < K ∧ t.place.toList[i]? = some (Wy t (hsh kd k) c')) →
      wpAny (model P w) A (setSearchFrom a (.ref x) (hsh kd k) true f stand) Q E s := by
  obtain ⟨ob, hob, hex, hdt⟩ := R.obj
  intro f
  induction f with
  | zero => intro c stand _ _ hf _; exact absurd hf (Nat.not_lt_zero _)
  | succ f ih =>
    intro c stand hst hc hf hre
    rw [setSearchFrom_succ]
    refine wpAny_bind (wpAny_setState_of hob hdt R.ok ?_)
    dsimp only
    refine wp_if_neg R.stay ?_
    try refine wpAny_bind (wpAny_pure ?_)
    have wy : ∀ q, (nth t.mask (Pb t (hsh kd k) c) q).j = Wy t (hsh kd k) (c + q) := fun q => congrArg SetTable.Probe.j (pb_add t _ c q)
    have hat : ∀ (i : Nat) p, L[i]? = some p → (es[i]?.map (·.1)).getD 0 = hsh kd p.2 := fun i p hp => by
      rw [R.at hp]
      rfl
    rcases go_spec t R.tb.ris R.tb.dm (fun i => (es[i]?.map (·.1)).getD 0) (hsh kd k) (10 * SetTable.turns t.mask) (K - c) (Pb t (hsh kd k) c) (pb_dummy _ _ _ rfl) (by omega)
      (fun q hq => by rw [wy]; exact hb (c + q) (by omega)) (by rw [wy, show c + (K - c) = K by omega]; exact hK) with ⟨q, i, hq, hi, hh, hno, hpr⟩ | ⟨hno, hpr⟩
    · -- one of the same hash is met at the (c + q)-th step
      have hpr' : t.probe (fun i => (es[i]?.map (·.1)).getD 0) (hsh kd k) (stand.getD (t.probeStart (hsh kd k))) = some (.candidate (Wy t (hsh kd k) (c + q)) i (Pb t (hsh kd k) (c + (q + 1)))) := by
        rw [hst, ← wy, ← pb_add]
        exact hpr
      rw [hpr']
      dsimp only
      rw [wy] at hi
      obtain ⟨p, hp⟩ : ∃ p, L[i]? = some p := by
        have h1 : i < t.place.toList.length := (List.getElem?_eq_some_iff.mp hi).1
        have h2 := R.pz
        rw [Array.length_toList] at h1
        exact ⟨L[i]'(by omega), List.getElem?_eq_getElem _⟩
      have pm : p ∈ L := List.mem_of_getElem? hp
      have live : t.slot (Wy t (hsh kd k) (c + q)) = .live i := slot_live R.tb.ris hi
      have go : wpAny (model P w) A (searchRest a (.ref x) (hsh kd k) true f es t (Wy t (hsh kd k) (c + q)) i (Pb t (hsh kd k) (c + (q + 1)))) Q E s := by
        unfold searchRest
        rw [R.at hp]
        unfold ent
        dsimp only
        refine wpAny_bind (wpAny_holding (wpAny_eqBool_tuple hu (R.tp p pm) hx ?_))
        refine wpAny_bind (wpAny_setState_of hob hdt R.ok ?_)
        dsimp only
        by_cases hkk : p.2 = k
        · exact wp_if_pos (by simp [hkk]) (wpAny_pure (yes (List.mem_map.mpr ⟨p, pm, hkk⟩)))
        · refine wp_if_neg (by simp [hkk]) ?_
          try refine wpAny_bind (wpAny_pure ?_)
          rw [sameMem]
          dsimp only
          have ra := R.at hp
          unfold ent at ra
          simp only [if_true, live, ra]
          refine wpAny_bind (wpAny_isSame_ref_self (wpAny_bind (wpAny_pure ?_)))
          simp only [if_true]
          refine wp_if_neg (by simp [hkk]) ?_
          refine ih (c + (q + 1)) _ rfl (by omega) (by omega) fun i0 p0 h0 hk0 => ?_
          obtain ⟨c', b1, b2, b3⟩ := hre i0 p0 h0 hk0
          refine ⟨c', ?_, b2, b3⟩
          by_cases z : c' < c + q
          · exact absurd ((hat i0 p0 h0).trans (congrArg (hsh kd) hk0)) (hno (c' - c) i0 (by omega) (by rw [wy, show c + (c' - c) = c' by omega]; exact b3))
          · by_cases y : c' = c + q
            · rw [y] at b3
              have l2 := slot_live R.tb.ris b3
              rw [live] at l2
              injection l2 with l2
              rw [← l2, hp] at h0
              exact absurd ((congrArg Prod.snd (Option.some.inj h0)).trans hk0) hkk
            · omega
      by_cases hl : t.led = true
      · refine wp_if_neg (by simp [hl]) ?_
        try refine wpAny_bind (wpAny_pure ?_)
        exact go
      · refine wp_if_pos (by simp [hl]) (wpAny_bind (shown Z hx (fun y hy => ?_) ?_))
        · obtain ⟨e, he, ee⟩ := List.mem_map.mp hy
          have he1 : e ∈ es.toList := by
            have : e ∈ es ∧ e.1 = hsh kd k := by simpa using he
            simpa using this.1
          rw [R.ents] at he1
          obtain ⟨p2, hp2, e2⟩ := List.mem_map.mp he1
          exact ⟨p2.2, p2.1, by rw [← ee, ← e2]; rfl, R.tp p2 hp2⟩
        · refine wp_if_neg (by decide) ?_
          try refine wpAny_bind (wpAny_pure ?_)
          exact go
    · -- the empty place
      have hpr' : t.probe (fun i => (es[i]?.map (·.1)).getD 0) (hsh kd k) (stand.getD (t.probeStart (hsh kd k))) = some (.empty (Wy t (hsh kd k) K) none) := by
        have e2 : Wy t (hsh kd k) K = (nth t.mask (Pb t (hsh kd k) c) (K - c)).j := by rw [wy, show c + (K - c) = K by omega]
        rw [hst, e2]
        exact hpr
      rw [hpr']
      dsimp only
      refine wpAny_pure (no fun hm => ?_)
      obtain ⟨p0, h0, hk0⟩ := List.mem_map.mp hm
      obtain ⟨i0, h00⟩ := List.getElem?_of_mem h0
      obtain ⟨c', b1, b2, b3⟩ := hre i0 p0 h00 hk0
      exact hno (c' - c) i0 (by omega) (by rw [wy, show c + (c' - c) = c' by omega]; exact b3) ((hat i0 p0 h00).trans (congrArg (hsh kd) hk0))
/-- the search that adding makes -/
theorem look0 (Z : Easy kd) (R : Sof kd s.heap a L es ep t) {x : Addr} {k : List κ} (hx : IsK kd s.heap k x) (hu : A.units < cLine) {Q : SetFound → Shared → Prop} (yes : k ∈ L.map (·.2) → Q (.there none) s)
    (no : ∀ K, k ∉ L.map (·.2) → Wy t (hsh kd k) K ∉ t.place.toList → (∀ c, c < K → Wy t (hsh kd k) c ∈ t.place.toList) → Q (.free (Wy t (hsh kd k) K) false) s) :
    wpAny (model P w) A (setSearch a (.ref x) (hsh kd k) true) Q E s := by
  have hrm := R.rm
  obtain ⟨K, hKf, hK, hb⟩ := R.tb.first (by rw [List.length_map]; omega) (hsh kd k)
  have small : K < 100000 := by
    have : 10 * SetTable.turns t.mask ≤ 1420 := by
      unfold SetTable.turns
      rcases R.tb.mok with e | e | e <;> omega
    omega
  unfold setSearch
  refine look Z R hx hu hKf hK hb yes (fun hn => no K hn hK hb) 100000 0 none rfl (Nat.zero_le _) (by omega) fun i p hp hk => ?_
  have hi : (L.map fun p => hsh kd p.2)[i]? = some (hsh kd k) := by
    rw [List.getElem?_map, hp, ← hk]
    rfl
  have hil : i < t.place.toList.length := by
    have h1 : i < L.length := (List.getElem?_eq_some_iff.mp hp).1
    have h2 := R.pz
    rw [Array.length_toList]
    omega
  have hj := List.getElem?_eq_getElem hil
  obtain ⟨c, hc, e⟩ := R.tb.before hK hi hj
  exact ⟨c, Nat.zero_le _, hc, by rw [hj]; exact congrArg some e.symm⟩
end
end Sg
set_option Elab.async false
set_option linter.all false
set_option maxRecDepth 100000
set_option maxHeartbeats 4000000
/-! .. a member put in, the table laid anew -/
namespace Sg
open PySem PySem.Spec PyProof.Rows L2
section
variable {P : Program} {w : World} {κ : Type} [DecidableEq κ] {kd : PySem.KeyKind P w κ} {A : Around} {E : Value → Shared → Prop} {s : Shared}
theorem isK_but {h h' : Heap} {k : List κ} {a b : Addr} {o : Obj} {es : Array (Int × Value)} {ep : Nat} {t : SetTable} (hb : IsK kd h k b) (ho : h.get? a = some o) (hd : o.data = .set es ep t) (hs : Heap.SameBut a h h') : IsK kd h' k b := by
  obtain ⟨u, items, n, hu, hc, hdu, hi⟩ := hb
  have ne : b ≠ a := fun z => by
    rw [z, ho] at hu
    cases hu
    rw [hd] at hdu
    cases hdu
  exact ⟨u, items, n, (hs.2 b ne).trans hu, hc, hdu, hi⟩
theorem range_pick {α : Type} (L : List α) : ∀ n, n ≤ L.length → (List.range n).filterMap (fun i => L[i]?) = L.take n
  | 0, _ => by simp
  | n + 1, hn => by
    have hlt : n < L.length := hn
    rw [List.range_succ, List.filterMap_append, range_pick L n (by omega), List.take_add_one, List.getElem?_eq_getElem hlt]
    simp [hlt]
theorem picked {L : List (Addr × List κ)} {es : Array (Int × Value)} (he : es.toList = L.map (ent kd)) {order : Array Nat} (hp : order.toList.Perm (List.range L.length)) :
    ∃ L2 : List (Addr × List κ), (order.filterMap (es[·]?)).toList = L2.map (ent kd) ∧ L2.Perm L ∧ (L2.map fun p => hsh kd p.2) = order.toList.map fun i => (es.map (·.1)).getD i 0 := by
  have at_ : ∀ i, es[i]? = (L[i]?).map (ent kd) := fun i => by rw [← Array.getElem?_toList, he, List.getElem?_map]
  refine ⟨order.toList.filterMap fun i => L[i]?, ?_, ?_, ?_⟩
  · rw [Array.toList_filterMap, List.map_filterMap]
    congr 1
    funext i
    exact at_ i
  · have h1 := hp.filterMap fun i => L[i]?
    rw [range_pick L L.length (Nat.le_refl _), List.take_length] at h1
    exact h1
  · have key : ∀ l : List Nat, (∀ i ∈ l, i < L.length) → ((l.filterMap fun i => L[i]?).map fun p => hsh kd p.2) = l.map fun i => (es.map (·.1)).getD i 0 := by
      intro l
      induction l with
      | nil => intro _; rfl
      | cons i l ih =>
        intro hl
        have hi := hl i List.mem_cons_self
        rw [List.filterMap_cons_some (List.getElem?_eq_getElem hi), List.map_cons, List.map_cons, ih fun j hj => hl j (List.mem_cons_of_mem _ hj)]
        have e5 : (es.map (·.1))[i]? = some (hsh kd (L[i]).2) := by
          rw [Array.getElem?_map, at_ i, List.getElem?_eq_getElem hi]
          rfl
        have e4 : (es.map (·.1)).getD i 0 = hsh kd (L[i]).2 := by simp [Array.getD_eq_getD_getElem?, e5]
        rw [e4]
    exact key _ fun i hi => List.mem_range.mp (hp.mem_iff.mp hi)
variable {a : Addr} {L : List (Addr × List κ)} {es : Array (Int × Value)} {ep : Nat} {t : SetTable}
/-- laid anew, larger -/
theorem anew {o : Obj} (ho : s.heap.get? a = some o) (hex : o.ExactSet) (hd : o.data = .set es ep t) (he : es.toList = L.map (ent kd)) (hz : t.place.size = es.size) (hdm : t.dummies = #[]) (hfl : es.size ≤ t.mask)
    (un : (L.map (·.2)).Nodup) (tp : ∀ p ∈ L, IsK kd s.heap p.2 p.1) (ld : w.params.followText "set-order" = true ∨ t.led = true) (few : L.length < 64) {wanted M : Nat}
    (hw : SetTable.sizeAbove wanted - 1 = M) (hM : MaskOk M) (hw2 : SetTable.sizeAbove wanted ≤ 128) (hn : L.length * 5 < M * 3) {Q : Unit → Shared → Prop}
    (k : ∀ h' L' es' ep' t', Heap.SameBut a s.heap h' → Sof kd h' a L' es' ep' t' → L'.Perm L → Q () { s with heap := h' }) : wpAny (model P w) A (setRelay a wanted) Q E s := by
  have zl : es.size = L.length := by rw [← Array.length_toList, he, List.length_map]
  have fit : t.fits es.size = true := by
    unfold SetTable.fits SetTable.fill
    rw [hdm, Bool.and_eq_true, beq_iff_eq, decide_eq_true_eq]
    show t.place.size = es.size ∧ t.place.size + 0 ≤ t.mask
    omega
  obtain ⟨t', order, e, hp, T, em, el, ep', _⟩ := relaid_ok t (hs := es.map (·.1)) (wanted := wanted) hw hM (by rw [Array.size_map, zl]; omega)
  rw [Array.size_map, zl] at hp
  obtain ⟨L2, r1, r2, r3⟩ := picked he hp
  rw [← r3] at T
  have z2 : (order.filterMap (es[·]?)).size = es.size := by rw [← Array.length_toList, r1, List.length_map, r2.length_eq, zl]
  rw [setRelay_eq]
  refine wpAny_bind (wpAny_setState_of ho hd fit ?_)
  dsimp only
  refine wp_if_neg (by rw [sizeLine_eq]; omega) ?_
  try refine wpAny_bind (wpAny_pure ?_)
  rw [e]
  dsimp only
  refine wpAny_bind (wp_if_neg (by rw [z2]; simp) ?_)
  try refine wpAny_bind (wpAny_pure ?_)
  refine wpAny_pure ?_
  dsimp only
  refine wpAny_storeSet_of ho hd ?_ (by rw [z2, zl, sizeLine_eq]; omega)
  have sb : Heap.SameBut a s.heap (s.heap.update a (Obj.putSet (order.filterMap (es[·]?)) t')) := Heap.SameBut.update ..
  refine k _ L2 (order.filterMap (es[·]?)) (ep + 1) t' sb ⟨⟨_, store_at ho hd, ⟨hex.1, hex.2.1, hex.2.2⟩, rfl⟩, r1, T, (r2.map (·.2)).nodup_iff.mpr un, fun p hm => isK_but (tp p (r2.mem_iff.mp hm)) ho hd sb, by rw [el]; exact ld, ?_, by rw [r2.length_eq]; exact few⟩ r2
  rw [r2.length_eq, em]
  exact hn
theorem maybe {α : Type} (Z : Easy kd) {k : List κ} {b : Addr} {c : Bool} {g : Bool → Sem α} {Q : α → Shared → Prop} (hk : IsK kd s.heap k b) (q : ∀ z, wpAny (model P w) A (g z) Q E s) :
    wpAny (model P w) A (if c = true then hashByValue 8 (.ref b) >>= g else pure true >>= g) Q E s := by
  cases c with
  | true => exact wpAny_bind (byv_tup Z hk q)
  | false => exact wpAny_bind (wpAny_pure (q true))
/-- put in -/
theorem add1 (Z : Easy kd) (R : Sof kd s.heap a L es ep t) {x : Addr} {k : List κ} (hx : IsK kd s.heap k x) (hu : A.units < cLine) (few : L.length + 1 < 64) {Q : Bool → Shared → Prop}
    (cont : ∀ b h' L' es' ep' t', Heap.SameBut a s.heap h' → Sof kd h' a L' es' ep' t' → (k ∈ L.map (·.2) → L' = L) → (k ∉ L.map (·.2) → L'.Perm ((x, k) :: L)) → Q b { s with heap := h' }) :
    wpAny (model P w) A (setAddHashed a (.ref x) (hsh kd k)) Q E s := by
  obtain ⟨o, ho, hex, hd⟩ := R.obj
  have zl := R.sz
  have hrm := R.rm
  unfold setAddHashed
  refine wpAny_holding ?_
  rw [show (100000 : Nat) = 99999 + 1 from rfl, setAddHashedIn_succ]
  refine wpAny_bind (wpAny_setState_of ho hd R.ok ?_)
  dsimp only
  refine wp_if_neg (by simp [byScan, Value.scannable]) ?_
  try refine wpAny_bind (wpAny_pure ?_)
  refine wpAny_bind (look0 Z R hx hu (fun hm => ?_) fun K hm hK hb => ?_)
  · dsimp only
    exact wpAny_pure (cont false s.heap L es ep t (Heap.SameBut.refl a s.heap) R (fun _ => rfl) fun z => absurd hm z)
  · dsimp only
    refine wpAny_bind (wpAny_setState_of ho hd R.ok ?_)
    dsimp only
    obtain ⟨q1, q2, q3, q4, q5, q6, q7, q8, q9⟩ := R.tb.put hK hb
    generalize hpt : t.put (Wy t (hsh kd k) K) = pt at q1 q3 q4 q5 q6 q7 q8 q9 ⊢
    obtain ⟨t1, p⟩ := pt
    dsimp only at q1 q3 q4 q5 q6 q7 q8 q9 ⊢
    subst q1
    refine maybe Z hx fun bv => ?_
    obtain ⟨t2, ht2, f1, f2, f3, f4⟩ : ∃ t2 : SetTable, (if bv = true then t1 else { t1 with plain := false }) = t2 ∧ TabOk t2 ((L.map fun p => hsh kd p.2).take (SetTable.below t.place (Wy t (hsh kd k) K)) ++ hsh kd k :: (L.map fun p => hsh kd p.2).drop (SetTable.below t.place (Wy t (hsh kd k) K))) ∧ t2.mask = t1.mask ∧ t2.led = t1.led ∧ t2.fill = t1.fill := by
      refine ⟨_, rfl, ?_, ?_, ?_, ?_⟩
      · cases bv with
        | true => exact q3
        | false => exact ⟨q3.ris, q3.dm, q3.sz, q3.mok, q3.bd, q3.reach⟩
      · cases bv <;> rfl
      · cases bv <;> rfl
      · cases bv <;> rfl
    rw [ht2]
    replace q3 := f1
    replace q4 := f2.trans q4
    replace q5 := f3.trans q5
    replace q9 := f4.trans q9
    clear f1 f2 f3 f4 ht2 q6 q7 q8 hpt
    rename_i t1old
    generalize ht1 : t2 = t1 at q3 q4 q5 q9 ⊢
    generalize hpp : SetTable.below t.place (Wy t (hsh kd k) K) = p at q2 q3 ⊢
    have hin : (SetTable.insertAt es p (hsh kd k, Value.ref x)).toList = (L.take p ++ (x, k) :: L.drop p).map (ent kd) := by
      rw [SetTable.toList_insertAt, R.ents, List.map_append, List.map_cons, List.map_take, List.map_drop]
      rfl
    have pm : (L.take p ++ (x, k) :: L.drop p).Perm ((x, k) :: L) := by
      have e := List.perm_middle (a := (x, k)) (l₁ := L.take p) (l₂ := L.drop p)
      rw [List.take_append_drop] at e
      exact e
    have hhs : (L.take p ++ (x, k) :: L.drop p).map (fun p => hsh kd p.2) = (L.map fun p => hsh kd p.2).take p ++ hsh kd k :: (L.map fun p => hsh kd p.2).drop p := by rw [List.map_append, List.map_cons, List.map_take, List.map_drop]
    have q3' : TabOk t1 ((L.take p ++ (x, k) :: L.drop p).map fun p => hsh kd p.2) := by
      rw [hhs]
      exact q3
    have hlen : (L.take p ++ (x, k) :: L.drop p).length = L.length + 1 := pm.length_eq
    have un1 : ((L.take p ++ (x, k) :: L.drop p).map (·.2)).Nodup := (pm.map (·.2)).nodup_iff.mpr (by rw [List.map_cons]; exact List.nodup_cons.mpr ⟨hm, R.un⟩)
    have hes : (SetTable.insertAt es p (hsh kd k, Value.ref x)).size = L.length + 1 := by rw [← Array.length_toList, hin, List.length_map, hlen]
    generalize SetTable.insertAt es p (hsh kd k, Value.ref x) = es1 at hin hes ⊢
    generalize L.take p ++ (x, k) :: L.drop p = L1 at pm hlen q3' un1 hin
    refine wpAny_bind (wpAny_storeSet_of ho hd ?_ (by rw [hes, sizeLine_eq]; omega))
    have sb : Heap.SameBut a s.heap (s.heap.update a (Obj.putSet es1 t1)) := Heap.SameBut.update ..
    have ho1 := store_at (es' := es1) (t' := t1) ho hd
    generalize s.heap.update a (Obj.putSet es1 t1) = h1 at sb ho1 ⊢
    have tp1 : ∀ p ∈ L1, IsK kd h1 p.2 p.1 := fun p hp => by
      rcases List.mem_cons.mp (pm.mem_iff.mp hp) with e | hp
      · rw [e]
        exact isK_but hx ho hd sb
      · exact isK_but (R.tp p hp) ho hd sb
    have ld1 : w.params.followText "set-order" = true ∨ t1.led = true := by
      rw [q5]
      exact R.ld
    have q9' : t1.fill = L.length + 1 := by rw [q9, List.length_map]
    by_cases hf : t1.tooFull = true
    · first
        | (refine wpAny_bind (wp_if_pos (by simp [hf]) ?_))
        | (refine wp_if_pos (by simp [hf]) (wpAny_bind ?_))
      have full : (L.length + 1) * 5 ≥ t1.mask * 3 := by
        have h := hf
        unfold SetTable.tooFull at h
        rw [decide_eq_true_eq, q9'] at h
        exact h
      rw [zl]
      have pz1 : t1.place.size = es1.size := by rw [q3'.sz, List.length_map, hlen, hes]
      have two : (t.mask = 7 ∧ L.length = 4) ∨ (t.mask = 31 ∧ L.length = 18) := by
        rcases R.tb.mok with e | e | e
        · left; rw [q4, e] at full; rw [e] at hrm; exact ⟨e, by omega⟩
        · right; rw [q4, e] at full; rw [e] at hrm; exact ⟨e, by omega⟩
        · exfalso; rw [q4, e] at full; omega
      have big : ∀ M, SetTable.sizeAbove (SetTable.grown (L.length + 1)) - 1 = M → MaskOk M → SetTable.sizeAbove (SetTable.grown (L.length + 1)) ≤ 128 → (L.length + 1) * 5 < M * 3 →
          wpAny (model P w) A (setRelay a (SetTable.grown (L.length + 1))) (fun _ s' => wpAny (model P w) A (pure true) Q E s') E { s with heap := h1 } := fun M b1 b2 b3 b4 =>
        anew (s := { s with heap := h1 }) ho1 ⟨hex.1, hex.2.1, hex.2.2⟩ rfl hin pz1 q3'.dm (by rw [hes, q4]; rcases two with ⟨e, e2⟩ | ⟨e, e2⟩ <;> omega) un1 tp1 ld1 (by rw [hlen]; exact few) b1 b2 b3 (by rw [hlen]; exact b4)
          fun h2 L2 es2 ep2 t2 sb2 R2 pm2 => wpAny_pure (cont true h2 L2 es2 ep2 t2 (sb.trans sb2) R2 (fun z => absurd z hm) fun _ => pm2.trans pm)
      rcases two with ⟨_, e2⟩ | ⟨_, e2⟩
      · exact big 31 (by rw [e2, size_20]) (.inr (.inl rfl)) (by rw [e2, size_20]; decide) (by omega)
      · exact big 127 (by rw [e2, size_76]) (.inr (.inr rfl)) (by rw [e2, size_76]; decide) (by omega)
    · first
        | refine wp_if_neg (by simp [hf]) ?_
        | (refine wpAny_bind (wp_if_neg (by simp [hf]) ?_); refine wpAny_pure ?_)
      refine wpAny_pure (cont true h1 L1 es1 (ep + 1) t1 sb ⟨⟨_, ho1, ⟨hex.1, hex.2.1, hex.2.2⟩, rfl⟩, hin, q3', un1, tp1, ld1, ?_, by rw [hlen]; exact few⟩ (fun z => absurd z hm) fun _ => pm)
      have h := hf
      unfold SetTable.tooFull at h
      rw [decide_eq_true_eq, q9'] at h
      rw [hlen]
      omega
end
end Sg
set_option Elab.async false
set_option linter.all false
set_option maxRecDepth 100000
set_option maxHeartbeats 4000000
/-! .. set(list) -/
namespace Sg
open PySem PySem.Spec PyProof.Rows L2
section
variable {P : Program} {w : World} {κ : Type} [DecidableEq κ] {kd : PySem.KeyKind P w κ} {A : Around} {E : Value → Shared → Prop} {s : Shared}
/-- what came in by the first i -/
structure Gt (ks : List (Addr × List κ)) (i : Nat) (L : List (Addr × List κ)) : Prop where
  sub : ∀ p ∈ L, p ∈ ks.take i
  all : ∀ p ∈ ks.take i, p.2 ∈ L.map (·.2)
  len : L.length ≤ i
theorem Gt.none (ks : List (Addr × List κ)) : Gt ks 0 [] := ⟨fun p h => absurd h (by simp), fun p h => absurd h (by simp), Nat.le_refl _⟩
theorem Gt.old {ks L : List (Addr × List κ)} {i : Nat} {x : Addr × List κ} (g : Gt ks i L) (h : ks[i]? = some x) (hm : x.2 ∈ L.map (·.2)) : Gt ks (i + 1) L := by
  refine ⟨fun p hp => ?_, fun p hp => ?_, Nat.le_succ_of_le g.len⟩
  · rw [List.take_add_one]
    exact List.mem_append_left _ (g.sub p hp)
  · rw [List.take_add_one, h] at hp
    rcases List.mem_append.mp hp with hp | hp
    · exact g.all p hp
    · obtain rfl : p = x := by simpa using hp
      exact hm
theorem Gt.new {ks L L' : List (Addr × List κ)} {i : Nat} {x : Addr × List κ} (g : Gt ks i L) (h : ks[i]? = some x) (pm : L'.Perm (x :: L)) : Gt ks (i + 1) L' := by
  refine ⟨fun p hp => ?_, fun p hp => ?_, ?_⟩
  · rw [List.take_add_one, h]
    rcases List.mem_cons.mp (pm.mem_iff.mp hp) with e | hp
    · rw [e]
      simp
    · exact List.mem_append_left _ (g.sub p hp)
  · rw [(pm.map (·.2)).mem_iff, List.map_cons]
    rw [List.take_add_one, h] at hp
    rcases List.mem_append.mp hp with hp | hp
    · exact List.mem_cons_of_mem _ (g.all p hp)
    · obtain rfl : p = x := by simpa using hp
      exact List.mem_cons_self
  · rw [pm.length_eq, List.length_cons]
    exact Nat.succ_le_succ g.len
theorem isK_keep {h h' : Heap} {k : List κ} {b : Addr} (x : IsK kd h k b) (hk : ∀ c o, h.get? c = some o → h'.get? c = some o) : IsK kd h' k b := by
  obtain ⟨o, items, n, ho, r⟩ := x
  exact ⟨o, items, n, hk b o ho, r⟩
theorem Sof.on {h h' : Heap} {a : Addr} {L : List (Addr × List κ)} {es : Array (Int × Value)} {ep : Nat} {t : SetTable} (R : Sof kd h a L es ep t) (ha : ∀ o, h.get? a = some o → h'.get? a = some o) (ht : ∀ p ∈ L, IsK kd h' p.2 p.1) : Sof kd h' a L es ep t :=
  let ⟨o, ho, r⟩ := R.obj
  ⟨⟨o, ha o ho, r⟩, R.ents, R.tb, R.un, ht, R.ld, R.rm, R.fw⟩
abbrev freshT (w : World) : SetTable := .fresh 0 0 (!w.params.followText "set-order")
abbrev freshO (w : World) : Obj := { cls := .type "set", dict := none, data := .set #[] 0 (freshT w) }
theorem sof_fresh {h : Heap} {a : Addr} (ho : h.get? a = some (freshO w)) : Sof kd h a [] #[] 0 (freshT w) where
  obj := ⟨_, ho, ⟨rfl, rfl, rfl⟩, rfl⟩
  ents := rfl
  tb := ⟨List.Pairwise.nil, rfl, rfl, .inl rfl, fun x hx => (by cases hx), fun i h j hi => (by simp at hi)⟩
  un := List.nodup_nil
  tp := fun p hp => (by cases hp)
  ld := by
    show _ ∨ (!w.params.followText "set-order") = true
    cases w.params.followText "set-order" <;> simp
  rm := by
    show 0 * 5 < 7 * 3
    decide
  fw := by
    show 0 < 64
    decide
/-- the walk of set.update -/
theorem upd_loop (Z : Easy kd) {I : Addr} {fp wr : List Addr} {G : Array GenState → Array GenState → Prop} {n : Nat} {Pv : Nat → Value → Prop} {St : Nat → Shared → Prop} {R : Result → Shared → Prop}
    (W : WalksS P w A.in1 I fp wr G n Pv St) (S : Addr) (hSf : S ∉ fp) (ks : List (Addr × List κ)) (hn : n = ks.length) (few : ks.length < 64) (hval : ∀ i v, Pv i v → ∃ p, ks[i]? = some p ∧ v = .ref p.1)
    (h0 : Heap) (hk : ∀ p ∈ ks, IsK kd h0 p.2 p.1) (hS0 : h0.get? S = none) (hw0 : ∀ b ∈ wr, h0.get? b = none) (hu : A.in1.units < cLine) :
    ∀ (m i : Nat) (s : Shared), n - i = m → i ≤ n → St i s → (∀ b o, h0.get? b = some o → s.heap.get? b = some o) → (∃ L es ep t, Sof kd s.heap S L es ep t ∧ Gt ks i L) →
      (∀ s' L es ep t, Moved (S :: wr) G s s' → Sof kd s'.heap S L es ep t → Gt ks n L → (∀ b o, h0.get? b = some o → s'.heap.get? b = some o) → R (.ok (.ret .none)) s') →
      codeAny (model P w) A (.builtin "set.update.loop" ⟨[.ref S, .ref I], []⟩) R s := by
  have nw : S ∉ wr := fun h => hSf (W.sub _ h)
  have up : ∀ b ∈ wr, b ∈ S :: wr := fun b hb => List.mem_cons_of_mem _ hb
  have on : ∀ {s s' : Shared}, Moved wr G s s' → (∀ b o, h0.get? b = some o → s.heap.get? b = some o) → ∀ b o, h0.get? b = some o → s'.heap.get? b = some o := fun hm kp b o e =>
    hm.heap b o (fun hb => by rw [hw0 b hb] at e; cases e) (kp b o e)
  intro m
  induction m with
  | zero =>
    intro i s hm hi hst kp ⟨L, es, ep, t, hS, g⟩ hR
    obtain rfl : i = n := by omega
    refine codeAny_builtin F.entry_set_update_loop ?_
    rw [Around.under_plainId F.plain_set_update_loop _]
    show wpAny _ A.in1 (pyNext (.ref I) >>= _) _ _ s
    refine wpAny_bind (W.done s _ _ hst fun s' mv => ?_)
    show wpAny _ A.in1 (ret Value.none) _ _ s'
    have kp' := on mv kp
    exact wpAny_pure (hR s' L es ep t (mv.mono up) (hS.on (fun o e => mv.heap S o nw e) fun p hp => isK_keep (hk p (List.mem_of_mem_take (g.sub p hp))) kp') g kp')
  | succ m ih =>
    intro i s hm hi hst kp ⟨L, es, ep, t, hS, g⟩ hR
    have hlt : i < n := by omega
    refine codeAny_builtin F.entry_set_update_loop ?_
    rw [Around.under_plainId F.plain_set_update_loop _]
    show wpAny _ A.in1 (pyNext (.ref I) >>= _) _ _ s
    refine wpAny_bind (W.item i s _ _ hlt hst fun v s1 hP hst1 mv => ?_)
    obtain ⟨p, hp, rfl⟩ := hval i v hP
    have kp1 := on mv kp
    have hS1 : Sof kd s1.heap S L es ep t := hS.on (fun o e => mv.heap S o nw e) fun q hq => isK_keep (hk q (List.mem_of_mem_take (g.sub q hq))) kp1
    have hx : IsK kd s1.heap p.2 p.1 := isK_keep (hk p (List.mem_of_getElem? hp)) kp1
    show wpAny _ A.in1 (holding [Value.ref p.1] (setAdd S (.ref p.1)) >>= _) _ _ s1
    refine wpAny_bind (wpAny_holding ?_)
    unfold setAdd
    refine wpAny_holding (wpAny_bind (wpAny_pyHash_tuple hu hx ?_))
    refine add1 Z (s := { s1 with toks := s1.toks + (p.2.length + 1) }) hS1 hx hu (by have := g.len; omega) fun b h' L' es' ep' t' sb hS2 c1 c2 => ?_
    have g2 : Gt ks (i + 1) L' := by
      by_cases c : p.2 ∈ L.map (·.2)
      · rw [c1 c]
        exact g.old hp c
      · exact g.new hp (c2 c)
    have kp2 : ∀ b o, h0.get? b = some o → h'.get? b = some o := fun b o e => (sb.2 b (fun z => by rw [z, hS0] at e; cases e)).trans (kp1 b o e)
    refine wpAny_pure ⟨plainId_quiet F.plain_set_update_loop _, ih (i + 1) _ (by omega) hlt (W.frame _ s1 _ _ hst1 (Nat.le_add_right _ _) fun b hb o e => ?_) kp2 ⟨L', es', ep', t', hS2, g2⟩ fun s2 L2 es2 ep2 t2 mv2 hS3 g3 kp3 => ?_⟩
    · exact (sb.2 b (fun z : b = S => hSf (by rw [← z]; exact hb))).trans e
    · exact hR s2 L2 es2 ep2 t2 (Moved.trans W.gtrans ((mv.mono up).then_heap (Nat.le_add_right _ _) fun b o hb e => (sb.2 b (fun z : b = S => hb (by rw [z]; exact List.mem_cons_self))).trans e) mv2) hS3 g3 kp3
end
end Sg
set_option Elab.async false
set_option linter.all false
set_option maxRecDepth 100000
set_option maxHeartbeats 4000000
namespace Sg
open PySem PySem.Spec PyProof.Rows L2
section
variable {P : Program} {w : World} {κ : Type} [DecidableEq κ] {kd : PySem.KeyKind P w κ} {A : Around} {E : Value → Shared → Prop} {s : Shared}
/-- set(xs), xs a list of tuples of keys -/
theorem set_of (Z : Easy kd) {l : Addr} {items : Array Value} (ks : List (Addr × List κ)) {Q : Value → Shared → Prop} (hh : A.handled = none) (hl : s.heap.IsList l items) (hit : items.toList = ks.map fun p => Value.ref p.1)
    (hk : ∀ p ∈ ks, IsK kd s.heap p.2 p.1) (few : ks.length < 64) (hu : A.units + 3 < cLine)
    (cont : ∀ (h' : Heap) (tk : Nat) L es ep t, Sof kd h' s.heap.objs.size L es ep t → Gt ks ks.length L → (∀ b o, s.heap.get? b = some o → h'.get? b = some o) → Q (.ref s.heap.objs.size) { s with heap := h', toks := tk }) :
    wpAny (model P w) A (call (.type "set") [.ref l]) Q E s := by
  have isz : items.size = ks.length := by rw [← Array.length_toList, hit, List.length_map]
  obtain ⟨c, tl, hmro⟩ := F.called_set.mro
  have hmade := F.called_set.made
  have hsub := F.called_set.sub
  refine wpAny_call (codeAny_of_tree ?_)
  show wpAny _ _ (callAny (.type "set") _) _ _ _
  refine wpAny_pure ⟨Code.quiet_builtin _ (by decide +kernel), codeAny_builtin F.entry_type_call ?_⟩
  rw [Around.under_plain (weight_type_call_type "set" [.ref l] []) rfl]
  have h1 := F.called_set.notType
  have h2 := F.called_set.canCreate
  have hct := F.typeCall_set_1 (.ref l)
  repeat (any_goals (first | assumption | wp_step))
  refine codeAny_mono (code_set_led1 (.ref l) (E := E) (Q₁ := fun obj s₁ => obj = .ref s.heap.objs.size ∧ s₁ = { s with heap := s.heap.push (freshO w) }) ⟨rfl, rfl⟩) fun r s₁ hr => ?_
  match r, hr with
  | .error e, hr => exact hr
  | .ok .next, hr => exact hr.elim
  | .ok .brk, hr => exact hr.elim
  | .ok .cont, hr => exact hr.elim
  | .ok (.ret obj), hr =>
    obtain ⟨rfl, rfl⟩ := hr
    have hS : (s.heap.push (freshO w)).get? s.heap.objs.size = some (freshO w) := Heap.get?_push_size _ rfl
    have hT : Shared.TypeIs { s with heap := s.heap.push (freshO w) } (.ref s.heap.objs.size) "set" := ⟨_, hS, rfl⟩
    have hli := F.called_set.init.lookup
    have hbi := F.called_set.init.bind (.ref s.heap.objs.size)
    repeat (any_goals (first | assumption | wp_step))
    refine codeAny_mono (codeAny_call_builtin (R := wants (fun r s₂ => r = .none ∧ ∃ h' tk L es ep t, s₂ = { s with heap := h', toks := tk } ∧ Sof kd h' s.heap.objs.size L es ep t ∧ Gt ks ks.length L ∧
        (∀ b o, s.heap.get? b = some o → h'.get? b = some o)) E) F.called_set.init.plain F.entry_set_init (check_set_init_1 hT ?_)) fun r₂ s₂ hr₂ => ?_
    · obtain ⟨⟨ocls, odict, odata, oslots⟩, hol, hcl, nl, hdl⟩ := hl
      simp only at hcl hdl
      subst hcl; subst hdl
      have hol' : (s.heap.push (freshO w)).get? l = some { cls := .type "list", dict := odict, data := .seq items nl, slots := oslots } := Heap.get?_push_of_some _ hol
      have hsls := F.sub_list_set
      have hslf := F.sub_list_frozenset
      have hne : (Value.type "list" == Value.type "dict") = false := by decide
      have hl1 : (s.heap.push (freshO w)).IsList l items := ⟨_, hol', rfl, nl, rfl⟩
      unfold Builtin.«set.__init__» noKeywords Builtin.Frozenset.updateFrom
      generalize hPI : pyIter = PI
      wp_walk
      subst hPI
      refine wpAny_pyIter_list hl1 (wpAny_bind (wpAny_runValue ?_))
      have hlS : l < s.heap.objs.size := Heap.lt_size hol
      have hh3 : A.in1.in1.in1.handled = none := by simp [hh]
      have zz : (s.heap.push (freshO w)).objs.size = s.heap.objs.size + 1 := Heap.size_push ..
      have neI : l ≠ (s.heap.push (freshO w)).objs.size := by
        rw [zz]
        exact Nat.ne_of_lt (Nat.lt_succ_of_lt hlS)
      have hSf : s.heap.objs.size ∉ [(s.heap.push (freshO w)).objs.size, l] := by
        rw [zz]
        simp only [List.mem_cons, List.mem_singleton, List.not_mem_nil, or_false, not_or]
        exact ⟨Nat.ne_of_lt (Nat.lt_succ_self _), Nat.ne_of_gt hlS⟩
      have hval : ∀ (i : Nat) (v : Value), items[i]? = some v → ∃ p, ks[i]? = some p ∧ v = .ref p.1 := fun i v hv => by
        have q : items.toList[i]? = some v := by rw [Array.getElem?_toList]; exact hv
        rw [hit, List.getElem?_map] at q
        cases hq : ks[i]? with
        | none => rw [hq] at q; cases q
        | some p =>
          rw [hq] at q
          exact ⟨p, rfl, (Option.some.inj q).symm⟩
      have nothing : ∀ b, s.heap.objs.size ≤ b → s.heap.get? b = none := fun b hb => by
        cases q : s.heap.get? b with
        | none => rfl
        | some o => exact absurd (Nat.lt_of_lt_of_le (Heap.lt_size q) hb) (Nat.lt_irrefl _)
      refine upd_loop Z ((Walks.list hh3 _ l neI items).toS) s.heap.objs.size hSf ks isz few hval s.heap hk (nothing _ (Nat.le_refl _)) (fun b hb => nothing b (by
          rw [List.mem_singleton.mp hb, zz]
          exact Nat.le_succ _)) hu (items.size - 0) 0 _ (by omega) (Nat.zero_le _)
        ⟨⟨_, Heap.get?_push_size _ rfl, rfl, rfl⟩, (hl1.push _)⟩ (fun b o e => Heap.get?_push_of_some _ (Heap.get?_push_of_some _ e)) ⟨[], #[], 0, _, sof_fresh (Heap.get?_push_of_some _ hS), Gt.none ks⟩ ?_
      intro s' L es ep t mv hS' g' kp
      obtain ⟨h', g2, d', tk', os'⟩ := s'
      have eg : g2 = s.gens := mv.gens
      have ed : d' = s.drawn := mv.drawn
      have eo : os' = s.os := mv.os
      subst eg; subst ed; subst eo
      show wpAny _ _ _ _ _ _
      refine wpAny_pure ?_
      show wpAny _ _ (ret Value.none) _ _ _
      rw [isz] at g'
      exact wpAny_pure ⟨rfl, h', tk', L, es, ep, t, rfl, hS', g', kp⟩
    · match r₂, hr₂ with
      | .error e, hr₂ => exact hr₂
      | .ok .next, hr₂ => exact hr₂.elim
      | .ok .brk, hr₂ => exact hr₂.elim
      | .ok .cont, hr₂ => exact hr₂.elim
      | .ok (.ret r), hr₂ =>
        obtain ⟨rfl, h', tk, L, es, ep, t, rfl, hS', g', hk'⟩ := hr₂
        repeat (any_goals (first | assumption | wp_step))
        exact cont _ _ _ _ _ _ hS' g' hk'
end
/-! ### len(set(xs)) -/
section
variable {X : Cx}
/-- how many unlike keys -/
def tLenSet {κ : Type} [DecidableEq κ] (K : PySem.W.Frag) (kd : PySem.KeyKind X.prog X.w κ) (kV : κ → V) (ta : TE) : TE := fun σ H Q => ta σ H fun x H1 => ∃ (l : Addr) (ks : List (Addr × List κ)), x = V.ref l ∧ SqL K H1 l (ks.map fun p => V.ref p.1) ∧ (∀ p ∈ ks, SqT K H1 p.1 (p.2.map kV)) ∧ ks.length < 64 ∧
  ∀ n : Nat, (∃ L : List (List κ), L.Nodup ∧ (∀ k, k ∈ L ↔ k ∈ ks.map (·.2)) ∧ L.length = n) → Q (.int n) H1
end
end Sg
set_option Elab.async false
set_option linter.all false
set_option maxRecDepth 100000
set_option maxHeartbeats 4000000
namespace Sg
open PySem PySem.Spec PyProof.Rows L2
theorem easy_mix (P : Program) (w : World) : Easy (mixKind P w) where
  cls := fun n k v h => by
    rcases keyIs_shape h with ⟨i, t, rfl, rfl⟩ | ⟨x, t, rfl, rfl⟩
    · cases n <;> rfl
    · cases n <;> rfl
  byv := fun n k v h => by
    rcases keyIs_shape h with ⟨i, t, rfl, rfl⟩ | ⟨x, t, rfl, rfl⟩
    · exact ⟨true, by cases n <;> rfl⟩
    · exact ⟨false, by cases n <;> rfl⟩
theorem is_of_rel {P : Program} {w : World} {k : Key} {v : Value} (r : RelV (kV k) v) : (mixKind P w).is k v = true := by
  cases k with
  | inl i =>
    obtain ⟨t, rfl⟩ := r
    exact keyIs_int i t
  | inr x =>
    obtain ⟨t, rfl⟩ := r
    exact keyIs_str x t
theorem items_of {P : Program} {w : World} : ∀ {k : List Key} {us : List Value}, Vals (k.map kV) us → ItemsAre (mixKind P w) k us
  | [], _, .nil => .nil
  | _ :: _, _, .cons r t => .cons (is_of_rel r) (items_of t)
theorem refs_of {κ : Type} : ∀ {ks : List (Addr × κ)} {us : List Value}, Vals (ks.map fun p => V.ref p.1) us → us = ks.map fun p => Value.ref p.1
  | [], _, .nil => rfl
  | p :: ks, _, .cons r t => by
    rw [refs_of t]
    cases r
    rfl
section
variable {X : Cx}
/-- len(set(xs)), xs a list of tuples of ints and texts: how many unlike ones -/
def tLenS (K : PySem.W.Frag) (ta : TE) : TE := fun σ H Q => ta σ H fun x H1 => ∃ (l : Addr) (ks : List (Addr × List Key)), x = V.ref l ∧ SqL K H1 l (ks.map fun p => V.ref p.1) ∧ (∀ p ∈ ks, SqT K H1 p.1 (p.2.map kV)) ∧ ks.length < 64 ∧
  ∀ L : List (List Key), L.Nodup → (∀ k, k ∈ L ↔ k ∈ ks.map (·.2)) → Q (.int L.length) H1
theorem pe_lenS {a : Expr} {ta : TE} {p p2 q pos : Pos} (hc : X.calm = true) (hu : X.A.units + 64 < cLine) (hg : Gl X "len") (hm : X.mg "len" = none) (hg2 : Gl X "set") (hm2 : X.mg "set" = none) (ha : PE X a ta)
    (na : starEach [a] X.env = (false, eval a X.env) :: starEach [] X.env := by rfl) : PE X (.Call (.Name "len" p) [.Call (.Name "set" p2) [a] [] q] [] pos) (tLenS X.K ta) := by
  refine ⟨fun pins s σ H Q I h => ?_⟩
  refine Call_ (ld_blt I hg hm PySem.boot_len (PyProof.Rows.callWith_builtin1 (PyProof.Rows.args_cons ?_ rfl) rfl rfl))
  refine Call_ (ld_blt I hg2 hm2 PyProof.Rows.boot_set (PyProof.Rows.callWith_type1 (PyProof.Rows.args_cons (thn (ha.run pins s σ H _ I h) fun v s1 hv => PyProof.Rows.args_nil ?_) na) na rfl))
  obtain ⟨x, H1, I1, r1, l, ks, rfl, hq, ht, few, q1⟩ := hv
  cases r1
  obtain ⟨its, r, pl, hz⟩ := I1.list hq
  refine set_of (easy_mix X.prog X.w) ks (I1.ok.hd hc) pl.isList (by simpa using refs_of r) (fun p hp => ?_) few (by omega) fun h' tk L es ep t R g kp => ?_
  · obtain ⟨vs, rv, tv, _⟩ := I1.tuple (ht p hp)
    obtain ⟨o, ho, hcl, n, hd⟩ := tv
    exact ⟨o, vs.toArray, n, ho, hcl, hd, by simpa using items_of rv⟩
  refine PyProof.Rows.args_nil ?_
  have ok := Sof.ok (s := { s1 with heap := h' }) R
  have sz := Sof.sz (s := { s1 with heap := h' }) R
  obtain ⟨o, ho, hex, hd⟩ := R.obj
  have I2 : Inv X pins σ H1 { s1 with heap := h', toks := tk } := I1.kept fun b o e => kp b o e
  refine call_len_set ho hex hd ok (by have := R.fw; omega) ⟨.int (L.map (·.2)).length, H1, I2.tok _, ⟨_, by rw [List.length_map, sz]⟩, q1 (L.map (·.2)) R.un fun k => ⟨fun hk => ?_, fun hk => ?_⟩⟩
  · obtain ⟨p, hp, rfl⟩ := List.mem_map.mp hk
    exact List.mem_map.mpr ⟨p, List.mem_of_mem_take (g.sub p hp), rfl⟩
  · obtain ⟨p, hp, rfl⟩ := List.mem_map.mp hk
    exact g.all p (by rw [List.take_length]; exact hp)
end
end Sg
set_option Elab.async false
set_option linter.all false
set_option maxRecDepth 100000
set_option maxHeartbeats 4000000
namespace K65
open PySem L2 Ld GxR Gx Sg
/-! the program's side: pairs -/
theorem list_of_ty {d : PyData} (e : tyD d = "list") : ∃ ds, d = .list ds := by
  cases d with
  | list ds => exact ⟨ds, rfl⟩
  | none => exact absurd e (by decide)
  | bool b => exact absurd (show ("bool" : String) = "list" from e) (by decide)
  | int b => exact absurd (show ("int" : String) = "list" from e) (by decide)
  | str b => exact absurd (show ("str" : String) = "list" from e) (by decide)
  | tuple b => exact absurd (show ("tuple" : String) = "list" from e) (by decide)
  | dict b => exact absurd (show ("dict" : String) = "list" from e) (by decide)
theorem tuple_of_ty {d : PyData} (e : tyD d = "tuple") : ∃ ds, d = .tuple ds := by
  cases d with
  | tuple ds => exact ⟨ds, rfl⟩
  | none => exact absurd e (by decide)
  | bool b => exact absurd (show ("bool" : String) = "tuple" from e) (by decide)
  | int b => exact absurd (show ("int" : String) = "tuple" from e) (by decide)
  | str b => exact absurd (show ("str" : String) = "tuple" from e) (by decide)
  | list b => exact absurd (show ("list" : String) = "tuple" from e) (by decide)
  | dict b => exact absurd (show ("dict" : String) = "tuple" from e) (by decide)
/-- a place's key -/
def keyD : PyData → List Key
  | .tuple [.str x, .str y] => [.inr x, .inr y]
  | _ => []
theorem eqv_place {d e : PyData} (hd : placeD d = true) (he : placeD e = true) : d.eqv e = decide (keyD d = keyD e) := by
  obtain ⟨x, y, rfl, _, _⟩ := place_of_true hd
  obtain ⟨u, v, rfl, _, _⟩ := place_of_true he
  show (PyData.eqv (.str x) (.str u) && (PyData.eqv (.str y) (.str v) && true)) = decide ([Sum.inr x, Sum.inr y] = ([Sum.inr u, Sum.inr v] : List Key))
  have e1 : PyData.eqv (.str x) (.str u) = decide (x = u) := by
    first
      | rfl
      | (simp [PyData.eqv])
  have e2 : PyData.eqv (.str y) (.str v) = decide (y = v) := by
    first
      | rfl
      | (simp [PyData.eqv])
  rw [e1, e2]
  by_cases h1 : x = u <;> by_cases h2 : y = v <;> simp [h1, h2]
theorem keys_of {K : PySem.W.Frag} {H : Hp} : ∀ {vs : List V} {ds : List PyData}, DaAll H vs ds → ds.all placeD = true → ∃ ks : List (Addr × List Key), vs = (ks.map fun p => V.ref p.1) ∧ ks.map (·.2) = ds.map keyD ∧ ∀ p ∈ ks, SqT K H p.1 (p.2.map kV)
  | _, _, .nil, _ => ⟨[], rfl, rfl, fun p hp => absurd hp (by simp)⟩
  | v :: vs, d :: ds, .cons h t, e => by
    rw [List.all_cons, Bool.and_eq_true] at e
    obtain ⟨ks, h1, h2, h3⟩ := keys_of (K := K) t e.2
    obtain ⟨x, y, rfl, _, _⟩ := place_of_true e.1
    cases h with
    | @tup r xs _ er hall =>
      cases hall with
      | cons a t1 =>
        cases a
        cases t1 with
        | cons b t2 =>
          cases b
          cases t2
          refine ⟨(r, [.inr x, .inr y]) :: ks, by rw [h1]; rfl, by rw [List.map_cons, List.map_cons, h2]; rfl, fun p hp => ?_⟩
          rcases List.mem_cons.mp hp with rfl | hp
          · exact .inl (.inl er)
          · exact h3 p hp
theorem unlike_nodup {ds : List PyData} (h : ds.all placeD = true) : unlikeD ds = decide (ds.map keyD).Nodup := by
  rw [Bool.eq_iff_iff, decide_eq_true_eq]
  unfold unlikeD
  rw [List.all_eq_true]
  have pl := List.all_eq_true.mp h
  constructor
  · intro hu
    rw [List.Nodup, List.pairwise_iff_getElem]
    intro i j hi hj hij e
    rw [List.length_map] at hi hj
    have q := hu j (List.mem_range.mpr hj)
    rw [Bool.not_eq_true', List.any_eq_false] at q
    have mi : ds[i] ∈ ds.take j := List.mem_take_iff_getElem.mpr ⟨i, by omega, rfl⟩
    have gj : ds.getD j .none = ds[j] := by
      rw [List.getD_eq_getElem?_getD, List.getElem?_eq_getElem hj]
      rfl
    have z := q _ mi
    rw [gj, eqv_place (pl _ (List.getElem_mem _)) (pl _ (List.getElem_mem _))] at z
    rw [List.getElem_map, List.getElem_map] at e
    exact z (decide_eq_true e)
  · intro hn j hj
    have hj := List.mem_range.mp hj
    have gj : ds.getD j .none = ds[j] := by
      rw [List.getD_eq_getElem?_getD, List.getElem?_eq_getElem hj]
      rfl
    rw [Bool.not_eq_true', List.any_eq_false]
    intro z hz hq
    obtain ⟨i, hi, rfl⟩ := List.mem_take_iff_getElem.mp hz
    rw [gj, eqv_place (pl _ (List.getElem_mem _)) (pl _ (List.getElem_mem _))] at hq
    have e := of_decide_eq_true hq
    rw [List.Nodup, List.pairwise_iff_getElem] at hn
    refine hn i j (by rw [List.length_map]; omega) (by rw [List.length_map]; exact hj) (by omega) ?_
    rw [List.getElem_map, List.getElem_map]
    exact e
theorem le_len {α : Type} [DecidableEq α] : ∀ (L M : List α), L.Nodup → (∀ x ∈ L, x ∈ M) → L.length ≤ M.length
  | [], _, _, _ => Nat.zero_le _
  | x :: L, M, hn, hs => by
    obtain ⟨h1, h2⟩ := List.nodup_cons.mp hn
    have hx : x ∈ M := hs x List.mem_cons_self
    have q := le_len L (M.erase x) h2 fun y hy => (List.mem_erase_of_ne (fun e : y = x => h1 (by rw [← e]; exact hy))).2 (hs y (List.mem_cons_of_mem _ hy))
    have e := List.length_erase_of_mem hx
    have hp : 0 < M.length := List.length_pos_of_mem hx
    rw [List.length_cons]
    omega
theorem nodup_of_len {α : Type} [DecidableEq α] : ∀ (L M : List α), L.Nodup → (∀ x ∈ L, x ∈ M) → M.length ≤ L.length → M.Nodup
  | [], M, _, _, hl => by
    have : M = [] := List.eq_nil_of_length_eq_zero (Nat.le_zero.mp hl)
    rw [this]
    exact List.nodup_nil
  | x :: L, M, hn, hs, hl => by
    obtain ⟨h1, h2⟩ := List.nodup_cons.mp hn
    have hx : x ∈ M := hs x List.mem_cons_self
    have e := List.length_erase_of_mem hx
    have hp : 0 < M.length := List.length_pos_of_mem hx
    have sub : ∀ y ∈ L, y ∈ M.erase x := fun y hy => (List.mem_erase_of_ne (fun e : y = x => h1 (by rw [← e]; exact hy))).2 (hs y (List.mem_cons_of_mem _ hy))
    rw [List.length_cons] at hl
    have r := nodup_of_len L (M.erase x) h2 sub (by omega)
    have nx : x ∉ M.erase x := fun hm => by
      have q := le_len (x :: L) (M.erase x) hn fun y hy => by
        rcases List.mem_cons.mp hy with rfl | hy
        · exact hm
        · exact sub y hy
      rw [List.length_cons] at q
      omega
    exact (List.perm_cons_erase hx).nodup_iff.mpr (List.nodup_cons.mpr ⟨nx, r⟩)
theorem count {α : Type} [DecidableEq α] {L M : List α} (hn : L.Nodup) (h : ∀ k, k ∈ L ↔ k ∈ M) : (L.length = M.length) ↔ M.Nodup :=
  ⟨fun e => nodup_of_len L M hn (fun k hk => (h k).mp hk) (by omega), fun hm => Nat.le_antisymm (le_len L M hn fun k hk => (h k).mp hk) (le_len M L hm fun k hk => (h k).mpr hk)⟩

def pairD : PyData → Bool
  | .tuple [.str _, .str _] => true
  | _ => false
theorem pair_of {d : PyData} (h : pairD d = true) : ∃ x y, d = .tuple [.str x, .str y] := by
  match d, h with
  | .tuple [.str x, .str y], _ => exact ⟨x, y, rfl⟩
abbrev s_are_pairs : Stmt := topS 13
abbrev N_are_pairs : List Str := ["things", "thing"]
theorem sc_are_pairs : FnScope N_are_pairs ["things"] (defScope s_are_pairs) := ⟨rfl, rfl, rfl, by decide +kernel, rfl, by decide +kernel, by decide +kernel⟩
def spPairs2 : Sp := fun vs H Q _ => ∃ (r : Addr) (xs : List V) (ds : List PyData), vs = [.ref r] ∧ H r = some (.lst xs) ∧ DaAll H xs ds ∧ ds.length ≤ 20000 ∧ ∀ H', Same H H' → Q (.bl (ds.all pairD)) H'
theorem pairD_len {ds : List PyData} (h : ds.length ≠ 2) : pairD (.tuple ds) = false := by
  unfold pairD
  split
  · rename_i e
    cases e
    exact absurd rfl h
  · rfl
theorem str_of_ty {d : PyData} (e : tyD d = "str") : ∃ x, d = .str x := by
  cases d with
  | str x => exact ⟨x, rfl⟩
  | none => exact absurd e (by decide)
  | bool b => exact absurd (show ("bool" : String) = "str" from e) (by decide)
  | int b => exact absurd (show ("int" : String) = "str" from e) (by decide)
  | tuple b => exact absurd (show ("tuple" : String) = "str" from e) (by decide)
  | list b => exact absurd (show ("list" : String) = "str" from e) (by decide)
  | dict b => exact absurd (show ("dict" : String) = "str" from e) (by decide)
theorem pairD_two (d0 d1 : PyData) : pairD (.tuple [d0, d1]) = (decide (tyD d0 = "str") && decide (tyD d1 = "str")) := by
  by_cases h0 : tyD d0 = "str"
  · obtain ⟨x, rfl⟩ := str_of_ty h0
    by_cases h1 : tyD d1 = "str"
    · obtain ⟨y, rfl⟩ := str_of_ty h1
      rfl
    · rw [decide_eq_false h1, Bool.and_false]
      cases d1 with
      | str y => exact absurd rfl h1
      | _ => rfl
  · rw [decide_eq_false h0, Bool.false_and]
    cases d0 with
    | str y => exact absurd rfl h0
    | _ => rfl
abbrev rLenQ (K : PySem.W.Frag) : List V → Hp → VK → Prop := fun xs H Q => ∃ p ys, xs = [.ref p] ∧ (SqL K H p ys ∨ SqT K H p ys) ∧ Q (.int ys.length) H
section
variable {P : Program} {w : World} {K : PySem.W.Frag} {mg : Str → Option Value} {base : Heap}
theorem ok_are_pairs {f : Addr} {fd : FuncData} (F : Fun K "are_pairs" "are_pairs" s_are_pairs f fd) (z_all : mg "all" = none) (z_type : mg "type" = none) (z_tuple : mg "tuple" = none) (z_str : mg "str" = none) (z_len : mg "len" = none) : FnOk P w K mg base CX0 1 f fd ["things"] spPairs2 := by
  refine F.ok sc_are_pairs (fun vs H Q E h => ?_) (fun cdv A outer s H vs Q E hr h => ?_)
  · obtain ⟨r, xs, ds, rfl, _⟩ := h
    rfl
  · obtain ⟨r, xs, ds, rfl, er, hall, hl, q⟩ := h
    have hu1 := hu_of hr
    refine ⟨_, (pss_one (ps_ret (pe_callB (cr_all rfl) (by rfl) z_all (by decide +kernel) (pa_cons (pe_lc (own := [("thing", 1)]) (g := gName 1) (tt := tYes) rfl sc_are_pairs.nd (pi_list (pv 0)) (blkOk_by (own := [("thing", 1)]) (N := N_are_pairs) (sc := defScope s_are_pairs) (by decide +kernel)) (fun _ _ _ _ _ => pg_name (i := 1) sc_are_pairs.nd rfl (Or.inl rfl)) (fun _ _ _ _ _ => pts_nil)
      (fun _ _ _ _ _ => (pe_and (pe_cmpR op_eqTy (pe_callTy (T := "type") (r := rTyp K) call_type1 (by rfl) z_type (by decide +kernel) (pa_cons (pv 1) pa_nil)) (pe_bltn (v := .ty "tuple") (by rfl) z_tuple (by decide +kernel) rfl) (nomark _))
        (pe_and (pe_cmpR op_eq (pe_callB (id := "len") (r := rLenQ K) call_len_seq (by rfl) z_len (by decide +kernel) (pa_cons (pv 1) pa_nil)) pe_int (nomark _))
        (pe_and (pe_cmpR op_eqTy (pe_callTy (T := "type") (r := rTyp K) call_type1 (by rfl) z_type (by decide +kernel) (pa_cons (pe_ix (r := rIxT K) ix_tup (pv 1) pe_int (fun _ _ => rfl)) pa_nil)) (pe_bltn (v := .ty "str") (by rfl) z_str (by decide +kernel) rfl) (nomark _))
        (pe_one (pe_cmpR op_eqTy (pe_callTy (T := "type") (r := rTyp K) call_type1 (by rfl) z_type (by decide +kernel) (pa_cons (pe_ix (r := rIxT K) ix_tup (pv 1) pe_int (fun _ _ => rfl)) pa_nil)) (pe_bltn (v := .ty "str") (by rfl) z_str (by decide +kernel) rfl) (nomark _)))))))) pa_nil)))), ?_⟩
    have ln : xs.length = ds.length := hall.len
    refine ⟨_, rfl, r, rfl, ⟨xs, .inl (.inl er)⟩, fun D hD => ?_⟩
    refine lc_list (K := K) (a := r) (xs := xs) (fun i H' => Same H H' ∧ H' D = some (.lst ((ds.take i).map fun d => V.bl (pairD d)))) ⟨same_upd hD, by simpa using upd_same⟩ (fun i H' _ hP => .inl (.inl (hP.1 _ _ er))) (fun i x H' hx hP => ?_) fun H' hP => ?_
    · obtain ⟨g, a1⟩ := hP
      obtain ⟨di, hdi, dai⟩ := hall.get i x hx
      have hi := (List.getElem?_eq_some_iff.mp hdi).1
      have fin : ∀ b : Bool, b = pairD di → ∃ acc, H' D = some (.lst acc) ∧ acc.length < sizeLine ∧ Same H (upd H' D (.lst (acc ++ [V.bl b]))) ∧ upd H' D (.lst (acc ++ [V.bl b])) D = some (.lst ((ds.take (i + 1)).map fun d => V.bl (pairD d))) := fun b eb => by
        refine ⟨_, a1, Nat.lt_of_lt_of_le (by rw [List.length_map, List.length_take]; omega : _ < 20001) (by decide), fun c o ec => ?_, ?_⟩
        · rw [upd_ne (ne_of_none ec hD)]
          exact g _ _ ec
        · rw [upd_same, List.take_add_one, hdi, List.map_append, eb]
          rfl
      have dai' := Same.da g dai
      obtain ⟨ht, hk⟩ := tyb_of (K := K) dai'
      refine ⟨rfl, _, rfl, _, tyD di, rfl, ht, tyD di, "tuple", rfl, rfl, hk, .tuple, _, rfl, ?_⟩
      by_cases e : tyD di = "tuple"
      · obtain ⟨es, rfl⟩ := tuple_of_ty e
        refine itY (decide_eq_true e) ?_
        cases dai' with
        | @tup p ys _ ep hys =>
        refine ⟨_, rfl, p, ys, rfl, .inr (.inl (.inl ep)), rfl, _, rfl, ?_⟩
        by_cases h2 : ys.length = 2
        · refine itY (by simp [h2]) ?_
          obtain ⟨v0, v1, d0, d1, rfl, rfl, h0, h1⟩ := two_of hys h2
          obtain ⟨t0, k0⟩ := tyb_of (K := K) h0
          obtain ⟨t1, k1⟩ := tyb_of (K := K) h1
          refine ⟨_, rfl, p, _, 0, v0, rfl, rfl, .inl (.inl ep), atI_nat (j := 0) rfl, _, tyD d0, rfl, t0, tyD d0, "str", rfl, rfl, k0, .str, _, rfl, ?_⟩
          by_cases c0 : tyD d0 = "str"
          · refine itY (decide_eq_true c0) ?_
            refine ⟨_, rfl, p, _, 1, v1, rfl, rfl, .inl (.inl ep), atI_nat (j := 1) rfl, _, tyD d1, rfl, t1, tyD d1, "str", rfl, rfl, k1, .str, ?_⟩
            exact fin _ (by rw [pairD_two, decide_eq_true c0, Bool.true_and])
          · refine itN (by simpa using c0) ?_
            exact fin _ (by rw [pairD_two, decide_eq_false c0, Bool.false_and])
        · refine itN (by simp; omega) ?_
          exact fin _ (by rw [pairD_len (by rw [← hys.len]; exact h2)])
      · refine itN (by simpa using e) ?_
        refine fin _ ?_
        cases di with
        | tuple x => exact absurd rfl e
        | _ => rfl
    · obtain ⟨g, a1⟩ := hP
      rw [ln, List.take_length] at a1
      refine ⟨D, ds.map pairD, rfl, .inl (.inl (by rw [List.map_map]; exact a1)), ?_⟩
      have eq : (ds.map pairD).all id = ds.all pairD := by
        rw [List.all_map]
        rfl
      rw [eq]
      exact q H' g
end
end K65
set_option Elab.async false
set_option linter.all false
set_option maxRecDepth 100000
set_option maxHeartbeats 4000000
namespace K65
open PySem L2 Ld GxR Gx Sg
/-! the program's side: the names of pairs -/
def nameS (x : Str) : Bool := decide (1 ≤ x.length ∧ x.length ≤ 8) && x.cps.toList.all signB
theorem nameD_str (x : Str) : nameD (.str x) = nameS x := rfl
def addT (ts : List Str) (t : Str) : List Str := if t ∈ ts then ts else ts ++ [t]
abbrev entS (t : Str) : Key × V := (.inr t, .bl true)
theorem mem_addT {ts : List Str} {t u : Str} : u ∈ addT ts t ↔ u ∈ ts ∨ u = t := by
  unfold addT
  by_cases h : t ∈ ts
  · rw [if_pos h]
    exact ⟨.inl, fun z => z.elim id fun e => by rw [e]; exact h⟩
  · rw [if_neg h, List.mem_append, List.mem_singleton]
theorem len_addT (ts : List Str) (t : Str) : (addT ts t).length ≤ ts.length + 1 := by
  unfold addT
  split
  · omega
  · rw [List.length_append]
    simp
theorem putK_entS (ts : List Str) (t : Str) : putK (ts.map entS) (.inr t) (.bl true) = (addT ts t).map entS := by
  unfold putK addT
  have e : ((ts.map entS).any fun kv => decide (kv.1 = (Sum.inr t : Key))) = decide (t ∈ ts) := by
    rw [Bool.eq_iff_iff, List.any_eq_true, decide_eq_true_eq]
    constructor
    · rintro ⟨p, hp, hq⟩
      obtain ⟨u, hu, rfl⟩ := List.mem_map.mp hp
      have := of_decide_eq_true hq
      injection this with z
      rw [← z]
      exact hu
    · intro h
      exact ⟨_, List.mem_map.mpr ⟨t, h, rfl⟩, decide_eq_true rfl⟩
  rw [e]
  by_cases h : t ∈ ts
  · rw [if_pos (decide_eq_true h), if_pos h]
    refine (List.map_congr_left fun p hp => ?_).trans (List.map_id _)
    obtain ⟨u, hu, rfl⟩ := List.mem_map.mp hp
    by_cases z : (Sum.inr u : Key) = Sum.inr t
    · show (if (Sum.inr u : Key) = Sum.inr t then _ else _) = _
      rw [if_pos z]
      rfl
    · show (if (Sum.inr u : Key) = Sum.inr t then _ else _) = _
      rw [if_neg z]
      rfl
  · rw [if_neg (by simpa using h), if_neg h, List.map_append]
    rfl
theorem txts_entS : ∀ ts : List Str, Jd.txts ts (ts.map entS)
  | [] => .nil
  | t :: ts => .cons rfl (txts_entS ts)
theorem tjoin (ts : List Str) : Txt.join "" ts = Str.join "" ts := by
  have := PyProof.Rows.join_plain_closes "" ts
  simpa using this
theorem small_join {ts : List Str} (hn : ts ≠ []) (hl : ∀ t ∈ ts, 1 ≤ t.length ∧ t.length ≤ 8) : smallS (Txt.join "" ts) = ts.all nameS := by
  have mj : ∀ c, c ∈ (Txt.join "" ts).cps.toList ↔ ∃ t ∈ ts, c ∈ t.cps.toList := fun c => by
    have := PyProof.Rows.mem_join "" c ts
    rw [tjoin]
    have ne : ¬ c ∈ ("" : Str).cps.toList := by
      have e : ("" : Str).cps.toList = [] := by decide
      rw [e]
      exact List.not_mem_nil
    constructor
    · intro h
      rcases this.mp h with z | z
      · exact z
      · exact absurd z.2 ne
    · intro h
      exact this.mpr (.inl h)
  have pos : 0 < (Txt.join "" ts).length := by
    obtain ⟨t, r, rfl⟩ := List.exists_cons_of_ne_nil hn
    have ht := hl t List.mem_cons_self
    have lt : 0 < t.cps.toList.length := by
      have : t.cps.toList.length = t.length := Array.length_toList
      omega
    obtain ⟨c, hc⟩ := List.exists_mem_of_length_pos lt
    have hm := (mj c).mpr ⟨t, List.mem_cons_self, hc⟩
    have := List.length_pos_of_mem hm
    rw [Array.length_toList] at this
    exact this
  unfold smallS
  rw [decide_eq_true pos, Bool.true_and, Bool.eq_iff_iff, List.all_eq_true, List.all_eq_true]
  constructor
  · intro h t ht
    unfold nameS
    rw [decide_eq_true (hl t ht), Bool.true_and, List.all_eq_true]
    exact fun c hc => h c ((mj c).mpr ⟨t, ht, hc⟩)
  · intro h c hc
    obtain ⟨t, ht, hc⟩ := (mj c).mp hc
    have := h t ht
    unfold nameS at this
    rw [Bool.and_eq_true, List.all_eq_true] at this
    exact this.2 c hc
abbrev s_are_of_names : Stmt := topS 14
abbrev N_are_of_names : List Str := ["pairs", "texts", "text", "pair"]
theorem sc_are_of_names : FnScope N_are_of_names ["pairs"] (defScope s_are_of_names) := ⟨rfl, rfl, rfl, by decide +kernel, rfl, by decide +kernel, by decide +kernel⟩
abbrev PairAt (H : Hp) (b : Addr) (p : Str × Str) : Prop := H b = some (.tup [.str p.1, .str p.2])
def spNames : Sp := fun vs H Q _ => ∃ (r : Addr) (bs : List Addr) (ps : List (Str × Str)), vs = [.ref r] ∧ H r = some (.lst (bs.map V.ref)) ∧ Paired (PairAt H) bs ps ∧ ps.length ≤ 100 ∧ (∀ p ∈ ps, p.1.length ≤ 20000 ∧ p.2.length ≤ 20000) ∧
  ∀ H', Same H H' → Q (.bl (ps.all fun p => nameS p.1 && nameS p.2)) H'
/-- the texts of the first pairs -/
def Texts (ts : List Str) (ps : List (Str × Str)) : Prop := (∀ u, u ∈ ts ↔ ∃ p ∈ ps, u = p.1 ∨ u = p.2) ∧ ts.length ≤ 2 * ps.length
theorem texts_all {ts : List Str} {ps : List (Str × Str)} (h : Texts ts ps) : (ps.all fun p => nameS p.1 && nameS p.2) = ts.all nameS := by
  rw [Bool.eq_iff_iff, List.all_eq_true, List.all_eq_true]
  constructor
  · intro a u hu
    obtain ⟨p, hp, e⟩ := (h.1 u).mp hu
    have := a p hp
    rw [Bool.and_eq_true] at this
    rcases e with rfl | rfl
    · exact this.1
    · exact this.2
  · intro a p hp
    rw [Bool.and_eq_true]
    exact ⟨a _ ((h.1 _).mpr ⟨p, hp, .inl rfl⟩), a _ ((h.1 _).mpr ⟨p, hp, .inr rfl⟩)⟩
theorem texts_snoc {ts : List Str} {ps : List (Str × Str)} {p : Str × Str} (h : Texts ts ps) : Texts (addT (addT ts p.1) p.2) (ps ++ [p]) := by
  refine ⟨fun u => ?_, ?_⟩
  · rw [mem_addT, mem_addT, h.1]
    constructor
    · rintro ((⟨q, hq, e⟩ | e) | e)
      · exact ⟨q, List.mem_append_left _ hq, e⟩
      · exact ⟨p, by simp, .inl e⟩
      · exact ⟨p, by simp, .inr e⟩
    · rintro ⟨q, hq, e⟩
      rcases List.mem_append.mp hq with hq | hq
      · exact .inl (.inl ⟨q, hq, e⟩)
      · rw [List.mem_singleton.mp hq] at e
        rcases e with e | e
        · exact .inl (.inr e)
        · exact .inr e
  · have h1 := len_addT ts p.1
    have h2 := len_addT (addT ts p.1) p.2
    have h3 := h.2
    rw [List.length_append, List.length_singleton]
    omega
theorem texts_sum {ts : List Str} (h : ∀ t ∈ ts, t.length ≤ 8) : (ts.map (·.length)).sum ≤ 8 * ts.length := by
  induction ts with
  | nil => simp
  | cons t r ih =>
    have h1 := h t List.mem_cons_self
    have h2 := ih fun u hu => h u (List.mem_cons_of_mem _ hu)
    rw [List.map_cons, List.sum_cons, List.length_cons]
    omega
theorem paired_at {α β : Type} {F : α → β → Prop} : ∀ {l : List α} {m : List β} {j : Nat} {a : α}, Paired F l m → l[j]? = some a → ∃ b, m[j]? = some b ∧ F a b := Jd.pget
section
variable {P : Program} {w : World} {K : PySem.W.Frag} {mg : Str → Option Value} {base : Heap}
theorem ok_are_of_names {f fS : Addr} {fd fdS : FuncData} (F : Fun K "are_of_names" "are_of_names" s_are_of_names f fd) (G_are_small_letters : FnOk P w K mg base CX0 1 fS fdS ["text"] spSmall) (g_are_small_letters : mg "are_small_letters" = some (.ref fS)) (k_are_small_letters : PySem.W.keepIn K (.ref fS) = true) (b_are_small_letters : Binds K fdS ["text"] [])
    (z_len : mg "len" = none) : FnOk P w K mg base CX0 2 f fd ["pairs"] spNames := by
  refine F.ok sc_are_of_names (fun vs H Q E h => ?_) (fun cdv A outer s H vs Q E hr h => ?_)
  · obtain ⟨r, bs, ps, rfl, _⟩ := h
    rfl
  · obtain ⟨r, bs, ps, rfl, er, hbs, h100, h20, q⟩ := h
    have hu64 := hr.units
    have hu0 : (A.deeper (PyProof.Rows.envOfC "are_of_names" (defScope s_are_of_names) s.heap.objs.size f cdv)).units < cLine := by
      have := hr.units
      omega
    refine ⟨_, (pss_cons (Dc.ps_setDp2 (.dK []) (i := 1) (own := [("text", 2), ("pair", 3)]) (vs1 := [2]) (g := gName 3) (g1 := gName 2) (tt := tYes) (tt1 := tYes) (wi1 := iTup K _) (.inl rfl) hu0 rfl sc_are_of_names.nd rfl rfl (Dc.swD rfl rfl rfl (by decide +kernel)) (pi_list (pv 0)) (blkOk_by (own := [("text", 2), ("pair", 3)]) (N := N_are_of_names) (sc := defScope s_are_of_names) (by decide +kernel)) (by decide)
        (fun _ _ _ _ _ => pg_name (i := 3) sc_are_of_names.nd rfl (Or.inl rfl)) (fun _ _ _ _ _ => pts_nil) (fun _ _ _ _ _ => pi_tup (pv 3)) (fun _ _ _ _ _ => pg_name (i := 2) sc_are_of_names.nd rfl (Or.inl rfl)) (fun _ _ _ _ _ => pts_nil) (fun _ _ _ _ _ => pv 2) (fun _ _ _ _ _ => pe_bl))
  (pss_cons (ps_lock (ps_for PassesOwn.never rfl (pi_keys (pv 1)) (pg_name (i := 2) sc_are_of_names.nd rfl (Or.inl rfl))
    (pss_one (ps_if (pt_not (pt_chain op_le op_le pe_int (pe_callB (call_len_str) (by rfl) z_len (by decide +kernel) (pa_cons (pv 2) pa_nil)) pe_int)) (pss_one (ps_ret pe_bl)) pss_nil))))
  (pss_one (ps_ret (pe_or (pe_notT (pv 1)) (pe_one (pe_call G_are_small_letters (hr.mono (by decide)) (by rfl) g_are_small_letters k_are_small_letters b_are_small_letters .nil pass0 (pa_cons (pe_m1 PySem.F.slot_str_join PySem.F.type_str_join (Jd.mt_joinD rfl) pe_str (pv 1)) pa_nil)))))))), ?_⟩
    refine ⟨_, rfl, r, rfl, ⟨_, .inl (.inl er)⟩, fun D hD => ?_⟩
    refine Dc.lp2_list (K := K) (a := r) (xs := bs.map V.ref) (fun i H' => Same H H' ∧ ∃ ts, Texts ts (ps.take i) ∧ H' D = some (.dK (ts.map entS))) ⟨same_upd hD, [], ⟨fun u => by simp, by simp⟩, upd_same⟩ (fun i H' _ hP => .inl (.inl (hP.1 _ _ er))) (fun i x H' hx hP => ?_) fun H' hP => ?_
    · obtain ⟨g, ts, htx, hDt⟩ := hP
      rw [List.getElem?_map] at hx
      obtain ⟨b, hb, rfl⟩ := Option.map_eq_some_iff.mp hx
      obtain ⟨p, hp, eb⟩ := paired_at hbs hb
      have eb' := g _ _ eb
      have hi := (List.getElem?_eq_some_iff.mp hp).1
      have htake : ps.take (i + 1) = ps.take i ++ [p] := by
        rw [List.take_add_one, hp]
        rfl
      have lts : ts.length ≤ 200 := by
        have := htx.2
        rw [List.length_take] at this
        omega
      have small : ∀ {n : Nat}, n ≤ 300 → n < sizeLine := fun h => Nat.lt_of_le_of_lt h (by decide)
      refine ⟨rfl, _, rfl, b, rfl, ⟨_, .inl (.inl eb')⟩, ?_⟩
      refine Dc.in2_tup (K := K) (a := b) (xs := [.str p.1, .str p.2]) (fun j H2 => Same H H2 ∧ ((j = 0 ∧ H2 D = some (.dK (ts.map entS))) ∨ (j = 1 ∧ H2 D = some (.dK ((addT ts p.1).map entS))) ∨ (j = 2 ∧ H2 D = some (.dK ((addT (addT ts p.1) p.2).map entS))))) ⟨g, .inl ⟨rfl, hDt⟩⟩ (fun j H2 _ hP => .inl (.inl (hP.1 _ _ eb))) (fun j x H2 hx hP => ?_) fun H2 hP => ?_
      · obtain ⟨g2, hP⟩ := hP
        have put : ∀ {us : List Str} {t : Str}, H2 D = some (.dK (us.map entS)) → us.length ≤ 250 → ∃ H3, DPut H2 D (.str t) (.bl true) H3 ∧ Same H H3 ∧ H3 D = some (.dK ((addT us t).map entS)) := fun {us t} e hu => by
          refine ⟨_, DPut.k (k := .inr t) (v := .bl true) e (small (by rw [List.length_map]; omega)), fun c o ec => ?_, ?_⟩
          · rw [upd_ne (ne_of_none ec hD)]
            exact g2 _ _ ec
          · rw [upd_same, putK_entS]
        rcases hP with ⟨rfl, e⟩ | ⟨rfl, e⟩ | ⟨rfl, e⟩
        · obtain rfl : V.str p.1 = x := Option.some.inj hx
          obtain ⟨H3, p3, g3, e3⟩ := put (t := p.1) e (by omega)
          exact ⟨rfl, _, rfl, H3, p3, g3, .inr (.inl ⟨rfl, e3⟩)⟩
        · obtain rfl : V.str p.2 = x := Option.some.inj hx
          have := len_addT ts p.1
          obtain ⟨H3, p3, g3, e3⟩ := put (t := p.2) e (by omega)
          exact ⟨rfl, _, rfl, H3, p3, g3, .inr (.inr ⟨rfl, e3⟩)⟩
        · cases hx
      · obtain ⟨g2, hP⟩ := hP
        rcases hP with ⟨z, e⟩ | ⟨z, e⟩ | ⟨_, e⟩
        · cases z
        · cases z
        · exact ⟨g2, _, by rw [htake]; exact texts_snoc htx, e⟩
    · obtain ⟨g, ts, htx, hDt⟩ := hP
      have lb : bs.length = ps.length := Paired.length hbs
      rw [List.length_map, lb, List.take_length] at htx
      have lts : ts.length ≤ 200 := by
        have := htx.2
        omega
      have len20 : ∀ t ∈ ts, t.length ≤ 20000 := fun t ht => by
        obtain ⟨p, hp, e⟩ := (htx.1 t).mp ht
        rcases e with rfl | rfl
        · exact (h20 p hp).1
        · exact (h20 p hp).2
      rw [texts_all htx] at q
      refine ⟨D, _, hDt, trivial, fun od => ?_⟩
      refine ⟨_, rfl, D, od, rfl, .inl ⟨_, upd_same, ?_⟩⟩
      have back : upd (upd H' D (.frz od (.dK (ts.map entS)))) D (.dK (ts.map entS)) = H' := by
        rw [upd_upd]
        funext c
        by_cases hc : c = D
        · rw [hc, upd_same, hDt]
        · rw [upd_ne hc]
      refine for_it (walk_keys (d := D) (o := od) (kvs := ts.map entS)) (fun i σ H2 => ∃ s2 s3 : Option V, σ = [some (.ref r), some (.ref D), s2, s3] ∧ H2 = upd H' D (.frz od (.dK (ts.map entS))) ∧ ∀ t ∈ ts.take i, 1 ≤ t.length ∧ t.length ≤ 8) ⟨_, _, rfl, rfl, fun t ht => absurd ht (by simp)⟩ (fun i σ H2 _ hP => ?_) (fun i x σ H2 H3 hi hP hy => ?_) fun σ H2 hP => ?_
      · obtain ⟨_, _, _, rfl, _⟩ := hP
        exact upd_same
      · obtain ⟨s2, s3, rfl, rfl, hgood⟩ := hP
        obtain ⟨rfl, k, v, hk, rfl⟩ := hy
        rw [List.getElem?_map] at hk
        obtain ⟨t, ht, e⟩ := Option.map_eq_some_iff.mp hk
        injection e with e1 e2
        subst e1
        have mt : t ∈ ts := List.mem_of_getElem? ht
        refine ⟨_, rfl, t, rfl, small20 (len20 t mt), _, _, rfl, rfl, _, rfl, ?_⟩
        have bad : ¬ (1 ≤ t.length ∧ t.length ≤ 8) → ts.all nameS = false := fun z => by
          rw [Bool.eq_false_iff]
          intro a
          have := List.all_eq_true.mp a t mt
          unfold nameS at this
          rw [decide_eq_false z, Bool.false_and] at this
          cases this
        by_cases h1 : (1 : Int) ≤ (t.length : Int)
        · refine itY (by simpa using h1) ?_
          refine ⟨_, _, rfl, rfl, _, rfl, ?_⟩
          by_cases h2 : (t.length : Int) ≤ 8
          · refine itN (by simp [h2]) ?_
            refine ⟨_, _, rfl, rfl, fun u hu => ?_⟩
            rw [List.take_add_one, ht, List.mem_append] at hu
            rcases hu with hu | hu
            · exact hgood u hu
            · have : u = t := by simpa using hu
              subst this
              exact ⟨by omega, by omega⟩
          · refine itY (by simp [h2]) ?_
            refine ⟨upd_same, ?_⟩
            rw [back]
            rw [bad (by omega)] at q
            exact q H' g
        · refine itN (by simpa using h1) ?_
          refine ⟨_, rfl, ?_⟩
          refine itY (by simp) ?_
          refine ⟨upd_same, ?_⟩
          rw [back]
          rw [bad (by omega)] at q
          exact q H' g
      · obtain ⟨s2, s3, rfl, rfl, hgood⟩ := hP
        rw [List.length_map, List.take_length] at hgood
        refine ⟨upd_same, ?_⟩
        rw [back]
        refine ⟨_, rfl, !(ts.map entS).isEmpty, .inr (.inr ⟨_, hDt, rfl⟩), ?_⟩
        refine ⟨_, rfl, ?_⟩
        by_cases hn : ts = []
        · subst hn
          refine itY rfl ?_
          exact q H' g
        · have em : (ts.map entS).isEmpty = false := by
            cases ts with
            | nil => exact absurd rfl hn
            | cons _ _ => rfl
          refine itN (by rw [em]; decide) ?_
          have hsum := texts_sum fun t ht => (hgood t ht).2
          refine ⟨⟨_, rfl⟩, _, rfl, _, D, ts.map entS, ts, rfl, rfl, hDt, txts_entS ts, ?_, Txt.join "" ts, rfl, ?_⟩
          · exact PyProof.Rows.joinOk_of (by show _ + _ * (("" : Str).length) ≤ _; rw [show ("" : Str).length = 0 from rfl]; omega)
          · rw [small_join hn hgood]
            exact q H' g
end
end K65
set_option Elab.async false
set_option linter.all false
set_option maxRecDepth 100000
set_option maxHeartbeats 4000000
namespace K65
open PySem L2 Ld GxR Gx Sg
/-! the program's side: unlike ones, the premises of one rule -/
abbrev s_are_unlike : Stmt := topS 18
abbrev N_are_unlike : List Str := ["pairs"]
theorem sc_are_unlike : FnScope N_are_unlike ["pairs"] (defScope s_are_unlike) := ⟨rfl, rfl, rfl, by decide +kernel, rfl, by decide +kernel, by decide +kernel⟩
def spUnlike (K : PySem.W.Frag) : Sp := fun vs H Q _ => ∃ (r : Addr) (ks : List (Addr × List Key)), vs = [.ref r] ∧ SqL K H r (ks.map fun p => V.ref p.1) ∧ (∀ p ∈ ks, SqT K H p.1 (p.2.map kV)) ∧ ks.length < 64 ∧ Q (.bl (decide (ks.map (·.2)).Nodup)) H
abbrev s_premises_in : Stmt := topS 19
abbrev N_premises_in : List Str := ["thing", "found", "rule", "hand", "saying", "cost", "premises"]
theorem sc_premises_in : FnScope N_premises_in ["thing"] (defScope s_premises_in) := ⟨rfl, rfl, rfl, by decide +kernel, rfl, by decide +kernel, by decide +kernel⟩
def lenOk (ds : List PyData) : Bool := decide (1 ≤ ds.length ∧ ds.length ≤ 8)
/-- a rule's form: two texts, a whole number from 1 on, a list of one to eight -/
def formD : PyData → Bool
  | .tuple [.str _, .str _, .int c, .list ds] => decide (1 ≤ c) && lenOk ds
  | _ => false
theorem formD_len {ds : List PyData} (h : ds.length ≠ 4) : formD (.tuple ds) = false := by
  unfold formD
  split
  · rename_i e
    cases e
    exact absurd rfl h
  · rfl
theorem formD_of {d : PyData} (h : formD d = true) : ∃ x y c ds, d = .tuple [.str x, .str y, .int c, .list ds] ∧ 1 ≤ c ∧ 1 ≤ ds.length ∧ ds.length ≤ 8 := by
  match d, h with
  | .tuple [.str x, .str y, .int c, .list ds], h =>
    unfold formD lenOk at h
    rw [Bool.and_eq_true, decide_eq_true_eq, decide_eq_true_eq] at h
    exact ⟨x, y, c, ds, rfl, h.1, h.2.1, h.2.2⟩
theorem int_of_ty {d : PyData} (e : tyD d = "int") : ∃ x, d = .int x := by
  cases d with
  | int x => exact ⟨x, rfl⟩
  | none => exact absurd e (by decide)
  | bool b => exact absurd (show ("bool" : String) = "int" from e) (by decide)
  | str b => exact absurd (show ("str" : String) = "int" from e) (by decide)
  | tuple b => exact absurd (show ("tuple" : String) = "int" from e) (by decide)
  | list b => exact absurd (show ("list" : String) = "int" from e) (by decide)
  | dict b => exact absurd (show ("dict" : String) = "int" from e) (by decide)
theorem form_no {d0 d1 d2 d3 : PyData} (h : ¬ (tyD d0 = "str" ∧ tyD d1 = "str" ∧ tyD d2 = "int" ∧ tyD d3 = "list")) : formD (.tuple [d0, d1, d2, d3]) = false := by
  rw [Bool.eq_false_iff]
  intro z
  obtain ⟨x, y, c, ds, e, _⟩ := formD_of z
  cases e
  exact h ⟨rfl, rfl, rfl, rfl⟩
/-- the premises of a list of one rule, None where it is none by its form -/
def spPrem1 : Sp := fun vs H Q _ => ∃ (r : Addr) (v : V) (d : PyData), vs = [.ref r] ∧ H r = some (.lst [v]) ∧ Da H v d ∧ d.weight ≤ 20000 ∧ (formD d = false → ∀ H', Same H H' → Q .non H') ∧
  (formD d = true → ∀ (D p pl : Addr) (x y : Str) (c : Int) (ys : List V) (ds : List PyData) (H' : Hp), d = .tuple [.str x, .str y, .int c, .list ds] → v = .ref p → H p = some (.tup [.str x, .str y, .int c, .ref pl]) → H pl = some (.lst ys) → DaAll H ys ds → 1 ≤ ds.length → ds.length ≤ 8 →
    Same H H' → H D = none → H' D = some (.lst ys) → Q (.ref D) H')
section
variable {P : Program} {w : World} {K : PySem.W.Frag} {mg : Str → Option Value} {base : Heap}
theorem ok_are_unlike {f : Addr} {fd : FuncData} (F : Fun K "are_unlike" "are_unlike" s_are_unlike f fd) (z_set : mg "set" = none) (z_len : mg "len" = none) : FnOk P w K mg base CX0 1 f fd ["pairs"] (spUnlike K) := by
  refine F.ok sc_are_unlike (fun vs H Q E h => ?_) (fun cdv A outer s H vs Q E hr h => ?_)
  · obtain ⟨r, ks, rfl, _⟩ := h
    rfl
  · obtain ⟨r, ks, rfl, hl, hk, h64, q⟩ := h
    have hu64 := hr.units
    refine ⟨_, (pss_one (ps_ret (pe_cmpR op_eq (pe_lenS rfl hu64 (by rfl) z_len (by rfl) z_set (pv 0)) (pe_callB (call_len_seq) (by rfl) z_len (by decide +kernel) (pa_cons (pv 0) pa_nil)) (nomark _)))), ?_⟩
    refine ⟨_, rfl, r, ks, rfl, hl, hk, h64, fun L hL hm => ?_⟩
    refine ⟨_, rfl, r, _, rfl, .inl hl, rfl, ?_⟩
    have eq : decide (ks.map (·.2)).Nodup = decide (V.int (L.length : Int) = V.int ((ks.map fun p => V.ref p.1).length : Int)) := by
      rw [Bool.eq_iff_iff, decide_eq_true_eq, decide_eq_true_eq]
      have c := count hL hm
      rw [List.length_map] at c
      rw [← c, List.length_map]
      constructor
      · intro z
        rw [z]
      · intro z
        injection z with z
        omega
    rw [← eq]
    exact q
theorem ok_premises_in {f : Addr} {fd : FuncData} (F : Fun K "premises_in" "premises_in" s_premises_in f fd) (z_type : mg "type" = none) (z_list : mg "list" = none) (z_tuple : mg "tuple" = none) (z_str : mg "str" = none) (z_int : mg "int" = none) (z_len : mg "len" = none) : FnOk P w K mg base CX0 1 f fd ["thing"] spPrem1 := by
  refine F.ok sc_premises_in (fun vs H Q E h => ?_) (fun cdv A outer s H vs Q E hr h => ?_)
  · obtain ⟨r, v, d, rfl, _⟩ := h
    rfl
  · obtain ⟨r, v, d, rfl, er, hd, hw, qn, qy⟩ := h
    have hu1 := hu_of hr
    refine ⟨_, (pss_cons (ps_if (pt_cmpR (op_neTy hu1) (pe_callTy call_type1 (by rfl) z_type (by decide +kernel) (pa_cons (pv 0) pa_nil)) (pe_bltn (v := .ty "list") (by rfl) z_list (by decide +kernel) rfl) (nomark _)) (pss_one (ps_ret pe_non)) pss_nil)
  (pss_cons (ps_set (i := 1) sc_premises_in.nd rfl (Or.inl rfl) (pe_lst pa_nil))
  (pss_cons (ps_for PassesOwn.never rfl (pi_list (pv 0)) (pg_name (i := 2) sc_premises_in.nd rfl (Or.inl rfl))
  (pss_cons (ps_if (PW.pt (pw_or (pt_cmpR (op_neTy hu1) (pe_callTy call_type1 (by rfl) z_type (by decide +kernel) (pa_cons (pv 2) pa_nil)) (pe_bltn (v := .ty "tuple") (by rfl) z_tuple (by decide +kernel) rfl) (nomark _)) (pw_or1 (pt_cmpR op_ne (pe_callB (call_len_seq) (by rfl) z_len (by decide +kernel) (pa_cons (pv 2) pa_nil)) pe_int (nomark _))))) (pss_one (ps_ret pe_non)) pss_nil)
  (pss_cons (ps_asg (pv 2) (pg_tup (by rfl) (pgs_cons (pg_name (i := 3) sc_premises_in.nd rfl (Or.inl rfl)) (pgs_cons (pg_name (i := 4) sc_premises_in.nd rfl (Or.inl rfl)) (pgs_cons (pg_name (i := 5) sc_premises_in.nd rfl (Or.inl rfl)) (pgs_cons (pg_name (i := 6) sc_premises_in.nd rfl (Or.inl rfl)) pgs_nil))))))
  (pss_cons (ps_if (PW.pt (pw_or (pt_cmpR (op_neTy hu1) (pe_callTy call_type1 (by rfl) z_type (by decide +kernel) (pa_cons (pv 3) pa_nil)) (pe_bltn (v := .ty "str") (by rfl) z_str (by decide +kernel) rfl) (nomark _)) (pw_or (pt_cmpR (op_neTy hu1) (pe_callTy call_type1 (by rfl) z_type (by decide +kernel) (pa_cons (pv 4) pa_nil)) (pe_bltn (v := .ty "str") (by rfl) z_str (by decide +kernel) rfl) (nomark _)) (pw_or (pt_cmpR (op_neTy hu1) (pe_callTy call_type1 (by rfl) z_type (by decide +kernel) (pa_cons (pv 5) pa_nil)) (pe_bltn (v := .ty "int") (by rfl) z_int (by decide +kernel) rfl) (nomark _)) (pw_or1 (pt_cmpR op_lt (pv 5) pe_int (nomark _))))))) (pss_one (ps_ret pe_non)) pss_nil)
  (pss_cons (ps_if (PW.pt (pw_or (pt_cmpR (op_neTy hu1) (pe_callTy call_type1 (by rfl) z_type (by decide +kernel) (pa_cons (pv 6) pa_nil)) (pe_bltn (v := .ty "list") (by rfl) z_list (by decide +kernel) rfl) (nomark _)) (pw_or1 (pt_not (pt_chain op_le op_le pe_int (pe_callB (call_len_seq) (by rfl) z_len (by decide +kernel) (pa_cons (pv 6) pa_nil)) pe_int))))) (pss_one (ps_ret pe_non)) pss_nil)
  (pss_one (ps_expr (pe_bm PySem.F.plainAttrs_list PySem.F.slot_list_extend PySem.F.type_list_extend mt_extend (pv 1) (pa_cons (pv 6) pa_nil)))))))))
  (pss_one (ps_ret (pv 1)))))), ?_⟩
    -- type(thing) != list
    refine ⟨_, rfl, _, "list", rfl, .lst (.inl (.inl er)), "list", "list", rfl, rfl, .list, .list, _, rfl, ?_⟩
    refine itN (by decide) ?_
    -- found = []
    refine ⟨small20 (Nat.le_of_ble_eq_true rfl), fun D nD => ?_⟩
    obtain ⟨H1, g1, e1, hq1⟩ := newH nD (o := _)
    rw [hq1]
    -- for rule in thing
    refine ⟨_, rfl, r, rfl, ⟨[v], .inl (.inl (g1 _ _ er))⟩, ?_⟩
    refine for_list (K := K) (a := r) (xs := [v]) (fun i σ H' => ∃ s2 s3 s4 s5 s6 : Option V, σ = [some (.ref r), some (.ref D), s2, s3, s4, s5, s6] ∧ Same H H' ∧ ((i = 0 ∧ H' = H1) ∨ (i = 1 ∧ ∃ (p pl : Addr) (x y : Str) (c : Int) (ys : List V) (ds : List PyData), formD d = true ∧ d = .tuple [.str x, .str y, .int c, .list ds] ∧ v = .ref p ∧ H p = some (.tup [.str x, .str y, .int c, .ref pl]) ∧ H pl = some (.lst ys) ∧ DaAll H ys ds ∧ H' D = some (.lst ys))))
      ⟨_, _, _, _, _, rfl, g1, .inl ⟨rfl, rfl⟩⟩ (fun i σ H' _ hP => ?_) (fun i x σ H' hx hP => ?_) fun σ H' hP => ?_
    · obtain ⟨_, _, _, _, _, _, g, _⟩ := hP
      exact .inl (.inl (g _ _ er))
    · obtain ⟨s2, s3, s4, s5, s6, rfl, g, hP⟩ := hP
      rcases hP with ⟨rfl, eH⟩ | ⟨rfl, _⟩
      · have eH' : H1 = H' := eH.symm
        subst eH'
        obtain rfl : v = x := Option.some.inj hx
        have hd1 := Same.da g1 hd
        obtain ⟨ht, hk⟩ := tyb_of (K := K) hd1
        refine ⟨_, rfl, _, tyD d, rfl, ht, tyD d, "tuple", rfl, rfl, hk, .tuple, _, rfl, ?_⟩
        by_cases e : tyD d = "tuple"
        · obtain ⟨es, rfl⟩ := tuple_of_ty e
          refine itF (by rw [decide_eq_true e]; rfl) ?_
          cases hd with
          | @tup p ws _ ep hall =>
          refine ⟨_, rfl, p, ws, rfl, .inr (.inl (.inl (g1 _ _ ep))), rfl, _, rfl, ?_⟩
          by_cases h4 : ws.length = 4
          · refine itN (by simp [h4]) ?_
            obtain ⟨v0, v1, v2, v3, d0, d1, d2, d3, rfl, rfl, h0, h1, h2, h3⟩ := four_of hall h4
            refine ⟨_, rfl, p, _, rfl, .inl (.inl (g1 _ _ ep)), rfl, _, _, rfl, _, _, rfl, _, _, rfl, _, _, rfl, rfl, ?_⟩
            obtain ⟨t0, k0⟩ := tyb_of (K := K) (Same.da g1 h0)
            obtain ⟨t1, k1⟩ := tyb_of (K := K) (Same.da g1 h1)
            obtain ⟨t2, k2⟩ := tyb_of (K := K) (Same.da g1 h2)
            obtain ⟨t3, k3⟩ := tyb_of (K := K) (Same.da g1 h3)
            refine ⟨_, rfl, _, tyD d0, rfl, t0, tyD d0, "str", rfl, rfl, k0, .str, _, rfl, ?_⟩
            by_cases c0 : tyD d0 = "str"
            · refine itF (by rw [decide_eq_true c0]; rfl) ?_
              refine ⟨_, rfl, _, tyD d1, rfl, t1, tyD d1, "str", rfl, rfl, k1, .str, _, rfl, ?_⟩
              by_cases c1 : tyD d1 = "str"
              · refine itF (by rw [decide_eq_true c1]; rfl) ?_
                refine ⟨_, rfl, _, tyD d2, rfl, t2, tyD d2, "int", rfl, rfl, k2, .int, _, rfl, ?_⟩
                by_cases c2 : tyD d2 = "int"
                · refine itF (by rw [decide_eq_true c2]; rfl) ?_
                  obtain ⟨x, rfl⟩ := str_of_ty c0
                  obtain ⟨y, rfl⟩ := str_of_ty c1
                  obtain ⟨c, rfl⟩ := int_of_ty c2
                  cases h0
                  cases h1
                  cases h2
                  refine ⟨_, rfl, c, 1, rfl, rfl, _, rfl, ?_⟩
                  by_cases hc : c < 1
                  · refine itY (by simpa using hc) ?_
                    refine qn ?_ H1 g1
                    rw [Bool.eq_false_iff]
                    intro z
                    obtain ⟨_, _, _, _, ee, hh, _⟩ := formD_of z
                    cases ee
                    omega
                  · refine itN (by simpa using hc) ?_
                    refine ⟨_, rfl, _, tyD d3, rfl, t3, tyD d3, "list", rfl, rfl, k3, .list, _, rfl, ?_⟩
                    by_cases c3 : tyD d3 = "list"
                    · refine itF (by rw [decide_eq_true c3]; rfl) ?_
                      obtain ⟨ds, rfl⟩ := list_of_ty c3
                      cases h3 with
                      | @lst pl ys _ el hys =>
                      have ly : ys.length = ds.length := hys.len
                      have nf : ¬ (1 ≤ ds.length ∧ ds.length ≤ 8) → formD (.tuple [.str x, .str y, .int c, .list ds]) = false := fun z => by
                        show (decide (1 ≤ c) && lenOk ds) = false
                        unfold lenOk
                        rw [decide_eq_false z, Bool.and_false]
                      refine ⟨_, rfl, pl, ys, rfl, .inl (.inl (.inl (g1 _ _ el))), _, _, rfl, rfl, _, rfl, ?_⟩
                      by_cases l1 : (1 : Int) ≤ (ys.length : Int)
                      · refine itY (by simpa using l1) ?_
                        refine ⟨_, _, rfl, rfl, _, rfl, ?_⟩
                        by_cases l2 : (ys.length : Int) ≤ 8
                        · refine itN (by simp [l2]) ?_
                          refine ⟨_, rfl, .inl ⟨rfl, _, .inl (.inl e1)⟩, _, rfl, D, pl, [], ys, rfl, rfl, e1, g1 _ _ el, ?_, ?_⟩
                          · show 0 + ys.length ≤ sizeLine
                            exact Nat.le_trans (by omega : 0 + ys.length ≤ 8) (by decide)
                          · refine ⟨_, _, _, _, _, rfl, fun b o eb => ?_, .inr ⟨rfl, p, pl, x, y, c, ys, ds, ?_, rfl, rfl, ep, el, hys, by rw [upd_same]; rfl⟩⟩
                            · rw [upd_ne (ne_of_none eb nD)]
                              exact g1 _ _ eb
                            · show (decide (1 ≤ c) && lenOk ds) = true
                              unfold lenOk
                              rw [decide_eq_true (by omega : 1 ≤ c), decide_eq_true (by omega : 1 ≤ ds.length ∧ ds.length ≤ 8)]
                              rfl
                        · refine itY (by simp [l2]) ?_
                          exact qn (nf (by omega)) H1 g1
                      · refine itN (by simpa using l1) ?_
                        refine ⟨_, rfl, ?_⟩
                        refine itY (by simp) ?_
                        exact qn (nf (by omega)) H1 g1
                    · refine itT (by rw [decide_eq_false c3]; rfl) ?_
                      refine itT rfl ?_
                      exact qn (form_no fun z => c3 z.2.2.2) H1 g1
                · refine itT (by rw [decide_eq_false c2]; rfl) ?_
                  refine itT rfl ?_
                  exact qn (form_no fun z => c2 z.2.2.1) H1 g1
              · refine itT (by rw [decide_eq_false c1]; rfl) ?_
                refine itT rfl ?_
                exact qn (form_no fun z => c1 z.2.1) H1 g1
            · refine itT (by rw [decide_eq_false c0]; rfl) ?_
              refine itT rfl ?_
              exact qn (form_no fun z => c0 z.1) H1 g1
          · refine itY (by simp; omega) ?_
            exact qn (formD_len (by rw [← hall.len]; exact h4)) H1 g1
        · refine itT (by rw [decide_eq_false e]; rfl) ?_
          refine itT rfl ?_
          refine qn ?_ H1 g1
          cases d with
          | tuple x => exact absurd rfl e
          | _ => rfl
      · cases hx
    · obtain ⟨s2, s3, s4, s5, s6, rfl, g, hP⟩ := hP
      rcases hP with ⟨z, _⟩ | ⟨_, p, pl, x, y, c, ys, ds, hf, ed, ev, ep, el, hys, eD⟩
      · cases z
      · obtain ⟨_, _, _, _, ee, _, l1, l8⟩ := formD_of hf
        rw [ed] at ee
        cases ee
        exact ⟨_, rfl, qy hf D p pl x y c ys ds H' ed ev ep el hys l1 l8 g nD eD⟩
end
end K65
set_option Elab.async false
set_option linter.all false
set_option maxRecDepth 100000
set_option maxHeartbeats 4000000
namespace K65
open PySem L2 Ld GxR Gx Sg
/-! the program's side: the places of a world of one rule -/
def pairOf (p : Str × Str) : PyData := .tuple [.str p.1, .str p.2]
def keyOf (p : Str × Str) : List Key := [.inr p.1, .inr p.2]
theorem pairs_of {H : Hp} : ∀ {vs : List V} {ds : List PyData}, DaAll H vs ds → ds.all pairD = true → ∃ (bs : List Addr) (ps : List (Str × Str)), vs = bs.map V.ref ∧ ds = ps.map pairOf ∧ Paired (PairAt H) bs ps
  | _, _, .nil, _ => ⟨[], [], rfl, rfl, .nil⟩
  | v :: vs, d :: ds, .cons h t, e => by
    rw [List.all_cons, Bool.and_eq_true] at e
    obtain ⟨bs, ps, h1, h2, h3⟩ := pairs_of t e.2
    obtain ⟨x, y, rfl⟩ := pair_of e.1
    cases h with
    | @tup r xs _ er hall =>
      cases hall with
      | cons a t1 =>
        cases a
        cases t1 with
        | cons b t2 =>
          cases b
          cases t2
          exact ⟨r :: bs, (x, y) :: ps, by rw [h1]; rfl, by rw [h2]; rfl, .cons er h3⟩
theorem paired_keep {H H' : Hp} (g : Same H H') : ∀ {bs : List Addr} {ps : List (Str × Str)}, Paired (PairAt H) bs ps → Paired (PairAt H') bs ps
  | _, _, .nil => .nil
  | _, _, .cons h t => .cons (g _ _ h) (paired_keep g t)
def addP (us : List (Str × Str)) (p : Str × Str) : List (Str × Str) := if p ∈ us then us else us ++ [p]
abbrev entP (p : Str × Str) : List Key × V := (keyOf p, .bl true)
theorem mem_addP {us : List (Str × Str)} {p u : Str × Str} : u ∈ addP us p ↔ u ∈ us ∨ u = p := by
  unfold addP
  by_cases h : p ∈ us
  · rw [if_pos h]
    exact ⟨.inl, fun z => z.elim id fun e => by rw [e]; exact h⟩
  · rw [if_neg h, List.mem_append, List.mem_singleton]
theorem len_addP (us : List (Str × Str)) (p : Str × Str) : (addP us p).length ≤ us.length + 1 := by
  unfold addP
  split
  · omega
  · rw [List.length_append]
    simp
theorem keyOf_inj {p u : Str × Str} (h : keyOf u = keyOf p) : u = p := by
  unfold keyOf at h
  injection h with h1 h2
  injection h2 with h2 _
  injection h1 with h1
  injection h2 with h2
  exact Prod.ext h1 h2
theorem putK_entP (us : List (Str × Str)) (p : Str × Str) : putK (us.map entP) (keyOf p) (.bl true) = (addP us p).map entP := by
  unfold putK addP
  have e : ((us.map entP).any fun kv => decide (kv.1 = keyOf p)) = decide (p ∈ us) := by
    rw [Bool.eq_iff_iff, List.any_eq_true, decide_eq_true_eq]
    constructor
    · rintro ⟨q, hq, hd⟩
      obtain ⟨u, hu, rfl⟩ := List.mem_map.mp hq
      rw [← keyOf_inj (of_decide_eq_true hd)]
      exact hu
    · intro h
      exact ⟨_, List.mem_map.mpr ⟨p, h, rfl⟩, decide_eq_true rfl⟩
  rw [e]
  by_cases h : p ∈ us
  · rw [if_pos (decide_eq_true h), if_pos h]
    refine (List.map_congr_left fun q hq => ?_).trans (List.map_id _)
    obtain ⟨u, hu, rfl⟩ := List.mem_map.mp hq
    by_cases z : keyOf u = keyOf p
    · show (if keyOf u = keyOf p then _ else _) = _
      rw [if_pos z]
      rfl
    · show (if keyOf u = keyOf p then _ else _) = _
      rw [if_neg z]
      rfl
  · rw [if_neg (by simpa using h), if_neg h, List.map_append]
    rfl
theorem keys_pairs {H : Hp} : ∀ {us : List (Str × Str)} {bs : List Addr}, IsKeys H (us.map entP) bs → Paired (PairAt H) bs us
  | [], _, .nil => .nil
  | _ :: _, _, .cons h t => .cons h (keys_pairs t)
theorem all_mem {us ps : List (Str × Str)} (h : ∀ u, u ∈ us ↔ u ∈ ps) (f : Str × Str → Bool) : us.all f = ps.all f := by
  rw [Bool.eq_iff_iff, List.all_eq_true, List.all_eq_true]
  exact ⟨fun a u hu => a u ((h u).mpr hu), fun a u hu => a u ((h u).mp hu)⟩
abbrev nameP (p : Str × Str) : Bool := nameS p.1 && nameS p.2
theorem places_pairs (ps : List (Str × Str)) : (ps.map pairOf).all placeD = ps.all nameP := by
  rw [List.all_map]
  rfl
theorem place_pair {d : PyData} (h : placeD d = true) : pairD d = true := by
  obtain ⟨x, y, rfl, _, _⟩ := place_of_true h
  rfl
theorem rule_form {d : PyData} (h : formD d = false) : ruleD d = false := by
  rw [Bool.eq_false_iff]
  intro z
  match d, z with
  | .tuple [d0, d1, d2, d3], z =>
    have e : ruleD (.tuple [d0, d1, d2, d3]) = (nameD d0 && nameD d1 && costD d2 && (unlikePlacesD d3 && lenD d3)) := rfl
    rw [e] at z
    simp only [Bool.and_eq_true] at z
    obtain ⟨⟨⟨z0, z1⟩, z2⟩, z3, z4⟩ := z
    cases d0 with
    | str x =>
      cases d1 with
      | str y =>
        cases d2 with
        | int c =>
          cases d3 with
          | list ds =>
            have l : decide (1 ≤ ds.length ∧ ds.length ≤ 8) = true := z4
            have c1 : decide (1 ≤ c) = true := z2
            have f : formD (.tuple [.str x, .str y, .int c, .list ds]) = (decide (1 ≤ c) && lenOk ds) := rfl
            rw [f, c1] at h
            unfold lenOk at h
            rw [l] at h
            cases h
          | _ => exact absurd z3 (by simp [unlikePlacesD])
        | _ => exact absurd z2 (by simp [costD])
      | _ => exact absurd z1 (by simp [nameD])
    | _ => exact absurd z0 (by simp [nameD])
  | .tuple [], z => exact absurd z (by simp [ruleD])
  | .tuple [_], z => exact absurd z (by simp [ruleD])
  | .tuple [_, _], z => exact absurd z (by simp [ruleD])
  | .tuple [_, _, _], z => exact absurd z (by simp [ruleD])
  | .tuple (_ :: _ :: _ :: _ :: _ :: _), z => exact absurd z (by simp [ruleD])
  | .none, z => exact absurd z (by simp [ruleD])
  | .bool _, z => exact absurd z (by simp [ruleD])
  | .int _, z => exact absurd z (by simp [ruleD])
  | .str _, z => exact absurd z (by simp [ruleD])
  | .list _, z => exact absurd z (by simp [ruleD])
  | .dict _, z => exact absurd z (by simp [ruleD])
theorem rule_eq {x y : Str} {c : Int} {ds : List PyData} (hc : 1 ≤ c) (h1 : 1 ≤ ds.length) (h8 : ds.length ≤ 8) : ruleD (.tuple [.str x, .str y, .int c, .list ds]) = (nameP (x, y) && (ds.all placeD && unlikeD ds)) := by
  have e : ruleD (.tuple [.str x, .str y, .int c, .list ds]) = (nameD (.str x) && nameD (.str y) && decide (1 ≤ c) && ((ds.all placeD && unlikeD ds) && decide (1 ≤ ds.length ∧ ds.length ≤ 8))) := rfl
  rw [e, decide_eq_true hc, decide_eq_true (show 1 ≤ ds.length ∧ ds.length ≤ 8 from ⟨h1, h8⟩), Bool.and_true, Bool.and_true]
  rfl
abbrev s_places_in : Stmt := topS 17
abbrev N_places_in : List Str := ["thing", "premises", "found", "rule", "vouched", "rules", "roads", "hand", "other", "place"]
theorem sc_places_in : FnScope N_places_in ["thing"] (defScope s_places_in) := ⟨rfl, rfl, rfl, by decide +kernel, rfl, by decide +kernel, by decide +kernel⟩
/-- of a world of one rule alone -/
def spOneRule : Sp := fun vs H Q _ => ∃ (t a0 a1 a2 : Addr) (v : V) (d : PyData), vs = [.ref t] ∧ H t = some (.tup [.ref a0, .ref a1, .ref a2]) ∧ H a0 = some (.lst []) ∧ H a1 = some (.lst [v]) ∧ H a2 = some (.lst []) ∧ Da H v d ∧ d.weight ≤ 20000 ∧
  (ruleD d = false → ∀ H', Same H H' → Q .non H') ∧ (ruleD d = true → ∀ (D : Addr) (H' : Hp), Same H H' → Q (.ref D) H')
section
variable {P : Program} {w : World} {K : PySem.W.Frag} {mg : Str → Option Value} {base : Heap}
theorem ok_places_in {f fP fN fU fM : Addr} {fd fdP fdN fdU fdM : FuncData} (F : Fun K "places_in" "places_in" s_places_in f fd) (G_are_pairs : FnOk P w K mg base CX0 1 fP fdP ["things"] spPairs2) (g_are_pairs : mg "are_pairs" = some (.ref fP)) (k_are_pairs : PySem.W.keepIn K (.ref fP) = true) (b_are_pairs : Binds K fdP ["things"] [])
    (G_are_of_names : FnOk P w K mg base CX0 2 fN fdN ["pairs"] spNames) (g_are_of_names : mg "are_of_names" = some (.ref fN)) (k_are_of_names : PySem.W.keepIn K (.ref fN) = true) (b_are_of_names : Binds K fdN ["pairs"] [])
    (G_are_unlike : FnOk P w K mg base CX0 1 fU fdU ["pairs"] (spUnlike K)) (g_are_unlike : mg "are_unlike" = some (.ref fU)) (k_are_unlike : PySem.W.keepIn K (.ref fU) = true) (b_are_unlike : Binds K fdU ["pairs"] [])
    (G_premises_in : FnOk P w K mg base CX0 1 fM fdM ["thing"] spPrem1) (g_premises_in : mg "premises_in" = some (.ref fM)) (k_premises_in : PySem.W.keepIn K (.ref fM) = true) (b_premises_in : Binds K fdM ["thing"] [])
    (z_type : mg "type" = none) (z_list : mg "list" = none) (z_tuple : mg "tuple" = none) (z_len : mg "len" = none) (z_set : mg "set" = none) : FnOk P w K mg base CX0 3 f fd ["thing"] spOneRule := by
  refine F.ok sc_places_in (fun vs H Q E h => ?_) (fun cdv A outer s H vs Q E hr h => ?_)
  · obtain ⟨t, a0, a1, a2, v, d, rfl, _⟩ := h
    rfl
  · obtain ⟨t, a0, a1, a2, v, d, rfl, et, h0, h1, h2, hd, hw, qn, qy⟩ := h
    have hu1 := hu_of hr
    have hu64 := hr.units
    have hu0 : (A.deeper (PyProof.Rows.envOfC "places_in" (defScope s_places_in) s.heap.objs.size f cdv)).units < cLine := by
      have := hr.units
      omega
    refine ⟨_, (pss_cons (ps_if (PW.pt (pw_or (pt_cmpR (op_neTy hu1) (pe_callTy call_type1 (by rfl) z_type (by decide +kernel) (pa_cons (pv 0) pa_nil)) (pe_bltn (v := .ty "tuple") (by rfl) z_tuple (by decide +kernel) rfl) (nomark _)) (pw_or1 (pt_cmpR op_ne (pe_callB (call_len_seq) (by rfl) z_len (by decide +kernel) (pa_cons (pv 0) pa_nil)) pe_int (nomark _))))) (pss_one (ps_ret pe_non)) pss_nil)
  (pss_cons (ps_asg (pv 0) (pg_tup (by rfl) (pgs_cons (pg_name (i := 4) sc_places_in.nd rfl (Or.inl rfl)) (pgs_cons (pg_name (i := 5) sc_places_in.nd rfl (Or.inl rfl)) (pgs_cons (pg_name (i := 6) sc_places_in.nd rfl (Or.inl rfl)) pgs_nil)))))
  (pss_cons (ps_if (PW.pt (pw_or (pt_cmpR (op_neTy hu1) (pe_callTy call_type1 (by rfl) z_type (by decide +kernel) (pa_cons (pv 4) pa_nil)) (pe_bltn (v := .ty "list") (by rfl) z_list (by decide +kernel) rfl) (nomark _)) (pw_or1 (pt_cmpR (op_neTy hu1) (pe_callTy call_type1 (by rfl) z_type (by decide +kernel) (pa_cons (pv 6) pa_nil)) (pe_bltn (v := .ty "list") (by rfl) z_list (by decide +kernel) rfl) (nomark _))))) (pss_one (ps_ret pe_non)) pss_nil)
  (pss_cons (ps_set (i := 1) sc_places_in.nd rfl (Or.inl rfl) (pe_call G_premises_in (hr.mono (by decide)) (by rfl) g_premises_in k_premises_in b_premises_in .nil pass0 (pa_cons (pv 5) pa_nil)))
  (pss_cons (ps_if (PW.pt (pw_or (pt_cmpR op_isN (pv 1) pe_non (nomark _)) (pw_or1 (pt_not (pt_val (pe_call G_are_pairs (hr.mono (by decide)) (by rfl) g_are_pairs k_are_pairs b_are_pairs .nil pass0 (pa_cons (pe_op op_cat (pe_op op_cat (pv 4) (pv 1)) (pv 6)) pa_nil))))))) (pss_one (ps_ret pe_non)) pss_nil)
  (pss_cons (Dc.ps_setDp (.dT []) (i := 2) (own := [("place", 9)]) (g := gName 9) (tt := tYes) (.inr rfl) hu0 rfl sc_places_in.nd rfl rfl (Dc.swD rfl rfl rfl (by decide +kernel))
      (pi_list (pe_op op_cat (pe_op op_cat (pv 4) (pe_lc (own := [("rule", 3)]) (g := gName 3) (tt := tYes) rfl sc_places_in.nd (pi_list (pv 5)) (blkOk_by (own := [("rule", 3)]) (N := N_places_in) (sc := defScope s_places_in) (by decide +kernel)) (fun _ _ _ _ _ => pg_name (i := 3) sc_places_in.nd rfl (Or.inl rfl)) (fun _ _ _ _ _ => pts_nil)
        (fun _ _ _ _ _ => pe_slice (r := rSlT K) sl_tup (pv 3) po_none (po_some pe_int)))) (pv 1)))
      (blkOk_by (own := [("place", 9)]) (N := N_places_in) (sc := defScope s_places_in) (by decide +kernel)) (fun _ _ _ _ _ => pg_name (i := 9) sc_places_in.nd rfl (Or.inl rfl)) (fun _ _ _ _ _ => pts_nil) (fun _ _ _ _ _ => pv 9) (fun _ _ _ _ _ => pe_bl))
  (pss_cons (ps_if (PW.pt (pw_or (pt_not (pt_val (pe_call G_are_of_names (hr.mono (by decide)) (by rfl) g_are_of_names k_are_of_names b_are_of_names .nil pass0 (pa_cons (pe_lst (Jd.pa_starD rfl (pv 2) (Jd.pa_starD rfl (pv 6) pa_nil))) pa_nil)))) (pw_or (pt_not (pt_val (pe_call G_are_unlike (hr.mono (by decide)) (by rfl) g_are_unlike k_are_unlike b_are_unlike .nil pass0 (pa_cons (pv 4) pa_nil)))) (pw_or1 (pt_not (pt_val (pe_call G_are_unlike (hr.mono (by decide)) (by rfl) g_are_unlike k_are_unlike b_are_unlike .nil pass0 (pa_cons (pv 6) pa_nil)))))))) (pss_one (ps_ret pe_non)) pss_nil)
  (pss_cons (ps_for PassesOwn.never rfl (pi_list (pv 5)) (pg_name (i := 3) sc_places_in.nd rfl (Or.inl rfl))
  (pss_one (ps_if (pt_cmpR op_ne (pe_lenS rfl hu64 (by rfl) z_len (by rfl) z_set (pe_ix ix_tup (pv 3) pe_int (fun _ _ => rfl))) (pe_callB (call_len_seq) (by rfl) z_len (by decide +kernel) (pa_cons (pe_ix ix_tup (pv 3) pe_int (fun _ _ => rfl)) pa_nil)) (nomark _)) (pss_one (ps_ret pe_non)) pss_nil)))
  (pss_cons (ps_for PassesOwn.never rfl (pi_list (pv 6)) (pg_tup (by rfl) (pgs_cons (pg_name (i := 7) sc_places_in.nd rfl (Or.inl rfl)) (pgs_cons (pg_name (i := 8) sc_places_in.nd rfl (Or.inl rfl)) pgs_nil)))
  (pss_one (ps_if (pt_cmpR op_ge_str (pv 7) (pv 8) (nomark _)) (pss_one (ps_ret pe_non)) pss_nil)))
  (pss_one (ps_ret (pv 2)))))))))))), ?_⟩
    -- type(thing) != tuple or len(thing) != 3
    refine ⟨_, rfl, _, "tuple", rfl, .tup (.inl (.inl et)), "tuple", "tuple", rfl, rfl, .tuple, .tuple, _, rfl, ?_⟩
    refine itN (by decide) ?_
    refine ⟨_, rfl, t, _, rfl, .inr (.inl (.inl et)), rfl, _, rfl, ?_⟩
    refine itN (by simp) ?_
    -- vouched, rules, roads = thing
    refine ⟨_, rfl, t, _, rfl, .inl (.inl et), rfl, _, _, rfl, _, _, rfl, _, _, rfl, rfl, ?_⟩
    -- type(vouched) != list or type(roads) != list
    refine ⟨_, rfl, _, "list", rfl, .lst (.inl (.inl h0)), "list", "list", rfl, rfl, .list, .list, _, rfl, ?_⟩
    refine itN (by decide) ?_
    refine ⟨_, rfl, _, "list", rfl, .lst (.inl (.inl h2)), "list", "list", rfl, rfl, .list, .list, _, rfl, ?_⟩
    refine itN (by decide) ?_
    -- premises = premises_in(rules)
    refine ⟨_, rfl, a1, v, d, rfl, h1, hd, hw, fun hf H1 g1 => ?_, fun hf D1 p pl x y c ys ds H1 ed ev ep el hys l1 l8 g1 nD1 eD1 => ?_⟩
    · refine ⟨_, rfl, rfl, _, rfl, ?_⟩
      refine itT (by simp) ?_
      refine itT rfl ?_
      exact qn (rule_form hf) H1 g1
    · subst ev
      obtain ⟨_, _, _, _, ee, c1, _, _⟩ := formD_of hf
      rw [ed] at ee
      cases ee
      have re := rule_eq (x := x) (y := y) (c := c) c1 l1 l8
      rw [← ed] at re
      refine ⟨_, rfl, rfl, _, rfl, ?_⟩
      refine itN (by simp) ?_
      have ln : ys.length = ds.length := hys.len
      have le : ∀ {n : Nat}, n ≤ 100 → n ≤ sizeLine := fun z => Nat.le_trans z (by decide)
      -- are_pairs(vouched + premises + roads)
      refine ⟨_, rfl, _, rfl, a0, D1, [], ys, rfl, rfl, g1 _ _ h0, eD1, le (by show 0 + _ ≤ _; omega), fun p2 n2 => ?_⟩
      obtain ⟨H2, g2, e2, hq2⟩ := newH n2 (o := _)
      rw [hq2]
      refine ⟨_, rfl, p2, a2, _, [], rfl, rfl, e2, g2 _ _ (g1 _ _ h2), le (by show ys.length + 0 ≤ _; omega), fun p3 n3 => ?_⟩
      obtain ⟨H3, g3, e3, hq3⟩ := newH n3 (o := _)
      rw [hq3]
      have g13 : Same H1 H3 := g2.trans g3
      have gg3 : Same H H3 := g1.trans g13
      have e3' : H3 p3 = some (.lst ys) := by
        rw [e3]
        simp
      refine ⟨p3, ys, ds, rfl, e3', hys.keep fun b o eb _ => gg3 _ _ eb, by omega, fun H4 g4 => ⟨_, rfl, ?_⟩⟩
      have gg4 : Same H H4 := gg3.trans g4
      by_cases hp : ds.all pairD = true
      · refine itN (by rw [hp]; decide) ?_
        obtain ⟨bs, ps, rfl, rfl, hbs⟩ := pairs_of hys hp
        have lb : bs.length = ps.length := Paired.length hbs
        have lp8 : ps.length ≤ 8 := by
          rw [List.length_map] at l8
          exact l8
        have D14 : H4 D1 = some (.lst (bs.map V.ref)) := g4 _ _ (g13 _ _ eD1)
        -- vouched + [rule[:2] for rule in rules] + premises
        refine ⟨_, rfl, _, rfl, a1, rfl, ⟨_, .inl (.inl (gg4 _ _ h1))⟩, fun D5 n5 => ?_⟩
        refine lc_list (K := K) (a := a1) (xs := [V.ref p]) (fun i H' => Same H H' ∧ Same H4 H' ∧ ((i = 0 ∧ H' D5 = some (.lst [])) ∨ (i = 1 ∧ ∃ q, H' q = some (.tup [.str x, .str y]) ∧ H' D5 = some (.lst [.ref q])))) ⟨gg4.trans (same_upd n5), same_upd n5, .inl ⟨rfl, upd_same⟩⟩ (fun i H' _ hP => .inl (.inl (hP.1 _ _ h1))) (fun i z H' hx hP => ?_) fun H' hP => ?_
        · obtain ⟨g, g', hP⟩ := hP
          rcases hP with ⟨rfl, e5⟩ | ⟨rfl, _⟩
          · obtain rfl : V.ref p = z := Option.some.inj hx
            refine ⟨rfl, _, rfl, 2, rfl, p, _, rfl, .inl (.inl (g _ _ ep)), ?_, fun q nq => ?_⟩
            · show ¬ (_ ∧ _)
              intro hh
              exact absurd (show HT.sIx 4 4 (some 2) = 4 from hh.2) (by decide)
            · obtain ⟨H6, g6, e6, hq6⟩ := newH nq (o := _)
              rw [hq6]
              refine ⟨[], g6 _ _ e5, by decide, fun b o eb => ?_, fun b o eb => ?_, .inr ⟨rfl, q, ?_, upd_same⟩⟩
              · rw [upd_ne (ne_of_none eb (by
                  cases e : H D5 with
                  | none => rfl
                  | some o => rw [gg4 _ _ e] at n5; cases n5))]
                exact g6 _ _ (g _ _ eb)
              · rw [upd_ne (ne_of_none eb n5)]
                exact g6 _ _ (g' _ _ eb)
              · rw [upd_ne (fun z => by rw [z] at nq; rw [nq] at e5; cases e5)]
                exact e6
          · cases hx
        · obtain ⟨g, g', hP⟩ := hP
          rcases hP with ⟨z, _⟩ | ⟨_, q, eq, e5⟩
          · cases z
          refine ⟨a0, D5, [], [.ref q], rfl, rfl, g _ _ h0, e5, le (by show 0 + 1 ≤ _; omega), fun p6 n6 => ?_⟩
          obtain ⟨H6, g6, e6, hq6⟩ := newH n6 (o := _)
          rw [hq6]
          refine ⟨_, rfl, p6, D1, _, _, rfl, rfl, e6, g6 _ _ (g' _ _ D14), le (by show 1 + _ ≤ _; rw [List.length_map]; omega), fun p7 n7 => ?_⟩
          obtain ⟨H7, g7, e7, hq7⟩ := newH n7 (o := _)
          rw [hq7]
          have gg7 : Same H H7 := g.trans (g6.trans g7)
          have eq7 := g7 _ _ (g6 _ _ eq)
          refine ⟨p7, rfl, ⟨_, .inl (.inl e7)⟩, fun D8 n8 => ?_⟩
          have hb8 : Paired (PairAt H7) (q :: bs) ((x, y) :: ps) := .cons eq7 (paired_keep gg7 hbs)
          refine Dc.lp1_list (K := K) (a := p7) (xs := (q :: bs).map V.ref) (fun i H' => Same H7 H' ∧ ∃ us, (∀ u, u ∈ us ↔ u ∈ ((x, y) :: ps).take i) ∧ us.length ≤ i ∧ H' D8 = some (.dT (us.map entP))) ⟨same_upd n8, [], fun u => by simp, by simp, upd_same⟩ (fun i H' _ hP => .inl (.inl (hP.1 _ _ e7))) (fun i z H' hx hP => ?_) fun H' hP => ?_
          · obtain ⟨g9, us, hus, hl, e9⟩ := hP
            rw [List.getElem?_map] at hx
            obtain ⟨b, hb, rfl⟩ := Option.map_eq_some_iff.mp hx
            obtain ⟨pp, hpp, eb⟩ := paired_at hb8 hb
            have hi := (List.getElem?_eq_some_iff.mp hb).1
            refine ⟨rfl, _, rfl, _, DPut.t (k := keyOf pp) e9 (g9 _ _ eb) (Nat.lt_of_le_of_lt (m := 100) (by rw [List.length_map]; rw [List.length_cons] at hi; omega) (by decide)), fun c o ec => ?_, addP us pp, fun u => ?_, Nat.le_trans (len_addP us pp) (by omega), ?_⟩
            · rw [upd_ne (ne_of_none ec n8)]
              exact g9 _ _ ec
            · rw [mem_addP, hus, List.take_add_one, hpp, List.mem_append]
              simp
            · rw [upd_same, putK_entP]
          · obtain ⟨g9, us, hus, hl, e9⟩ := hP
            have lq : ((q :: bs).map V.ref).length = ((x, y) :: ps).length := by
              rw [List.length_map, List.length_cons, List.length_cons, lb]
            rw [lq, List.take_length] at hus
            rw [lq, List.length_cons] at hl
            have gg9 : Same H H' := gg7.trans g9
            -- are_of_names([*found, *roads])
            refine ⟨_, rfl, D8, rfl, .inr ⟨us.map entP, .inl e9, fun cs hk => ?_⟩⟩
            refine ⟨_, rfl, a2, rfl, .inl ⟨[], .inr (.inl (.inl (gg9 _ _ h2))), ?_⟩⟩
            have hcs := keys_pairs hk
            have lcs : cs.length = us.length := Paired.length hcs
            refine ⟨le (by rw [List.length_append, List.length_map]; show _ + 0 ≤ _; omega), fun pA nA => ?_⟩
            obtain ⟨HA, gA, eA, hqA⟩ := newH nA (o := _)
            rw [hqA]
            have eA' : HA pA = some (.lst (cs.map V.ref)) := by
              rw [eA]
              simp
            have ggA : Same H HA := gg9.trans gA
            have hww : PyData.weightAll [.str x, .str y, .int c, .list (ps.map pairOf)] ≤ 20000 := by
              rw [ed] at hw
              exact hw
            have wx := wAll_mem (xs := [.str x, .str y, .int c, .list (ps.map pairOf)]) (e := .str x) (by simp)
            have wy := wAll_mem (xs := [.str x, .str y, .int c, .list (ps.map pairOf)]) (e := .str y) (by simp)
            have wl := wAll_mem (xs := [.str x, .str y, .int c, .list (ps.map pairOf)]) (e := .list (ps.map pairOf)) (by simp)
            have lx : x.length ≤ 20000 := Nat.le_trans (show (PyData.str x).weight ≤ _ from Nat.le_of_lt_succ (by omega)) hww
            have ly2 : y.length ≤ 20000 := Nat.le_trans (show (PyData.str y).weight ≤ _ from Nat.le_of_lt_succ (by omega)) hww
            have h20 : ∀ u ∈ us, u.1.length ≤ 20000 ∧ u.2.length ≤ 20000 := fun u hu => by
              rcases List.mem_cons.mp ((hus u).mp hu) with rfl | hu
              · exact ⟨lx, ly2⟩
              · have wu := wAll_mem (xs := ps.map pairOf) (e := pairOf u) (List.mem_map.mpr ⟨u, hu, rfl⟩)
                have wl2 : PyData.weightAll (ps.map pairOf) ≤ 20000 := Nat.le_trans (show (PyData.list (ps.map pairOf)).weight ≤ _ from Nat.le_of_lt_succ (by omega)) hww
                exact w_pair (a := .str u.1) (b := .str u.2) (show (pairOf u).weight ≤ 20000 by omega)
            have enames : us.all nameP = (nameP (x, y) && (ps.map pairOf).all placeD) := by
              rw [all_mem hus, places_pairs]
              rfl
            refine ⟨pA, cs, us, rfl, eA', paired_keep gA hcs, by omega, h20, fun HB gB => ⟨_, rfl, ?_⟩⟩
            have ggB : Same H HB := ggA.trans gB
            by_cases hnm : us.all nameP = true
            · refine itF (by rw [hnm]; rfl) ?_
              refine ⟨_, rfl, a0, [], rfl, .inl (.inl (ggB _ _ h0)), (fun _ z => nomatch z), by decide, ⟨_, rfl, ?_⟩⟩
              refine itF (by decide) ?_
              refine ⟨_, rfl, a2, [], rfl, .inl (.inl (ggB _ _ h2)), (fun _ z => nomatch z), by decide, ⟨_, rfl, ?_⟩⟩
              refine itN (by decide) ?_
              have hpl : (ps.map pairOf).all placeD = true := by
                rw [enames] at hnm
                exact (Bool.and_eq_true_iff.mp hnm).2
              have enb := unlike_nodup hpl
              rw [← Bool.and_assoc, ← enames, hnm, Bool.true_and, enb] at re
              obtain ⟨ks, k1, k2, k3⟩ := keys_of (K := K) (hys.keep fun b o eb _ => ggB _ _ eb) hpl
              have lk : ks.length = ps.length := by
                have := congrArg List.length k2
                simpa using this
              -- for rule in rules
              refine ⟨_, rfl, a1, rfl, ⟨_, .inl (.inl (ggB _ _ h1))⟩, ?_⟩
              refine for_list (K := K) (a := a1) (xs := [V.ref p]) (fun i σ H' => ∃ s3 s7 s8 s9 : Option V, σ = [some (.ref t), some (.ref D1), some (.ref D8), s3, some (.ref a0), some (.ref a1), some (.ref a2), s7, s8, s9] ∧ H' = HB ∧ (i = 1 → ruleD d = true))
                ⟨_, _, _, _, rfl, rfl, fun z => nomatch z⟩ (fun i σ H' _ hP => ?_) (fun i z σ H' hx hP => ?_) fun σ H' hP => ?_
              · obtain ⟨_, _, _, _, _, rfl, _⟩ := hP
                exact .inl (.inl (ggB _ _ h1))
              · obtain ⟨s3, s7, s8, s9, rfl, eH, _⟩ := hP
                have eH' := eH.symm
                subst eH'
                obtain ⟨rfl, rfl⟩ : i = 0 ∧ V.ref p = z := by
                  match i, hx with
                  | 0, hx => exact ⟨rfl, Option.some.inj hx⟩
                refine ⟨_, rfl, p, _, 3, .ref pl, rfl, rfl, .inl (.inl (ggB _ _ ep)), atI_nat (j := 3) rfl, pl, ks, rfl, by rw [← k1]; exact .inl (.inl (ggB _ _ el)), k3, by omega, fun L hL hm => ?_⟩
                refine ⟨_, rfl, p, _, 3, .ref pl, rfl, rfl, .inl (.inl (ggB _ _ ep)), atI_nat (j := 3) rfl, pl, _, rfl, .inl (.inl (.inl (ggB _ _ el))), rfl, _, rfl, ?_⟩
                have ct := count hL hm
                rw [k2, List.length_map, List.length_map] at ct
                by_cases hnd : ((ps.map pairOf).map keyD).Nodup
                · have eL := ct.mpr hnd
                  refine itN ?_ ⟨_, _, _, _, rfl, rfl, fun _ => by rw [re]; exact decide_eq_true hnd⟩
                  rw [List.length_map, lb, eL]
                  simp
                · have nL : ¬ L.length = ps.length := fun z => hnd (ct.mp z)
                  refine itY ?_ ?_
                  · rw [List.length_map, lb]
                    simp
                    omega
                  · exact qn (by rw [re]; exact decide_eq_false hnd) HB ggB
              · obtain ⟨s3, s7, s8, s9, rfl, eH, hyes⟩ := hP
                have eH' := eH.symm
                subst eH'
                -- for hand, other in roads
                refine ⟨_, rfl, a2, rfl, ⟨_, .inl (.inl (ggB _ _ h2))⟩, ?_⟩
                refine for_list (K := K) (a := a2) (xs := []) (fun i σ H' => σ = [some (.ref t), some (.ref D1), some (.ref D8), s3, some (.ref a0), some (.ref a1), some (.ref a2), s7, s8, s9] ∧ H' = HB)
                  ⟨rfl, rfl⟩ (fun i σ H' _ hP => ?_) (fun i z σ H' hx hP => ?_) fun σ H' hP => ?_
                · obtain ⟨_, rfl⟩ := hP
                  exact .inl (.inl (ggB _ _ h2))
                · cases hx
                · obtain ⟨rfl, eH⟩ := hP
                  have eH' := eH.symm
                  subst eH'
                  exact ⟨_, rfl, qy (hyes rfl) D8 HB ggB⟩
            · rw [Bool.not_eq_true] at hnm
              refine itT (by rw [hnm]; rfl) ?_
              refine itT rfl ?_
              refine qn ?_ HB ggB
              rw [re, ← Bool.and_assoc, ← enames, hnm, Bool.false_and]
      · refine itY (by rw [Bool.not_eq_true] at hp; rw [hp]; rfl) ?_
        refine qn ?_ H4 gg4
        rw [re, Bool.eq_false_iff]
        intro z
        obtain ⟨_, z⟩ := Bool.and_eq_true_iff.mp z
        obtain ⟨z, _⟩ := Bool.and_eq_true_iff.mp z
        exact hp (List.all_eq_true.mpr fun e he => place_pair (List.all_eq_true.mp z e he))
end
end K65
set_option Elab.async false
set_option linter.all false
set_option maxRecDepth 100000
set_option maxHeartbeats 4000000
namespace K65
open PySem L2 Ld GxR Gx Sg
/-! the program's side: worlds of one rule, rules -/
abbrev s_is_world : Stmt := topS 16
abbrev N_is_world : List Str := ["thing"]
theorem sc_is_world : FnScope N_is_world ["thing"] (defScope s_is_world) := ⟨rfl, rfl, rfl, by decide +kernel, rfl, by decide +kernel, by decide +kernel⟩
def spOneWorld : Sp := fun vs H Q _ => ∃ (t a0 a1 a2 : Addr) (v : V) (d : PyData), vs = [.ref t] ∧ H t = some (.tup [.ref a0, .ref a1, .ref a2]) ∧ H a0 = some (.lst []) ∧ H a1 = some (.lst [v]) ∧ H a2 = some (.lst []) ∧ Da H v d ∧ d.weight ≤ 20000 ∧ ∀ H', Same H H' → Q (.bl (ruleD d)) H'
def spRuleP : Sp := fun vs H Q _ => ∃ (v : V) (d : PyData), vs = [v] ∧ Da H v d ∧ d.weight ≤ 20000 ∧ ∀ H', Same H H' → Q (.bl (ruleD d)) H'
abbrev s_is_rule : Stmt := topS 15
abbrev N_is_rule : List Str := ["thing"]
theorem sc_is_rule : FnScope N_is_rule ["thing"] (defScope s_is_rule) := ⟨rfl, rfl, rfl, by decide +kernel, rfl, by decide +kernel, by decide +kernel⟩
section
variable {P : Program} {w : World} {K : PySem.W.Frag} {mg : Str → Option Value} {base : Heap}
theorem ok_is_world {f fP : Addr} {fd fdP : FuncData} (F : Fun K "is_world" "is_world" s_is_world f fd) (G_places_in : FnOk P w K mg base CX0 3 fP fdP ["thing"] spOneRule) (g_places_in : mg "places_in" = some (.ref fP)) (k_places_in : PySem.W.keepIn K (.ref fP) = true) (b_places_in : Binds K fdP ["thing"] []) : FnOk P w K mg base CX0 4 f fd ["thing"] spOneWorld := by
  refine F.ok sc_is_world (fun vs H Q E h => ?_) (fun cdv A outer s H vs Q E hr h => ?_)
  · obtain ⟨t, a0, a1, a2, v, d, rfl, _⟩ := h
    rfl
  · obtain ⟨t, a0, a1, a2, v, d, rfl, et, h0, h1, h2, hd, hw, q⟩ := h
    refine ⟨_, (pss_one (ps_ret (pe_cmpR op_notN (pe_call G_places_in (hr.mono (by decide)) (by rfl) g_places_in k_places_in b_places_in .nil pass0 (pa_cons (pv 0) pa_nil)) pe_non (nomark _)))), ?_⟩
    refine ⟨_, rfl, t, a0, a1, a2, v, d, rfl, et, h0, h1, h2, hd, hw, fun e H' g => ?_, fun e D H' g => ?_⟩
    · have q := q H' g
      rw [e] at q
      exact ⟨rfl, q⟩
    · have q := q H' g
      rw [e] at q
      exact ⟨rfl, by simpa using q⟩
theorem ok_is_rule {f fW : Addr} {fd fdW : FuncData} (F : Fun K "is_rule" "is_rule" s_is_rule f fd) (G_is_world : FnOk P w K mg base CX0 4 fW fdW ["thing"] spOneWorld) (g_is_world : mg "is_world" = some (.ref fW)) (k_is_world : PySem.W.keepIn K (.ref fW) = true) (b_is_world : Binds K fdW ["thing"] []) : FnOk P w K mg base CX0 8 f fd ["thing"] spRuleP := by
  refine F.ok sc_is_rule (fun vs H Q E h => ?_) (fun cdv A outer s H vs Q E hr h => ?_)
  · obtain ⟨v, d, rfl, _⟩ := h
    rfl
  · obtain ⟨v, d, rfl, hd, hw, q⟩ := h
    refine ⟨_, (pss_one (ps_ret (pe_call G_is_world (hr.mono (by decide)) (by rfl) g_is_world k_is_world b_is_world .nil pass0 (pa_cons (pe_tup (pa_cons (pe_lst pa_nil) (pa_cons (pe_lst (pa_cons (pv 0) pa_nil)) (pa_cons (pe_lst pa_nil) pa_nil)))) pa_nil)))), ?_⟩
    have small : (0 : Nat) ≤ sizeLine := Nat.zero_le _
    refine ⟨small, fun a0 n0 => ?_⟩
    obtain ⟨H1, g1, e1, hq1⟩ := newH n0 (o := _)
    rw [hq1]
    refine ⟨_, rfl, show 1 ≤ sizeLine by decide, fun a1 n1 => ?_⟩
    obtain ⟨H2, g2, e2, hq2⟩ := newH n1 (o := _)
    rw [hq2]
    refine ⟨small, fun a2 n2 => ?_⟩
    obtain ⟨H3, g3, e3, hq3⟩ := newH n2 (o := _)
    rw [hq3]
    refine ⟨show 3 ≤ sizeLine by decide, fun t nt => ?_⟩
    obtain ⟨H4, g4, e4, hq4⟩ := newH nt (o := _)
    rw [hq4]
    have gg : Same H H4 := g1.trans (g2.trans (g3.trans g4))
    exact ⟨t, a0, a1, a2, v, d, rfl, e4, g4 _ _ (g3 _ _ (g2 _ _ e1)), g4 _ _ (g3 _ _ e2), g4 _ _ e3, Same.da gg hd, hw, fun H' g => q H' (gg.trans g)⟩
end
end K65
set_option Elab.async false
set_option linter.all false
set_option maxRecDepth 100000
set_option maxHeartbeats 4000000
namespace K65
open PySem L2 Ld GxR Gx Sg
/-! the program's side: names, whole numbers, letters -/
abbrev s_is_whole : Stmt := topS 9
abbrev N_is_whole : List Str := ["thing"]
theorem sc_is_whole : FnScope N_is_whole ["thing"] (defScope s_is_whole) := ⟨rfl, rfl, rfl, by decide +kernel, rfl, by decide +kernel, by decide +kernel⟩
abbrev s_is_name : Stmt := topS 10
abbrev N_is_name : List Str := ["thing"]
theorem sc_is_name : FnScope N_is_name ["thing"] (defScope s_is_name) := ⟨rfl, rfl, rfl, by decide +kernel, rfl, by decide +kernel, by decide +kernel⟩
def spNameE : Sp := fun vs H Q _ => ∃ (v : V) (d : PyData), vs = [v] ∧ Da H v d ∧ d.weight ≤ 20000 ∧ Q (.bl (nameD d)) H
abbrev s_is_letter : Stmt := topS 21
abbrev N_is_letter : List Str := ["thing"]
theorem sc_is_letter : FnScope N_is_letter ["thing"] (defScope s_is_letter) := ⟨rfl, rfl, rfl, by decide +kernel, rfl, by decide +kernel, by decide +kernel⟩
def letterD : PyData → Bool
  | .tuple [.str t, n, .int h] => nameD n && (decide (t = "holds") && decide (0 ≤ h))
  | .tuple [.str t, n] => nameD n && (decide (t = "open") || decide (t = "heard"))
  | _ => false
def spLetter : Sp := fun vs H Q _ => ∃ (v : V) (d : PyData), vs = [v] ∧ Da H v d ∧ d.weight ≤ 20000 ∧ ∀ H', Same H H' → Q (.bl (letterD d)) H'
section
variable {P : Program} {w : World} {K : PySem.W.Frag} {mg : Str → Option Value} {base : Heap}
theorem ok_is_whole {f : Addr} {fd : FuncData} (F : Fun K "is_whole" "is_whole" s_is_whole f fd) (z_type : mg "type" = none) (z_int : mg "int" = none) : FnOk P w K mg base CX0 1 f fd ["thing"] spWhole := by
  refine F.ok sc_is_whole (fun vs H Q E h => ?_) (fun cdv A outer s H vs Q E hr h => ?_)
  · obtain ⟨v, d, rfl, _⟩ := h
    rfl
  · obtain ⟨v, d, rfl, hd, q⟩ := h
    refine ⟨_, (pss_one (ps_ret (pe_cmpR op_eqTy (pe_callTy call_type1 (by rfl) z_type (by decide +kernel) (pa_cons (pv 0) pa_nil)) (pe_bltn (v := .ty "int") (by rfl) z_int (by decide +kernel) rfl) (nomark _)))), ?_⟩
    obtain ⟨ht, hk⟩ := tyb_of (K := K) hd
    refine ⟨_, rfl, _, tyD d, rfl, ht, tyD d, "int", rfl, rfl, hk, .int, ?_⟩
    have e : (decide (tyD d = "int")) = wholeD d := by cases d <;> rfl
    rw [e]
    exact q
theorem ok_is_name {f fS : Addr} {fd fdS : FuncData} (F : Fun K "is_name" "is_name" s_is_name f fd) (G_are_small_letters : FnOk P w K mg base CX0 1 fS fdS ["text"] spSmall) (g_are_small_letters : mg "are_small_letters" = some (.ref fS)) (k_are_small_letters : PySem.W.keepIn K (.ref fS) = true) (b_are_small_letters : Binds K fdS ["text"] [])
    (z_type : mg "type" = none) (z_str : mg "str" = none) (z_len : mg "len" = none) : FnOk P w K mg base CX0 2 f fd ["thing"] spNameE := by
  refine F.ok sc_is_name (fun vs H Q E h => ?_) (fun cdv A outer s H vs Q E hr h => ?_)
  · obtain ⟨v, d, rfl, _⟩ := h
    rfl
  · obtain ⟨v, d, rfl, hd, hw, q⟩ := h
    refine ⟨_, (pss_one (ps_ret (pe_and (pe_cmpR op_eqTy (pe_callTy call_type1 (by rfl) z_type (by decide +kernel) (pa_cons (pv 0) pa_nil)) (pe_bltn (v := .ty "str") (by rfl) z_str (by decide +kernel) rfl) (nomark _)) (pe_and (pe_chain op_le op_le pe_int (pe_callB (call_len_str) (by rfl) z_len (by decide +kernel) (pa_cons (pv 0) pa_nil)) pe_int) (pe_one (pe_call G_are_small_letters (hr.mono (by decide)) (by rfl) g_are_small_letters k_are_small_letters b_are_small_letters .nil pass0 (pa_cons (pv 0) pa_nil))))))), ?_⟩
    obtain ⟨ht, hk⟩ := tyb_of (K := K) hd
    refine ⟨_, rfl, _, tyD d, rfl, ht, tyD d, "str", rfl, rfl, hk, .str, _, rfl, ?_⟩
    by_cases e : tyD d = "str"
    · obtain ⟨x, rfl⟩ := str_of_ty e
      cases hd
      have hx : x.length ≤ 20000 := hw
      refine itY (decide_eq_true e) ?_
      refine ⟨_, rfl, _, rfl, small20 hx, _, _, rfl, rfl, _, rfl, ?_⟩
      have no : ¬ (1 ≤ x.length ∧ x.length ≤ 8) → nameD (.str x) = false := fun z => by
        show (decide _ && _) = _
        rw [decide_eq_false z, Bool.false_and]
      by_cases h1 : (1 : Int) ≤ (x.length : Int)
      · refine itY (by simpa using h1) ?_
        refine ⟨_, _, rfl, rfl, _, rfl, ?_⟩
        by_cases h2 : (x.length : Int) ≤ 8
        · refine itY (by simp [h2]) ?_
          refine ⟨_, rfl, x, rfl, ?_⟩
          have e1 : nameD (.str x) = smallS x := by
            show (decide _ && _) = (decide _ && _)
            rw [decide_eq_true (show 1 ≤ x.length ∧ x.length ≤ 8 from ⟨by omega, by omega⟩), decide_eq_true (show 0 < x.length by omega)]
          rw [← e1]
          exact q
        · refine itN (by simp [h2]) ?_
          rw [no (by omega)] at q
          simpa [h2] using q
      · refine itN (by simpa using h1) ?_
        rw [no (by omega)] at q
        refine ⟨_, rfl, itN (by simpa using h1) ?_⟩
        simpa [h1] using q
    · refine itN (by simpa using e) ?_
      have e1 : nameD d = false := by
        cases d with
        | str x => exact absurd rfl e
        | _ => rfl
      rw [e1] at q
      simpa [e] using q
end
end K65
set_option Elab.async false
set_option linter.all false
set_option maxRecDepth 100000
set_option maxHeartbeats 4000000
namespace K65
open PySem L2 Ld GxR Gx Sg
/-! the program's side: letters -/
theorem inV_strs (t : Str) : ∀ ws : List Str, inV (.str t) (ws.map V.str) = decide (t ∈ ws)
  | [] => by
    rw [decide_eq_false (by simp)]
    rfl
  | w :: ws => by
    have e : eqV (.str w) (.str t) = decide (w = t) := by
      first
        | rfl
        | simp [eqV]
    have ih := inV_strs t ws
    unfold inV at ih ⊢
    rw [List.map_cons, List.any_cons, ih, e, Bool.eq_iff_iff, Bool.or_eq_true, decide_eq_true_eq, decide_eq_true_eq, decide_eq_true_eq, List.mem_cons]
    constructor
    · rintro (z | z)
      · exact .inl z.symm
      · exact .inr z
    · rintro (z | z)
      · exact .inl z.symm
      · exact .inr z
theorem two_more {H : Hp} : ∀ {xs : List V} {ds : List PyData}, DaAll H xs ds → 2 ≤ xs.length → ∃ v0 v1 vr d0 d1 dr, xs = v0 :: v1 :: vr ∧ ds = d0 :: d1 :: dr ∧ Da H v0 d0 ∧ Da H v1 d1 ∧ DaAll H vr dr
  | _, _, .cons h0 (.cons h1 t), _ => ⟨_, _, _, _, _, _, rfl, rfl, h0, h1, t⟩
  | _, _, .nil, h => absurd h (by decide)
  | _, _, .cons _ .nil, h => absurd h (by simp)
theorem letter_no2 {ds : List PyData} (h : ¬ 2 ≤ ds.length) : letterD (.tuple ds) = false := by
  unfold letterD
  split
  · rename_i e
    cases e
    exact absurd (by simp) h
  · rename_i e
    cases e
    exact absurd (by simp) h
  · rfl
theorem letter_no4 {d0 d1 d2 d3 : PyData} {r : List PyData} : letterD (.tuple (d0 :: d1 :: d2 :: d3 :: r)) = false := by
  unfold letterD
  split
  · rename_i e
    cases e
  · rename_i e
    cases e
  · rfl
theorem letter_nostr {d0 d1 : PyData} {r : List PyData} (h : ¬ tyD d0 = "str") : letterD (.tuple (d0 :: d1 :: r)) = false := by
  unfold letterD
  split
  · rename_i e
    cases e
    exact absurd rfl h
  · rename_i e
    cases e
    exact absurd rfl h
  · rfl
theorem letter_noname {d0 d1 : PyData} {r : List PyData} (h : nameD d1 = false) : letterD (.tuple (d0 :: d1 :: r)) = false := by
  unfold letterD
  split
  · rename_i e
    cases e
    rw [h, Bool.false_and]
  · rename_i e
    cases e
    rw [h, Bool.false_and]
  · rfl
theorem letter_two {t : Str} {d1 : PyData} (h : nameD d1 = true) : letterD (.tuple [.str t, d1]) = (decide (t = "open") || decide (t = "heard")) := by
  show (nameD d1 && _) = _
  rw [h, Bool.true_and]
def nonneg : PyData → Bool
  | .int i => decide (0 ≤ i)
  | _ => false
theorem letter_three {t : Str} {d1 d2 : PyData} (h : nameD d1 = true) : letterD (.tuple [.str t, d1, d2]) = (decide (t = "holds") && nonneg d2) := by
  cases d2 with
  | int i =>
    show (nameD d1 && _) = _
    rw [h, Bool.true_and]
    rfl
  | _ =>
    show false = (_ && false)
    rw [Bool.and_false]
theorem whole_of {d : PyData} (h : wholeD d = true) : ∃ i, d = .int i := by
  cases d with
  | int i => exact ⟨i, rfl⟩
  | _ => exact absurd h (by simp [wholeD])
theorem match_nowhole {d : PyData} (h : wholeD d = false) : nonneg d = false := by
  cases d with
  | int i => cases h
  | _ => rfl
section
variable {P : Program} {w : World} {K : PySem.W.Frag} {mg : Str → Option Value} {base : Heap}
theorem ok_is_letter {f fN fW : Addr} {fd fdN fdW : FuncData} (F : Fun K "is_letter" "is_letter" s_is_letter f fd) (G_is_name : FnOk P w K mg base CX0 2 fN fdN ["thing"] spNameE) (g_is_name : mg "is_name" = some (.ref fN)) (k_is_name : PySem.W.keepIn K (.ref fN) = true) (b_is_name : Binds K fdN ["thing"] [])
    (G_is_whole : FnOk P w K mg base CX0 1 fW fdW ["thing"] spWhole) (g_is_whole : mg "is_whole" = some (.ref fW)) (k_is_whole : PySem.W.keepIn K (.ref fW) = true) (b_is_whole : Binds K fdW ["thing"] []) (z_type : mg "type" = none) (z_tuple : mg "tuple" = none) (z_str : mg "str" = none) (z_len : mg "len" = none) : FnOk P w K mg base CX0 3 f fd ["thing"] spLetter := by
  refine F.ok sc_is_letter (fun vs H Q E h => ?_) (fun cdv A outer s H vs Q E hr h => ?_)
  · obtain ⟨v, d, rfl, _⟩ := h
    rfl
  · obtain ⟨v, d, rfl, hd, hw, q⟩ := h
    have hu1 := hu_of hr
    have hu64 := hr.units
    refine ⟨_, (pss_cons (ps_if (PW.pt (pw_or (pt_cmpR (op_neTy hu1) (pe_callTy call_type1 (by rfl) z_type (by decide +kernel) (pa_cons (pv 0) pa_nil)) (pe_bltn (v := .ty "tuple") (by rfl) z_tuple (by decide +kernel) rfl) (nomark _)) (pw_or (pt_cmpR op_lt (pe_callB (call_len_seq) (by rfl) z_len (by decide +kernel) (pa_cons (pv 0) pa_nil)) pe_int (nomark _))
        (pw_or (pt_cmpR (op_neTy hu1) (pe_callTy call_type1 (by rfl) z_type (by decide +kernel) (pa_cons (pe_ix ix_tup (pv 0) pe_int (fun _ _ => rfl)) pa_nil)) (pe_bltn (v := .ty "str") (by rfl) z_str (by decide +kernel) rfl) (nomark _)) (pw_or1 (pt_not (pt_val (pe_call G_is_name (hr.mono (by decide)) (by rfl) g_is_name k_is_name b_is_name .nil pass0 (pa_cons (pe_ix ix_tup (pv 0) pe_int (fun _ _ => rfl)) pa_nil)))))))))
      (pss_one (ps_ret pe_bl)) pss_nil)
  (pss_cons (ps_if (pt_cmpR op_eq (pe_ix ix_tup (pv 0) pe_int (fun _ _ => rfl)) pe_str (nomark _)) (pss_one (ps_ret (pe_and (pe_cmpR op_eq (pe_callB (call_len_seq) (by rfl) z_len (by decide +kernel) (pa_cons (pv 0) pa_nil)) pe_int (nomark _)) (pe_and (pe_call G_is_whole (hr.mono (by decide)) (by rfl) g_is_whole k_is_whole b_is_whole .nil pass0 (pa_cons (pe_ix ix_tup (pv 0) pe_int (fun _ _ => rfl)) pa_nil)) (pe_one (pe_cmpR op_ge (pe_ix ix_tup (pv 0) pe_int (fun _ _ => rfl)) pe_int (nomark _))))))) pss_nil)
  (pss_one (ps_ret (pe_and (pe_cmpR op_eq (pe_callB (call_len_seq) (by rfl) z_len (by decide +kernel) (pa_cons (pv 0) pa_nil)) pe_int (nomark _)) (pe_one (pe_cmpR op_in_seq (pe_ix ix_tup (pv 0) pe_int (fun _ _ => rfl)) (pe_tup (pa_cons pe_str (pa_cons pe_str pa_nil))) rfl))))))), ?_⟩
    obtain ⟨ht, hk⟩ := tyb_of (K := K) hd
    refine ⟨_, rfl, _, tyD d, rfl, ht, tyD d, "tuple", rfl, rfl, hk, .tuple, _, rfl, ?_⟩
    by_cases e : tyD d = "tuple"
    · obtain ⟨ds, rfl⟩ := tuple_of_ty e
      refine itF (by rw [decide_eq_true e]; rfl) ?_
      cases hd with
      | @tup r xs _ er hall =>
      have ln : xs.length = ds.length := hall.len
      refine ⟨_, rfl, r, xs, rfl, .inr (.inl (.inl er)), _, _, rfl, rfl, _, rfl, ?_⟩
      by_cases h2 : 2 ≤ xs.length
      · refine itF (by simp; omega) ?_
        obtain ⟨v0, v1, vr, d0, d1, dr, rfl, rfl, h0, h1, hrest⟩ := two_more hall h2
        obtain ⟨t0, k0⟩ := tyb_of (K := K) h0
        refine ⟨_, rfl, r, _, 0, v0, rfl, rfl, .inl (.inl er), atI_nat (j := 0) rfl, _, tyD d0, rfl, t0, tyD d0, "str", rfl, rfl, k0, .str, _, rfl, ?_⟩
        by_cases c0 : tyD d0 = "str"
        · refine itF (by rw [decide_eq_true c0]; rfl) ?_
          obtain ⟨t, rfl⟩ := str_of_ty c0
          cases h0
          have w1 : d1.weight ≤ 20000 := by
            have h1 := wAll_mem (xs := .str t :: d1 :: dr) (e := d1) (by simp)
            have hh : PyData.weightAll (.str t :: d1 :: dr) ≤ 20000 := hw
            omega
          refine ⟨_, rfl, r, _, 1, v1, rfl, rfl, .inl (.inl er), atI_nat (j := 1) rfl, v1, d1, rfl, h1, w1, ⟨_, rfl, ?_⟩⟩
          by_cases c1 : nameD d1 = true
          · refine itN (by rw [c1]; decide) ?_
            refine ⟨_, rfl, r, _, 0, .str t, rfl, rfl, .inl (.inl er), atI_nat (j := 0) rfl, rfl, _, rfl, ?_⟩
            by_cases ch : t = "holds"
            · refine itY (by rw [ch]; decide) ?_
              refine ⟨_, rfl, r, _, rfl, .inr (.inl (.inl er)), rfl, _, rfl, ?_⟩
              cases hrest with
              | nil =>
                refine itN (by simp) ?_
                rw [letter_two c1, ch] at q
                exact q H (Same.refl H)
              | cons h2' hr2 =>
                cases hr2 with
                | nil =>
                  rename_i v2 d2
                  refine itY (by simp) ?_
                  rw [letter_three c1, ch] at q
                  refine ⟨_, rfl, r, _, 2, v2, rfl, rfl, .inl (.inl er), atI_nat (j := 2) rfl, v2, d2, rfl, h2', _, rfl, ?_⟩
                  by_cases c2 : wholeD d2 = true
                  · refine itY c2 ?_
                    obtain ⟨i, rfl⟩ := whole_of c2
                    cases h2'
                    refine ⟨_, rfl, r, _, 2, .int i, rfl, rfl, .inl (.inl er), atI_nat (j := 2) rfl, i, 0, rfl, rfl, ?_⟩
                    exact q H (Same.refl H)
                  · refine itN c2 ?_
                    rw [Bool.not_eq_true] at c2
                    rw [match_nowhole c2] at q
                    exact q H (Same.refl H)
                | cons _ _ =>
                  refine itN (by simp; omega) ?_
                  rw [letter_no4] at q
                  exact q H (Same.refl H)
            · refine itN (by simpa using ch) ?_
              refine ⟨_, rfl, r, _, rfl, .inr (.inl (.inl er)), rfl, _, rfl, ?_⟩
              cases hrest with
              | nil =>
                refine itY (by simp) ?_
                rw [letter_two c1] at q
                refine ⟨_, rfl, r, _, 0, .str t, rfl, rfl, .inl (.inl er), atI_nat (j := 0) rfl, show 2 ≤ sizeLine by decide, fun p n => ?_⟩
                obtain ⟨H1, g1, e1, hq1⟩ := newH n (o := _)
                rw [hq1]
                refine ⟨p, _, rfl, .inr (.inl (.inl e1)), rfl, rfl, ?_⟩
                have ein : inV (.str t) [.str "open", .str "heard"] = (decide (t = "open") || decide (t = "heard")) := by
                  have := inV_strs t ["open", "heard"]
                  rw [show ([V.str "open", .str "heard"] : List V) = (["open", "heard"] : List Str).map V.str from rfl, this, Bool.eq_iff_iff, Bool.or_eq_true, decide_eq_true_eq, decide_eq_true_eq, decide_eq_true_eq]
                  simp
                have q := q H1 g1
                rw [← ein] at q
                exact q
              | cons h2' hr2 =>
                rename_i v2 vs2 d2 ds2
                refine itN (by simp; omega) ?_
                have no : letterD (.tuple (.str t :: d1 :: d2 :: ds2)) = false := by
                  cases hr2 with
                  | nil => rw [letter_three c1, decide_eq_false ch, Bool.false_and]
                  | cons _ _ => exact letter_no4
                rw [no] at q
                exact q H (Same.refl H)
          · refine itY (by rw [Bool.not_eq_true] at c1; rw [c1]; rfl) ?_
            rw [Bool.not_eq_true] at c1
            rw [letter_noname c1] at q
            exact q H (Same.refl H)
        · refine itT (by rw [decide_eq_false c0]; rfl) ?_
          refine itT rfl ?_
          rw [letter_nostr c0] at q
          exact q H (Same.refl H)
      · refine itT (by simp; omega) ?_
        refine itT rfl ?_
        rw [letter_no2 (by rw [← ln]; exact h2)] at q
        exact q H (Same.refl H)
    · refine itT (by rw [decide_eq_false e]; rfl) ?_
      refine itT rfl ?_
      have eq : letterD d = false := by
        cases d with
        | tuple x => exact absurd rfl e
        | _ => rfl
      rw [eq] at q
      exact q H (Same.refl H)
end
end K65
set_option Elab.async false
set_option linter.all false
set_option maxRecDepth 100000
set_option maxHeartbeats 4000000
namespace K65
open PySem L2 Ld GxR Gx Sg
/-! the law's side: letters -/
def spLLetter : Sp := fun vs H Q _ => ∃ (v : V) (d : PyData), vs = [v] ∧ Da H v d ∧ d.weight ≤ 20000 ∧ lf big d = true ∧ ∀ H', Same H H' → Q (.bl (letterD d)) H'
section
variable {P : Program} {w : World} {K : PySem.W.Frag} {mg : Str → Option Value} {base : Heap}
end
end K65
set_option Elab.async false
set_option linter.all false
set_option maxRecDepth 100000
set_option maxHeartbeats 4000000
namespace K65
open PySem L2 Ld GxR Gx Sg
/-! the law's side: what a hand may do -/
def just1 (f : PyData → Bool) : List PyData → Bool
  | [a] => f a
  | _ => false
def just2 (f g : PyData → Bool) : List PyData → Bool
  | [a, b] => f a && g b
  | _ => false
def just3 : List PyData → Bool
  | [a, b, c] => ruleD (.tuple [.str "an", a, b, c])
  | _ => false
def fourW : List Str := ["vouch", "withdraw", "join", "part"]
def whatR (t : Str) (r : List PyData) : Bool :=
  if t ∈ fourW then just1 nameD r
  else if t = "drop" then just1 nonneg r
  else if t = "hear" then just2 nameD letterD r
  else decide (t = "lean") && just3 r
def whatD : PyData → Bool
  | .tuple (.str t :: r) => whatR t r
  | _ => false
theorem what_nil (t : Str) : whatR t [] = false := by
  unfold whatR just1 just2 just3
  split
  · rfl
  · split
    · rfl
    · split
      · rfl
      · rw [Bool.and_false]
theorem what_no2 {ds : List PyData} (h : ¬ 2 ≤ ds.length) : whatD (.tuple ds) = false := by
  unfold whatD
  split
  · rename_i t r e
    cases e
    have : r = [] := by
      cases r with
      | nil => rfl
      | cons _ _ => exact absurd (by simp) h
    rw [this]
    exact what_nil t
  · rfl
theorem what_nostr {d0 : PyData} {r : List PyData} (h : ¬ tyD d0 = "str") : whatD (.tuple (d0 :: r)) = false := by
  unfold whatD
  split
  · rename_i e
    cases e
    exact absurd rfl h
  · rfl
theorem just1_no {f : PyData → Bool} {r : List PyData} (h : ¬ r.length = 1) : just1 f r = false := by
  unfold just1
  split
  · exact absurd rfl h
  · rfl
theorem just2_no {f g : PyData → Bool} {r : List PyData} (h : ¬ r.length = 2) : just2 f g r = false := by
  unfold just2
  split
  · exact absurd rfl h
  · rfl
theorem just3_no {r : List PyData} (h : ¬ r.length = 3) : just3 r = false := by
  unfold just3
  split
  · exact absurd rfl h
  · rfl
theorem one_of {H : Hp} {xs : List V} {ds : List PyData} (h : DaAll H xs ds) (e : xs.length = 1) : ∃ v0 d0, xs = [v0] ∧ ds = [d0] ∧ Da H v0 d0 := by
  match xs, ds, h, e with
  | _, _, .cons h0 .nil, _ => exact ⟨_, _, rfl, rfl, h0⟩
theorem three_of {H : Hp} {xs : List V} {ds : List PyData} (h : DaAll H xs ds) (e : xs.length = 3) : ∃ v0 v1 v2 d0 d1 d2, xs = [v0, v1, v2] ∧ ds = [d0, d1, d2] ∧ Da H v0 d0 ∧ Da H v1 d1 ∧ Da H v2 d2 := by
  match xs, ds, h, e with
  | _, _, .cons h0 (.cons h1 (.cons h2 .nil)), _ => exact ⟨_, _, _, _, _, _, rfl, rfl, h0, h1, h2⟩
def spLWhat : Sp := fun vs H Q _ => ∃ (v : V) (d : PyData), vs = [v] ∧ Da H v d ∧ d.weight + 10 ≤ 20000 ∧ lf big d = true ∧ ∀ H', Same H H' → Q (.bl (whatD d)) H'
section
variable {P : Program} {w : World} {K : PySem.W.Frag} {mg : Str → Option Value} {base : Heap}
end
end K65
set_option Elab.async false
set_option linter.all false
set_option maxRecDepth 100000
set_option maxHeartbeats 4000000
namespace K65
open PySem L2 Ld GxR Gx Sg
/-! the law's side: names that are drawn -/
abbrev s__law_name : Stmt := topS 48
abbrev N__law_name : List Str := ["pot", "some", "k"]
theorem sc__law_name : FnScope N__law_name ["pot"] (defScope s__law_name) := ⟨rfl, rfl, rfl, by decide +kernel, rfl, by decide +kernel, by decide +kernel⟩
def Short (x : Str) : Prop := x.length ≤ 8 ∧ TxOk x
def spNameG : Sp := fun vs H Q _ => ∃ (a : Addr) (x b c : Int), vs = [.ref a] ∧ Pot H a x b c ∧ (0 ≤ b ∧ b < 2 ^ 200) ∧ (0 ≤ c ∧ c < 2 ^ 58) ∧
  ∀ (y : Str) (H' : Hp) (x' c' : Int), Short y → nameD (.str y) = true → Pot H' a x' b c' → c ≤ c' → c' ≤ c + 20 → Ka a H H' → Q (.str y) H'
def letters26 : List Nat := ("abcdefghijklmnopqrstuvwxyz" : Str).cps.toList
theorem letters26_lt : ∀ c ∈ letters26, c < 128 := by
  have q : (letters26.all fun c => decide (c < 128)) = true := by decide +kernel
  intro c hc
  simpa using List.all_eq_true.mp q c hc
def someNames : List Str := ["a", "wet", "abcdefgh", "holds", "open", "heard", "lean", "drop", "hear", "part", "vouch", "join"]
theorem some_short : ∀ y ∈ someNames, Short y := by
  have q : (someNames.all fun y => decide (y.length ≤ 8) && y.cps.toList.all fun c => decide (c < 128)) = true := by decide +kernel
  intro y hy
  have := List.all_eq_true.mp q y hy
  rw [Bool.and_eq_true, decide_eq_true_eq, List.all_eq_true] at this
  exact ⟨this.1, fun c hc => by simpa using this.2 c hc⟩
theorem some_nm : ∀ y ∈ someNames, nameD (.str y) = true := by
  have q : (someNames.all fun y => nameD (.str y)) = true := by decide +kernel
  exact fun y hy => List.all_eq_true.mp q y hy
theorem letters26_sg : ∀ c ∈ letters26, signB c = true := by
  have q : (letters26.all signB) = true := by decide +kernel
  exact fun c hc => List.all_eq_true.mp q c hc
theorem join_nm {ys : List Str} (h1 : 1 ≤ ys.length) (h8 : (Txt.join "" ys).length ≤ 8) (h : ∀ y ∈ ys, y.length = 1 ∧ TxOk y) (hs : ∀ y ∈ ys, ∀ c ∈ y.cps.toList, signB c = true) : nameD (.str (Txt.join "" ys)) = true := by
  have e : nameD (.str (Txt.join "" ys)) = (decide (1 ≤ (Txt.join "" ys).length ∧ (Txt.join "" ys).length ≤ 8) && (Txt.join "" ys).cps.toList.all signB) := rfl
  rw [e, Bool.and_eq_true, decide_eq_true_eq]
  have mj : ∀ c, c ∈ (Txt.join "" ys).cps.toList ↔ ∃ t ∈ ys, c ∈ t.cps.toList := fun c => by
    rw [tjoin, PyProof.Rows.mem_join]
    constructor
    · rintro (z | ⟨_, z⟩)
      · exact z
      · exact absurd z (by simp [show ("" : Str).cps.toList = [] by decide])
    · exact .inl
  refine ⟨⟨?_, h8⟩, List.all_eq_true.mpr fun c hc => ?_⟩
  · match ys, h1, h with
    | y :: r, _, h =>
      have hy := (h y List.mem_cons_self).1
      have hl : 0 < y.cps.toList.length := by
        rw [Array.length_toList]
        show 0 < y.cps.size
        have hy : y.cps.size = 1 := hy
        omega
      obtain ⟨c, hc⟩ := List.exists_mem_of_length_pos hl
      have hm := (mj c).mpr ⟨y, List.mem_cons_self, hc⟩
      have := List.length_pos_of_mem hm
      rw [Array.length_toList] at this
      exact this
  · obtain ⟨t, ht, hc⟩ := (mj c).mp hc
    exact hs t ht c hc
theorem join_short {ys : List Str} (h8 : ys.length ≤ 8) (h : ∀ y ∈ ys, y.length = 1 ∧ TxOk y) : Short (Txt.join "" ys) := by
  have hs : (ys.map (·.length)).sum = ys.length := by
    clear h8
    induction ys with
    | nil => rfl
    | cons y r ih =>
      have h1 := (h y List.mem_cons_self).1
      have h2 := ih fun u hu => h u (List.mem_cons_of_mem _ hu)
      rw [List.map_cons, List.sum_cons, List.length_cons]
      omega
  rw [tjoin]
  refine ⟨?_, fun c hc => ?_⟩
  · have := StrLaws.join_length_le "" ys
    rw [hs, show ("" : Str).length = 0 from rfl] at this
    omega
  · rcases (PyProof.Rows.mem_join "" c ys).mp hc with ⟨t, ht, hc⟩ | ⟨_, hc⟩
    · exact (h t ht).2 c hc
    · have e : ("" : Str).cps.toList = [] := by decide
      rw [e] at hc
      cases hc
section
variable {P : Program} {w : World} {K : PySem.W.Frag} {mg : Str → Option Value} {base : Heap}
theorem ok__law_name {f fN : Addr} {fd fdN : FuncData} (F : Fun K "_law_name" "_law_name" s__law_name f fd) (G__law_dip : FnOk P w K mg base CX0 1 fN fdN ["pot", "many"] spDip) (g__law_dip : mg "_law_dip" = some (.ref fN)) (k__law_dip : PySem.W.keepIn K (.ref fN) = true)
    (b__law_dip : Binds K fdN ["pot", "many"] []) (z_range : mg "range" = none) : FnOk P w K mg base CX0 2 f fd ["pot"] spNameG := by
  refine F.ok sc__law_name (fun vs H Q E h => ?_) (fun cdv A outer s H vs Q E hr h => ?_)
  · obtain ⟨a, x, b, c, rfl, _⟩ := h
    rfl
  · obtain ⟨a, x, b, c, rfl, hp, hb, ⟨hc0, hc1⟩, q⟩ := h
    refine ⟨_, (pss_cons (ps_set (i := 1) sc__law_name.nd rfl (Or.inl rfl) (pe_lst (pa_cons pe_str (pa_cons pe_str (pa_cons pe_str (pa_cons pe_str (pa_cons pe_str (pa_cons pe_str (pa_cons pe_str (pa_cons pe_str (pa_cons pe_str (pa_cons pe_str (pa_cons pe_str (pa_cons pe_str pa_nil))))))))))))))
  (pss_cons (ps_if (pt_cmpR op_gt (pe_call G__law_dip (hr.mono (by decide)) (by rfl) g__law_dip k__law_dip b__law_dip .nil pass0 (pa_cons (pv 0) (pa_cons pe_int pa_nil))) pe_int (nomark _)) (pss_one (ps_ret (pe_ix ix_list (pv 1) (pe_call G__law_dip (hr.mono (by decide)) (by rfl) g__law_dip k__law_dip b__law_dip .nil pass0 (pa_cons (pv 0) (pa_cons pe_int pa_nil))) (fun _ _ => rfl)))) pss_nil)
  (pss_one (ps_ret (pe_join pe_str (pe_lc (own := [("k", 2)]) (g := gName 2) rfl sc__law_name.nd (pi_range1 (by rfl) z_range (pa_cons (pe_op op_add pe_int (pe_call G__law_dip (hr.mono (by decide)) (by rfl) g__law_dip k__law_dip b__law_dip .nil pass0 (pa_cons (pv 0) (pa_cons pe_int pa_nil)))) pa_nil)) (blkOk_by (own := [("k", 2)]) (N := N__law_name) (sc := defScope s__law_name) (by decide +kernel)) (fun _ _ _ _ _ => pg_name (i := 2) sc__law_name.nd rfl (Or.inl rfl)) (fun _ _ _ _ _ => pts_nil) (fun _ _ _ _ _ => (pe_ix (r := rIxS) ix_str pe_str (pe_call G__law_dip (hr.mono (by decide)) (by rfl) g__law_dip k__law_dip b__law_dip .nil pass0 (pa_cons (pv 0) (pa_cons pe_int pa_nil))) (fun _ _ => rfl))))))))), ?_⟩
    refine ⟨show 12 ≤ sizeLine by decide, fun p n => ?_⟩
    obtain ⟨H1, g1, e1, hq1⟩ := newH n (o := _)
    rw [hq1]
    have pa : p ≠ a := pot_ne hp n
    -- dip(pot, 3) > 0
    refine ⟨_, rfl, a, x, b, c, 3, rfl, Same.pot g1 hp, hb, ⟨hc0, by omega⟩, ⟨by decide, by decide⟩, fun x2 c2 r2 u1 u2 u3 u4 => ?_⟩
    obtain ⟨H2, q2, k2, hq2⟩ := potH (a := a) x2 b c2 (H := H1)
    rw [hq2]
    have k02 : Ka a H H2 := (Ka.of g1).trans k2
    refine ⟨_, _, rfl, rfl, _, rfl, ?_⟩
    by_cases hr2 : r2 > 0
    · refine itY (by simpa using hr2) ?_
      refine ⟨_, rfl, _, rfl, a, x2, b, c2, 12, rfl, q2, hb, ⟨by omega, by omega⟩, ⟨by decide, by decide⟩, fun x3 c3 r3 v1 v2 v3 v4 => ?_⟩
      obtain ⟨H3, q3, k3, hq3⟩ := potH (a := a) x3 b c3 (H := H2)
      rw [hq3]
      have hr3 : r3.toNat < someNames.length := by
        show r3.toNat < 12
        omega
      have e3 : H3 p = some (.lst (someNames.map V.str)) := k3 _ _ pa (k2 _ _ pa e1)
      refine ⟨p, someNames.map V.str, r3, .str someNames[r3.toNat], rfl, rfl, .inl (.inl e3), ?_, ?_⟩
      · have := at_nat (xs := someNames.map V.str) v3 (by rw [List.length_map]; exact hr3)
        rw [this, List.getElem_map]
      · exact q _ H3 x3 c3 (some_short _ (List.getElem_mem hr3)) (some_nm _ (List.getElem_mem hr3)) q3 (by omega) (by omega) (k02.trans k3)
    · refine itN (by simpa using hr2) ?_
      refine ⟨⟨_, rfl⟩, _, rfl, a, x2, b, c2, 8, rfl, q2, hb, ⟨by omega, by omega⟩, ⟨by decide, by decide⟩, fun x3 c3 r3 v1 v2 v3 v4 => ?_⟩
      obtain ⟨H3, q3, k3, hq3⟩ := potH (a := a) x3 b c3 (H := H2)
      rw [hq3]
      refine ⟨_, _, rfl, rfl, 1 + r3, rfl, by omega, by omega, fun D hD => ?_⟩
      have aD : D ≠ a := pot_ne q3 hD
      have k03 : Ka a H H3 := k02.trans k3
      have nD : H D = none := by
        cases e : H D with
        | none => rfl
        | some o =>
          have z := k03 _ _ aD e
          rw [hD] at z
          cases z
      refine lc_range (lo := 0) (n := (1 + r3).toNat) (fun i H' => ∃ (ys : List Str) (x' c' : Int), ys.length = i ∧ ((∀ y ∈ ys, y.length = 1 ∧ TxOk y) ∧ ∀ y ∈ ys, ∀ c ∈ y.cps.toList, signB c = true) ∧ H' D = some (.lst (ys.map V.str)) ∧ Pot H' a x' b c' ∧ c3 ≤ c' ∧ c' ≤ c3 + i ∧ Ka a H H') ?_ (fun i H' hi hP => ?_) fun H' hP => ?_
      · refine ⟨[], x3, c3, rfl, ⟨fun y hy => absurd hy (by simp), fun y hy => absurd hy (by simp)⟩, upd_same, ?_, by omega, by omega, fun b' o n' h => ?_⟩
        · show upd H3 D _ a = _
          rw [upd_ne (Ne.symm aD)]
          exact q3
        · rw [upd_ne (ne_of_none h nD)]
          exact k03 _ _ n' h
      · obtain ⟨ys, x', c', hyl, ⟨hys, hyg⟩, hD', q', w1, w2, k'⟩ := hP
        refine ⟨rfl, _, rfl, a, x', b, c', 26, rfl, q', hb, ⟨by omega, by omega⟩, ⟨by decide, by decide⟩, fun x4 c4 r4 y1 y2 y3 y4 => ?_⟩
        obtain ⟨H4, q4, k4, hq4⟩ := potH (a := a) x4 b c4 (H := H')
        rw [hq4]
        have hr4 : r4.toNat < letters26.length := by
          show r4.toNat < 26
          omega
        refine ⟨_, r4, _, rfl, rfl, small20 (Nat.le_of_ble_eq_true rfl), at_nat (xs := letters26) y3 hr4, ?_⟩
        have hmem : letters26[r4.toNat] ∈ letters26 := List.getElem_mem hr4
        generalize letters26[r4.toNat] = ch at hmem
        refine ⟨ys.map V.str, k4 _ _ aD hD', Nat.lt_of_lt_of_le (by rw [List.length_map]; omega : _ < 20000) (small20 (Nat.le_refl _)), ys ++ [⟨#[ch]⟩], x4, c4, by simp [hyl], ⟨fun y hy => ?_, fun y hy => ?_⟩, ?_, ?_, by omega, by omega, fun b' o n' h => ?_⟩
        · rcases List.mem_append.mp hy with hy | hy
          · exact hys y hy
          · rw [List.mem_singleton.mp hy]
            refine ⟨rfl, fun c hc => ?_⟩
            have e : c = ch := by simpa using hc
            rw [e]
            exact letters26_lt _ hmem
        · rcases List.mem_append.mp hy with hy | hy
          · exact hyg y hy
          · rw [List.mem_singleton.mp hy]
            intro c hc
            have e : c = ch := by simpa using hc
            rw [e]
            exact letters26_sg _ hmem
        · rw [upd_same, List.map_append]
          rfl
        · show upd H4 D _ a = _
          rw [upd_ne (Ne.symm aD)]
          exact q4
        · rw [upd_ne (ne_of_none h nD)]
          exact k4 _ _ n' (k' _ _ n' h)
      · obtain ⟨ys, x', c', hyl, ⟨hys, hyg⟩, hD', q', w1, w2, k'⟩ := hP
        have h8 : ys.length ≤ 8 := by omega
        have hsum : (ys.map (·.length)).sum ≤ 8 := by
          have := texts_sum fun y hy => (Nat.le_trans (Nat.le_of_eq (hys y hy).1) (by decide) : y.length ≤ 8)
          have e : (ys.map (·.length)).sum = ys.length := by
            clear h8 hyl hD' this hyg
            induction ys with
            | nil => rfl
            | cons y r ih =>
              have h1 := (hys y List.mem_cons_self).1
              have h2 := ih fun u hu => hys u (List.mem_cons_of_mem _ hu)
              rw [List.map_cons, List.sum_cons, List.length_cons]
              omega
          omega
        refine ⟨"", D, ys, rfl, rfl, .inl (.inl (.inl hD')), ?_, ?_⟩
        · rw [show ("" : Str).length = 0 from rfl]
          omega
        · exact q _ H' x' c' (join_short h8 hys) (join_nm (by omega) (join_short h8 hys).1 hys hyg) q' (by omega) (by omega) k'
end
end K65
set_option Elab.async false
set_option linter.all false
set_option maxRecDepth 100000
set_option maxHeartbeats 4000000
namespace K65
open PySem L2 Ld GxR Gx Sg
/-! the law's side: letters that are drawn -/
abbrev s__law_letter : Stmt := topS 49
abbrev N__law_letter : List Str := ["pot", "saying", "height"]
theorem sc__law_letter : FnScope N__law_letter ["pot"] (defScope s__law_letter) := ⟨rfl, rfl, rfl, by decide +kernel, rfl, by decide +kernel, by decide +kernel⟩
/-- the shape of a letter that is drawn -/
def LetS (d : PyData) : Prop := letterD d = true
theorem let_hold {y : Str} {i : Int} (h : nameD (.str y) = true) (hi : 0 ≤ i) : LetS (.tuple [.str "holds", .str y, .int i]) := by
  show (nameD (.str y) && (decide (("holds" : Str) = "holds") && decide (0 ≤ i))) = true
  rw [h, decide_eq_true hi]
  rfl
theorem let_open {y : Str} (h : nameD (.str y) = true) : LetS (.tuple [.str "open", .str y]) := by
  show (nameD (.str y) && (decide (("open" : Str) = "open") || decide (("open" : Str) = "heard"))) = true
  rw [h]
  rfl
theorem let_heard {y : Str} (h : nameD (.str y) = true) : LetS (.tuple [.str "heard", .str y]) := by
  show (nameD (.str y) && (decide (("heard" : Str) = "open") || decide (("heard" : Str) = "heard"))) = true
  rw [h, decide_eq_true (show ("heard" : Str) = "heard" from rfl), Bool.or_true]
  rfl
def spLetG : Sp := fun vs H Q _ => ∃ (a : Addr) (x b c : Int), vs = [.ref a] ∧ Pot H a x b c ∧ (0 ≤ b ∧ b < 2 ^ 200) ∧ (0 ≤ c ∧ c < 2 ^ 57) ∧
  ∀ (v : V) (d : PyData) (H' : Hp) (x' c' : Int), Da (hid a H') v d → Gd (10 ^ 30) 60 1 d → LetS d → Pot H' a x' b c' → c ≤ c' → c' ≤ c + 30 → Ka a H H' → Q v H'
theorem w_int {i : Int} (h : i.natAbs ≤ 10 ^ 9) : (PyData.int i).weight ≤ 30 := by
  have e4 : (if i == 0 then 0 else i.natAbs.log2 + 1) ≤ 30 := by
    have h1 : i.natAbs < 2 ^ 30 := Nat.lt_of_le_of_lt h (by decide)
    have h2 := PySem.Flt.log2_lt_of (by decide : 0 < 30) h1
    split <;> omega
  simp only [PyData.weight]
  exact e4
theorem lf_short {y : Str} (h : Short y) : lf (10 ^ 30) (.str y) = true := (gd_str (B := 10 ^ 30) (m := 8) (k := 0) h.2 h.1).lf
theorem short_lit {y : Str} (h : (decide (y.length ≤ 8) && y.cps.toList.all fun c => decide (c < 128)) = true) : Short y := by
  rw [Bool.and_eq_true, decide_eq_true_eq] at h
  exact ⟨h.1, tx_lit h.2⟩
theorem gd_pair2 {t y : Str} (ht : Short t) (hy : Short y) : Gd (10 ^ 30) 60 1 (.tuple [.str t, .str y]) := by
  have e1 : t.cps.size ≤ 8 := ht.1
  have e2 : y.cps.size ≤ 8 := hy.1
  refine ⟨?_, ?_, ?_⟩
  · show (lf _ (.str t) && (lf _ (.str y) && true)) = true
    rw [lf_short ht, lf_short hy]
    rfl
  · simp only [PyData.weight, PyData.weightAll]
    omega
  · simp [PyData.depth, PyData.depthAll]
theorem gd_trip {t y : Str} {i : Int} (ht : Short t) (hy : Short y) (hi : i.natAbs ≤ 10 ^ 9) : Gd (10 ^ 30) 60 1 (.tuple [.str t, .str y, .int i]) := by
  have e1 : t.cps.size ≤ 8 := ht.1
  have e2 : y.cps.size ≤ 8 := hy.1
  have e3 := w_int hi
  refine ⟨?_, ?_, ?_⟩
  · show (lf _ (.str t) && (lf _ (.str y) && (lf _ (.int i) && true))) = true
    rw [lf_short ht, lf_short hy, show lf (10 ^ 30) (.int i) = true from decide_eq_true (Nat.le_trans hi (by decide))]
    rfl
  · simp only [PyData.weight, PyData.weightAll] at e3 ⊢
    omega
  · simp [PyData.depth, PyData.depthAll]
section
variable {P : Program} {w : World} {K : PySem.W.Frag} {mg : Str → Option Value} {base : Heap}
theorem ok__law_letter {f fN fM : Addr} {fd fdN fdM : FuncData} (F : Fun K "_law_letter" "_law_letter" s__law_letter f fd) (G__law_dip : FnOk P w K mg base CX0 1 fN fdN ["pot", "many"] spDip) (g__law_dip : mg "_law_dip" = some (.ref fN)) (k__law_dip : PySem.W.keepIn K (.ref fN) = true)
    (b__law_dip : Binds K fdN ["pot", "many"] []) (G__law_name : FnOk P w K mg base CX0 2 fM fdM ["pot"] spNameG) (g__law_name : mg "_law_name" = some (.ref fM)) (k__law_name : PySem.W.keepIn K (.ref fM) = true) (b__law_name : Binds K fdM ["pot"] []) : FnOk P w K mg base CX0 3 f fd ["pot"] spLetG := by
  refine F.ok sc__law_letter (fun vs H Q E h => ?_) (fun cdv A outer s H vs Q E hr h => ?_)
  · obtain ⟨a, x, b, c, rfl, _⟩ := h
    rfl
  · obtain ⟨a, x, b, c, rfl, hp, hb, ⟨hc0, hc1⟩, q⟩ := h
    refine ⟨_, (pss_cons (ps_set (i := 1) sc__law_letter.nd rfl (Or.inl rfl) (pe_call G__law_name (hr.mono (by decide)) (by rfl) g__law_name k__law_name b__law_name .nil pass0 (pa_cons (pv 0) pa_nil)))
  (pss_cons (ps_set (i := 2) sc__law_letter.nd rfl (Or.inl rfl) (pe_ix ix_list (pe_lst (pa_cons pe_int (pa_cons (pe_op op_add pe_int (pe_call G__law_dip (hr.mono (by decide)) (by rfl) g__law_dip k__law_dip b__law_dip .nil pass0 (pa_cons (pv 0) (pa_cons pe_int pa_nil)))) (pa_cons pe_int pa_nil)))) (pe_call G__law_dip (hr.mono (by decide)) (by rfl) g__law_dip k__law_dip b__law_dip .nil pass0 (pa_cons (pv 0) (pa_cons pe_int pa_nil))) (fun _ _ => rfl)))
  (pss_one (ps_ret (pe_ix ix_list (pe_lst (pa_cons (pe_tup (pa_cons pe_str (pa_cons (pv 1) (pa_cons (pv 2) pa_nil)))) (pa_cons (pe_tup (pa_cons pe_str (pa_cons (pv 1) pa_nil))) (pa_cons (pe_tup (pa_cons pe_str (pa_cons (pv 1) pa_nil))) pa_nil)))) (pe_call G__law_dip (hr.mono (by decide)) (by rfl) g__law_dip k__law_dip b__law_dip .nil pass0 (pa_cons (pv 0) (pa_cons pe_int pa_nil))) (fun _ _ => rfl)))))), ?_⟩
    -- saying
    refine ⟨_, rfl, a, x, b, c, rfl, hp, hb, ⟨hc0, by omega⟩, fun y H1 x1 c1 sy ny q1 h1 h2 k1 => ?_⟩
    -- height
    refine ⟨_, rfl, a, x1, b, c1, 9, rfl, q1, hb, ⟨by omega, by omega⟩, ⟨by decide, by decide⟩, fun x2 c2 r2 u1 u2 u3 u4 => ?_⟩
    obtain ⟨H2, q2, k2, hq2⟩ := potH (a := a) x2 b c2 (H := H1)
    rw [hq2]
    refine ⟨_, _, rfl, rfl, show 3 ≤ sizeLine by decide, fun p3 n3 => ?_⟩
    have a3 : p3 ≠ a := pot_ne q2 n3
    obtain ⟨H3, g3, e3, hq3⟩ := newH n3 (o := _)
    rw [hq3]
    refine ⟨_, rfl, a, x2, b, c2, 3, rfl, Same.pot g3 q2, hb, ⟨by omega, by omega⟩, ⟨by decide, by decide⟩, fun x4 c4 r4 v1 v2 v3 v4 => ?_⟩
    obtain ⟨H4, q4, k4, hq4⟩ := potH (a := a) x4 b c4 (H := H3)
    rw [hq4]
    have k04 : Ka a H H4 := ((k1.trans k2).trans (Ka.of g3)).trans k4
    obtain ⟨ht, hh, hh0, hh1⟩ : ∃ h : Int, atI [V.int 0, .int (1 + r2), .int 999999999] r4 = some (.int h) ∧ h.natAbs ≤ 10 ^ 9 ∧ 0 ≤ h := by
      obtain h | h | h : r4 = 0 ∨ r4 = 1 ∨ r4 = 2 := by omega
      all_goals subst h
      · exact ⟨0, rfl, by decide, by decide⟩
      · exact ⟨1 + r2, rfl, by omega, by omega⟩
      · exact ⟨999999999, rfl, by decide, by decide⟩
    refine ⟨p3, _, r4, .int ht, rfl, rfl, .inl (.inl (k4 _ _ a3 e3)), hh, ?_⟩
    -- the three
    refine ⟨_, rfl, _, rfl, show 3 ≤ sizeLine by decide, fun t5 n5 => ?_⟩
    have a5 : t5 ≠ a := pot_ne q4 n5
    obtain ⟨H5, g5, e5, hq5⟩ := newH n5 (o := _)
    rw [hq5]
    refine ⟨_, rfl, show 2 ≤ sizeLine by decide, fun t6 n6 => ?_⟩
    have a6 : t6 ≠ a := pot_ne (Same.pot g5 q4) n6
    obtain ⟨H6, g6, e6, hq6⟩ := newH n6 (o := _)
    rw [hq6]
    refine ⟨_, rfl, show 2 ≤ sizeLine by decide, fun t7 n7 => ?_⟩
    have g56 := g5.trans g6
    have a7 : t7 ≠ a := pot_ne (Same.pot g56 q4) n7
    obtain ⟨H7, g7, e7, hq7⟩ := newH n7 (o := _)
    rw [hq7]
    have g57 := g56.trans g7
    refine ⟨show 3 ≤ sizeLine by decide, fun p8 n8 => ?_⟩
    have a8 : p8 ≠ a := pot_ne (Same.pot g57 q4) n8
    obtain ⟨H8, g8, e8, hq8⟩ := newH n8 (o := _)
    rw [hq8]
    have g58 := g57.trans g8
    refine ⟨_, rfl, a, x4, b, c4, 3, rfl, Same.pot g58 q4, hb, ⟨by omega, by omega⟩, ⟨by decide, by decide⟩, fun x9 c9 r9 w1 w2 w3 w4 => ?_⟩
    obtain ⟨H9, q9, k9, hq9⟩ := potH (a := a) x9 b c9 (H := H8)
    rw [hq9]
    have k09 : Ka a H H9 := (k04.trans (Ka.of g58)).trans k9
    have d5 : Da (hid a H9) (.ref t5) (.tuple [.str "holds", .str y, .int ht]) := .tup (hid_of (k9 _ _ a5 (g8 _ _ (g7 _ _ (g6 _ _ e5)))) a5) (.cons (.str _) (.cons (.str _) (.cons (.int _) .nil)))
    have d6 : Da (hid a H9) (.ref t6) (.tuple [.str "open", .str y]) := .tup (hid_of (k9 _ _ a6 (g8 _ _ (g7 _ _ e6))) a6) (.cons (.str _) (.cons (.str _) .nil))
    have d7 : Da (hid a H9) (.ref t7) (.tuple [.str "heard", .str y]) := .tup (hid_of (k9 _ _ a7 (g8 _ _ e7)) a7) (.cons (.str _) (.cons (.str _) .nil))
    obtain ⟨v, d, hv, dv, gv, sv⟩ : ∃ v d, atI [V.ref t5, .ref t6, .ref t7] r9 = some v ∧ Da (hid a H9) v d ∧ Gd (10 ^ 30) 60 1 d ∧ LetS d := by
      obtain h | h | h : r9 = 0 ∨ r9 = 1 ∨ r9 = 2 := by omega
      all_goals subst h
      · exact ⟨_, _, rfl, d5, gd_trip (short_lit (by decide)) sy hh0, let_hold ny hh1⟩
      · exact ⟨_, _, rfl, d6, gd_pair2 (short_lit (by decide)) sy, let_open ny⟩
      · exact ⟨_, _, rfl, d7, gd_pair2 (short_lit (by decide)) sy, let_heard ny⟩
    exact ⟨p8, _, r9, v, rfl, rfl, .inl (.inl (k9 _ _ a8 e8)), hv, q v d H9 x9 c9 dv gv sv q9 (by omega) (by omega) k09⟩
end
end K65
set_option Elab.async false
set_option linter.all false
set_option maxRecDepth 100000
set_option maxHeartbeats 4000000
namespace K65
open PySem L2 Ld GxR Gx Sg
/-- a list that is a map up to its order is the map of such a one -/
theorem perm_back {α β : Type} {f : α → β} {l m : List β} (h : l.Perm m) : ∀ L : List α, m = L.map f → ∃ M : List α, M.Perm L ∧ l = M.map f := by
  induction h with
  | nil =>
    intro L e
    exact ⟨L, .refl _, e⟩
  | cons x p ih =>
    intro L e
    cases L with
    | nil => cases e
    | cons y L =>
      rw [List.map_cons] at e
      injection e with e1 e2
      obtain ⟨M, p1, p2⟩ := ih L e2
      exact ⟨y :: M, p1.cons y, by rw [List.map_cons, ← p2, e1]⟩
  | swap x y l =>
    intro L e
    cases L with
    | nil => cases e
    | cons a L =>
      cases L with
      | nil => cases e
      | cons b L =>
        rw [List.map_cons, List.map_cons] at e
        injection e with e1 e2
        injection e2 with e2 e3
        exact ⟨b :: a :: L, List.Perm.swap a b L, by rw [List.map_cons, List.map_cons, e1, e2, e3]⟩
  | trans _ _ ih1 ih2 =>
    intro L e
    obtain ⟨M, p1, p2⟩ := ih2 L e
    obtain ⟨N, p3, p4⟩ := ih1 M p2
    exact ⟨N, p3.trans p1, p4⟩
theorem perm_cut {α β : Type} {f : α → β} {ys zs : List β} {L : List α} (h : (ys ++ zs).Perm (L.map f)) : ∃ M N : List α, ys = M.map f ∧ (M ++ N).Perm L := by
  obtain ⟨T, p, e⟩ := perm_back h L rfl
  obtain ⟨M, N, rfl, e1, e2⟩ := List.map_eq_append_iff.mp e.symm
  exact ⟨M, N, e1.symm, p⟩
/-! each of the one with each of the other, in their order -/
def prodP (xs ys : List Str) : List (Str × Str) := xs.flatMap fun x => ys.map fun y => (x, y)
/-- these lie as pairs -/
def PairsIn (H : Hp) (L : List (Addr × (Str × Str))) : Prop := ∀ q ∈ L, H q.1 = some (.tup [.str q.2.1, .str q.2.2])
theorem PairsIn.keep {H H' : Hp} {L : List (Addr × (Str × Str))} (h : PairsIn H L) (g : Same H H') : PairsIn H' L := fun q hq => g _ _ (h q hq)
theorem pairs_app {H : Hp} {L M : List (Addr × (Str × Str))} (h : PairsIn H L) (g : PairsIn H M) : PairsIn H (L ++ M) := fun q hq => (List.mem_append.mp hq).elim (h q) (g q)
theorem PairsIn.ne {H : Hp} {L : List (Addr × (Str × Str))} (h : PairsIn H L) {a : Addr} {x b c : Int} (hp : Pot H a x b c) : ∀ q ∈ L, q.1 ≠ a := fun q hq e => by
  have := h q hq
  have hp : H a = some _ := hp
  rw [e, hp] at this
  cases this
theorem PairsIn.ka {H H' : Hp} {L : List (Addr × (Str × Str))} {a : Addr} {x b c : Int} (h : PairsIn H L) (hp : Pot H a x b c) (k : Ka a H H') : PairsIn H' L := fun q hq => k _ _ (h.ne hp q hq) (h q hq)
theorem PairsIn.da {H : Hp} {a : Addr} {x b c : Int} (hp : Pot H a x b c) : ∀ {L : List (Addr × (Str × Str))}, PairsIn H L → DaAll (hid a H) (L.map fun q => V.ref q.1) ((L.map (·.2)).map pairOf)
  | [], _ => .nil
  | q :: L, h => .cons (.tup (hid_of (h q List.mem_cons_self) (h.ne hp q List.mem_cons_self)) (.cons (.str _) (.cons (.str _) .nil))) (PairsIn.da hp fun x hx => h x (List.mem_cons_of_mem _ hx))
theorem keyD_pair (p : Str × Str) : keyD (pairOf p) = keyOf p := rfl
theorem unlike_pairs {ps : List (Str × Str)} (hn : ps.all nameP = true) (h : ps.Nodup) : unlikeD (ps.map pairOf) = true := by
  rw [unlike_nodup (by rw [places_pairs]; exact hn), decide_eq_true_eq, List.map_map]
  exact List.pairwise_map.mpr (h.imp fun z e => z (keyOf_inj e))
/-- some of the pairs, each once -/
theorem prem_of {M : List (Addr × (Str × Str))} {U : List (Str × Str)} (hM : M.map (·.2) = U) (hU : U.Nodup) {ys zs : List V} (h : (ys ++ zs).Perm (M.map fun q => V.ref q.1)) :
    ∃ N : List (Addr × (Str × Str)), ys = N.map (fun q => V.ref q.1) ∧ (N.map (·.2)).Nodup ∧ (∀ q ∈ N, q ∈ M) ∧ ∀ p ∈ N.map (·.2), p ∈ U := by
  obtain ⟨N, N', rfl, hp⟩ := perm_cut h
  have hp2 := hp.map (·.2)
  rw [hM] at hp2
  have hn : ((N ++ N').map (·.2)).Nodup := hp2.nodup_iff.mpr hU
  rw [List.map_append] at hn hp2
  exact ⟨N, rfl, (List.nodup_append.mp hn).1, fun q hq => hp.mem_iff.mp (List.mem_append_left _ hq), fun p hp' => hp2.mem_iff.mp (List.mem_append_left _ hp')⟩
theorem gd_pairP {p : Str × Str} (h : nameP p = true) : Gd (10 ^ 30) 18 1 (pairOf p) := by
  have h : (nameS p.1 && nameS p.2) = true := h
  rw [Bool.and_eq_true] at h
  have one : ∀ {x : Str}, nameS x = true → x.length ≤ 8 ∧ TxOk x := fun {x} h => by
    have h : (decide (1 ≤ x.length ∧ x.length ≤ 8) && x.cps.toList.all signB) = true := h
    rw [Bool.and_eq_true, decide_eq_true_eq] at h
    exact ⟨h.1.2, fun c hc => by
      have := (signB_iff c).mp (List.all_eq_true.mp h.2 c hc)
      omega⟩
  obtain ⟨l1, t1⟩ := one h.1
  obtain ⟨l2, t2⟩ := one h.2
  have e1 : p.1.cps.size ≤ 8 := l1
  have e2 : p.2.cps.size ≤ 8 := l2
  refine ⟨?_, ?_, ?_⟩
  · show (lf _ (.str p.1) && (lf _ (.str p.2) && true)) = true
    rw [(gd_str (B := 10 ^ 30) (k := 0) t1 l1).lf, (gd_str (B := 10 ^ 30) (k := 0) t2 l2).lf]
    rfl
  · show p.1.cps.size + 1 + (p.2.cps.size + 1 + 0) ≤ 18
    omega
  · simp [pairOf, PyData.depth, PyData.depthAll]
def spPairsX (K : PySem.W.Frag) : Sp := fun vs H Q _ => ∃ (l1 l2 : Addr) (xs ys : List Str), vs = [.ref l1, .ref l2] ∧ SqL K H l1 (xs.map V.str) ∧ SqL K H l2 (ys.map V.str) ∧ xs.length ≤ 50 ∧ ys.length ≤ 50 ∧
  ∀ (D : Addr) (L : List (Addr × (Str × Str))) (H' : Hp), L.map (·.2) = prodP xs ys → H D = none → H' D = some (.lst (L.map fun q => V.ref q.1)) → PairsIn H' L → Same H H' → Q (.ref D) H'
theorem prod_len (xs ys : List Str) : (prodP xs ys).length = xs.length * ys.length := by
  unfold prodP
  induction xs with
  | nil => simp
  | cons x xs ih =>
    rw [List.flatMap_cons, List.length_append, ih, List.length_map, List.length_cons, Nat.succ_mul]
    omega
theorem prod_snoc (xs ys : List Str) (x : Str) : prodP (xs ++ [x]) ys = prodP xs ys ++ ys.map fun y => (x, y) := by
  unfold prodP
  rw [List.flatMap_append]
  simp
theorem pairs_nil (H : Hp) : PairsIn H [] := fun q h => by cases h
theorem PairsIn.put {H : Hp} {L : List (Addr × (Str × Str))} {D : Addr} {us : List V} {o : HO} (h : PairsIn H L) (e : H D = some (.lst us)) : PairsIn (upd H D o) L := fun q hq => by
  rw [upd_ne (fun z => by have := h q hq; rw [z, e] at this; cases this)]
  exact h q hq
section
variable {P : Program} {w : World} {K : PySem.W.Frag} {mg : Str → Option Value} {base : Heap}
theorem ok__law_pairsX {f : Addr} {fd : FuncData} (F : Fun K "_law_pairs" "_law_pairs" s__law_pairs f fd) : FnOk P w K mg base CX0 1 f fd ["ones", "others"] (spPairsX K) := by
  refine F.ok sc__law_pairs (fun vs H Q E h => ?_) (fun cdv A outer s H vs Q E hr h => ?_)
  · obtain ⟨l1, l2, xs, ys, rfl, _⟩ := h
    rfl
  · obtain ⟨l1, l2, xs, ys, rfl, h1, h2, n1, n2, q⟩ := h
    refine ⟨_, (pss_cons (ps_set (i := 2) sc__law_pairs.nd rfl (Or.inl rfl) (pe_lst pa_nil))
  (pss_cons (ps_for PassesOwn.never rfl (pi_list (pv 0)) (pg_name (i := 3) sc__law_pairs.nd rfl (Or.inr rfl))
  (pss_one (ps_expr (pe_extend K rfl (pv 2) (pa_cons (pe_lc (own := [("other", 4)]) (g := gName 4) rfl sc__law_pairs.nd (pi_list (pv 1)) (blkOk_by (own := [("other", 4)]) (N := N__law_pairs) (sc := defScope s__law_pairs) (by decide +kernel)) (fun _ _ _ _ _ => pg_name (i := 4) sc__law_pairs.nd rfl (Or.inl rfl)) (fun _ _ _ _ _ => pts_nil)
    (fun _ _ _ _ _ => pe_tup (pa_cons (pv 3) (pa_cons (pv 4) pa_nil)))) pa_nil)))))
  (pss_one (ps_ret (pv 2))))), ?_⟩
    refine ⟨by decide, fun D nD => ?_⟩
    obtain ⟨H1, g1, e1, hq1⟩ := newH nD (o := _)
    rw [hq1]
    refine ⟨_, rfl, l1, rfl, ⟨_, sqL_same g1 h1⟩, ?_⟩
    refine for_list (K := K) (a := l1) (xs := xs.map V.str) (fun i σ H' => ∃ (o3 : Option V) (L : List (Addr × (Str × Str))), σ = [some (.ref l1), some (.ref l2), some (.ref D), o3, none] ∧ L.map (·.2) = prodP (xs.take i) ys ∧ PairsIn H' L ∧ H' D = some (.lst (L.map fun q => V.ref q.1)) ∧ Same H H')
      ⟨none, [], rfl, rfl, pairs_nil _, e1, g1⟩ (fun i σ H' _ hP => ?_) (fun i x σ H' hx hP => ?_) fun σ H' hP => ?_
    · obtain ⟨o3, L, rfl, hl, hv, hD, g⟩ := hP
      exact sqL_same g h1
    · obtain ⟨o3, L, rfl, hl, hv, hD, g⟩ := hP
      rw [List.getElem?_map] at hx
      obtain ⟨z, hz, rfl⟩ := Option.map_eq_some_iff.mp hx
      have hi := (List.getElem?_eq_some_iff.mp hz).1
      have lL : L.length ≤ 2500 := by
        have := congrArg List.length hl
        rw [List.length_map, prod_len, List.length_take] at this
        rw [this]
        exact (Nat.mul_le_mul (show min i xs.length ≤ 50 by omega) n2 : _ ≤ 50 * 50)
      refine ⟨_, rfl, .inl ⟨rfl, _, .inl (.inl hD)⟩, _, rfl, l2, rfl, ⟨_, sqL_same g h2⟩, fun D2 hD2 => ?_⟩
      have DD : D ≠ D2 := ne_of_none hD hD2
      refine lc_list (K := K) (a := l2) (xs := ys.map V.str) (fun j H'' => ∃ M : List (Addr × (Str × Str)), M.map (·.2) = (ys.take j).map (fun y => (z, y)) ∧ PairsIn H'' M ∧ H'' D2 = some (.lst (M.map fun q => V.ref q.1)) ∧ (∀ b o, b ≠ D2 → H' b = some o → H'' b = some o)) ?_ (fun j H'' _ hP => ?_) (fun j y H'' hy hP => ?_) fun H'' hP => ?_
      · exact ⟨[], rfl, pairs_nil _, upd_same, fun b o n e => by rw [upd_ne n]; exact e⟩
      · obtain ⟨M, a1, a2, a3, a4⟩ := hP
        exact sqL_keep (fun u e => a4 _ _ (ne_of_none (g _ _ e) hD2) (g _ _ e)) h2
      · obtain ⟨M, a1, a2, a3, a4⟩ := hP
        rw [List.getElem?_map] at hy
        obtain ⟨u, hu, rfl⟩ := Option.map_eq_some_iff.mp hy
        have hj := (List.getElem?_eq_some_iff.mp hu).1
        have lM : M.length ≤ 50 := by
          have := congrArg List.length a1
          rw [List.length_map, List.length_map, List.length_take] at this
          omega
        refine ⟨rfl, yes ?_⟩
        refine ⟨_, rfl, _, rfl, small20 (Nat.le_of_ble_eq_true rfl), fun T nT => ?_⟩
        obtain ⟨H3, g3, e3, hq3⟩ := newH nT (o := _)
        rw [hq3]
        have TD2 : T ≠ D2 := (ne_of_none a3 nT).symm
        refine ⟨_, g3 _ _ a3, Nat.lt_of_le_of_lt (show _ ≤ 60 by rw [List.length_map]; omega) (by decide), M ++ [(T, (z, u))], ?_, ?_, ?_, fun b o n e => ?_⟩
        · rw [List.map_append, a1, List.take_add_one, hu, List.map_append]
          rfl
        · refine pairs_app ((PairsIn.keep a2 g3).put (g3 _ _ a3)) fun q hq => ?_
          rw [List.mem_singleton.mp hq, upd_ne TD2]
          exact e3
        · rw [upd_same, List.map_append]
          rfl
        · rw [upd_ne n]
          exact g3 _ _ (a4 b o n e)
      · obtain ⟨M, a1, a2, a3, a4⟩ := hP
        have lM : M.length ≤ 50 := by
          have := congrArg List.length a1
          rw [List.length_map, List.length_map, List.length_take] at this
          omega
        have hD2' := a4 _ _ DD hD
        have g2 : Same H H'' := fun b o e => a4 _ _ (ne_of_none (g _ _ e) hD2) (g _ _ e)
        refine ⟨D, D2, _, _, rfl, rfl, hD2', a3, ?_, ?_⟩
        · rw [List.length_map, List.length_map]
          exact Nat.le_trans (show _ ≤ 2600 by omega) (by decide)
        · refine ⟨_, L ++ M, rfl, ?_, ?_, ?_, fun b o e => ?_⟩
          · rw [List.map_append, hl, a1, List.length_map, List.take_length, List.take_add_one, hz, Option.toList_some, prod_snoc]
          · have hL : PairsIn H'' L := fun q hq => a4 _ _ (fun z => by have := hv q hq; rw [z, hD2] at this; cases this) (hv q hq)
            exact pairs_app (hL.put hD2') (a2.put hD2')
          · rw [upd_same, List.map_append]
          · rw [upd_ne (ne_of_none e nD)]
            exact g2 _ _ e
    · obtain ⟨o3, L, rfl, hl, hv, hD, g⟩ := hP
      rw [List.length_map, List.take_length] at hl
      exact ⟨_, rfl, q D L H' hl nD hD hv g⟩
end
end K65
set_option Elab.async false
set_option linter.all false
set_option maxRecDepth 100000
set_option maxHeartbeats 4000000
namespace K65
open PySem L2 Ld GxR Gx Sg
/-! the law's side: what is drawn -/
abbrev s__law_what : Stmt := topS 50
abbrev N__law_what : List Str := ["pot", "name", "places", "price", "some"]
theorem sc__law_what : FnScope N__law_what ["pot"] (defScope s__law_what) := ⟨rfl, rfl, rfl, by decide +kernel, rfl, by decide +kernel, by decide +kernel⟩
def WhatS (d : PyData) : Prop := whatD d = true
theorem whS_four {t y : Str} (ht : t ∈ fourW) (h : nameD (.str y) = true) : WhatS (.tuple [.str t, .str y]) := by
  show whatR t [.str y] = true
  unfold whatR
  rw [if_pos ht]
  exact h
theorem whS_drop {i : Int} (h : 0 ≤ i) : WhatS (.tuple [.str "drop", .int i]) := by
  show whatR "drop" [.int i] = true
  unfold whatR
  rw [if_neg (by decide), if_pos rfl]
  exact decide_eq_true h
theorem whS_hear {y : Str} {l : PyData} (h : nameD (.str y) = true) (hl : LetS l) : WhatS (.tuple [.str "hear", .str y, l]) := by
  show whatR "hear" [.str y, l] = true
  unfold whatR
  rw [if_neg (by decide), if_neg (by decide), if_pos rfl]
  show (nameD (.str y) && letterD l) = true
  rw [h, hl]
  rfl
theorem rule_ok {x y : Str} {i : Int} {ps : List (Str × Str)} (hx : nameD (.str x) = true) (hy : nameD (.str y) = true) (hi : 1 ≤ i) (hn : ps.Nodup) (hp : ps.all nameP = true) (h1 : 1 ≤ ps.length) (h8 : ps.length ≤ 8) : ruleD (.tuple [.str x, .str y, .int i, .list (ps.map pairOf)]) = true := by
  rw [rule_eq hi (by rw [List.length_map]; exact h1) (by rw [List.length_map]; exact h8), unlike_pairs hp hn, places_pairs, hp]
  have : nameP (x, y) = true := by
    show (nameD (.str x) && nameD (.str y)) = true
    rw [hx, hy]
    rfl
  rw [this]
  rfl
theorem whS_lean {y : Str} {i : Int} {ps : List (Str × Str)} (hy : nameD (.str y) = true) (hi : 1 ≤ i) (hn : ps.Nodup) (hp : ps.all nameP = true) (h1 : 1 ≤ ps.length) (h8 : ps.length ≤ 8) : WhatS (.tuple [.str "lean", .str y, .int i, .list (ps.map pairOf)]) := by
  show whatR "lean" [.str y, .int i, .list (ps.map pairOf)] = true
  unfold whatR
  rw [if_neg (by decide), if_neg (by decide), if_neg (by decide)]
  show (decide (("lean" : Str) = "lean") && ruleD (.tuple [.str "an", .str y, .int i, .list (ps.map pairOf)])) = true
  rw [rule_ok (by decide) hy hi hn hp h1 h8]
  rfl
def spWhatG : Sp := fun vs H Q _ => ∃ (a : Addr) (x b c : Int), vs = [.ref a] ∧ Pot H a x b c ∧ (0 ≤ b ∧ b < 2 ^ 200) ∧ (0 ≤ c ∧ c < 2 ^ 56) ∧
  ∀ (v : V) (d : PyData) (H' : Hp) (x' c' : Int), Da (hid a H') v d → Gd (10 ^ 30) 246 3 d → WhatS d → Pot H' a x' b c' → c ≤ c' → c' ≤ c + 150 → Ka a H H' → Q v H'
theorem wAll_bd {n : Nat} : ∀ {ds : List PyData}, (∀ e ∈ ds, e.weight ≤ n) → PyData.weightAll ds ≤ (n + 1) * ds.length
  | [], _ => Nat.zero_le _
  | d :: ds, h => by
    have h1 := wAll_bd (ds := ds) fun e he => h e (List.mem_cons_of_mem _ he)
    have h2 := h d List.mem_cons_self
    simp only [PyData.weightAll, List.length_cons, Nat.mul_add]
    omega
theorem gd_lean {t y : Str} {pr : Int} {pd : List PyData} (ht : Short t) (hy : Short y) (hpr : pr.natAbs ≤ 10 ^ 9) (hl : pd.length ≤ 8) (h : ∀ e ∈ pd, Gd (10 ^ 30) 18 1 e) : Gd (10 ^ 30) 246 3 (.tuple [.str t, .str y, .int pr, .list pd]) := by
  have e1 : t.cps.size ≤ 8 := ht.1
  have e2 : y.cps.size ≤ 8 := hy.1
  have e3 := wAll_bd (n := 18) (ds := pd) fun e he => (h e he).w
  have e4 := w_int hpr
  have e5 : PyData.depthAll pd ≤ 1 := dAll_iff.mpr fun e he => (h e he).dp
  refine ⟨?_, ?_, ?_⟩
  · show (lf _ (.str t) && (lf _ (.str y) && (lf _ (.int pr) && (lf _ (.list pd) && true)))) = true
    have e6 : lf (10 ^ 30) (.int pr) = true := decide_eq_true (Nat.le_trans hpr (by decide))
    have e7 : lf (10 ^ 30) (.list pd) = true := lfAll_iff.mpr fun e he => (h e he).lf
    rw [lf_short ht, lf_short hy, e6, e7]
    rfl
  · simp only [PyData.weight, PyData.weightAll] at e4 ⊢
    omega
  · simp only [PyData.depth, PyData.depthAll]
    omega
theorem gd_hear {t y : Str} {l : PyData} (ht : Short t) (hy : Short y) (h : Gd (10 ^ 30) 60 1 l) : Gd (10 ^ 30) 246 3 (.tuple [.str t, .str y, l]) := by
  have e1 : t.cps.size ≤ 8 := ht.1
  have e2 : y.cps.size ≤ 8 := hy.1
  have e3 := h.w
  have e4 := h.dp
  refine ⟨?_, ?_, ?_⟩
  · show (lf _ (.str t) && (lf _ (.str y) && (lf _ l && true))) = true
    rw [lf_short ht, lf_short hy, h.lf]
    rfl
  · simp only [PyData.weight, PyData.weightAll]
    omega
  · simp only [PyData.depth, PyData.depthAll]
    omega
theorem gd_drop {t : Str} {i : Int} (ht : Short t) (hi : i.natAbs ≤ 10 ^ 9) : Gd (10 ^ 30) 246 3 (.tuple [.str t, .int i]) := by
  have e1 : t.cps.size ≤ 8 := ht.1
  have e3 := w_int hi
  refine ⟨?_, ?_, ?_⟩
  · show (lf _ (.str t) && (lf _ (.int i) && true)) = true
    rw [lf_short ht, show lf (10 ^ 30) (.int i) = true from decide_eq_true (Nat.le_trans hi (by decide))]
    rfl
  · simp only [PyData.weight, PyData.weightAll] at e3 ⊢
    omega
  · simp [PyData.depth, PyData.depthAll]
theorem gd_more {n k n' k' : Nat} {d : PyData} (g : Gd (10 ^ 30) n k d) (h1 : n ≤ n') (h2 : k ≤ k') : Gd (10 ^ 30) n' k' d := ⟨g.lf, Nat.le_trans g.w h1, Nat.le_trans g.dp h2⟩
section
variable {P : Program} {w : World} {K : PySem.W.Frag} {mg : Str → Option Value} {base : Heap}
theorem ok__law_what {f fN fM fL fA fQ : Addr} {fd fdN fdM fdL fdA fdQ : FuncData} (F : Fun K "_law_what" "_law_what" s__law_what f fd) (G__law_dip : FnOk P w K mg base CX0 1 fN fdN ["pot", "many"] spDip) (g__law_dip : mg "_law_dip" = some (.ref fN)) (k__law_dip : PySem.W.keepIn K (.ref fN) = true)
    (b__law_dip : Binds K fdN ["pot", "many"] []) (G__law_name : FnOk P w K mg base CX0 2 fM fdM ["pot"] spNameG) (g__law_name : mg "_law_name" = some (.ref fM)) (k__law_name : PySem.W.keepIn K (.ref fM) = true) (b__law_name : Binds K fdM ["pot"] [])
    (G__law_letter : FnOk P w K mg base CX0 3 fL fdL ["pot"] spLetG) (g__law_letter : mg "_law_letter" = some (.ref fL)) (k__law_letter : PySem.W.keepIn K (.ref fL) = true) (b__law_letter : Binds K fdL ["pot"] [])
    (G__law_pairs : FnOk P w K mg base CX0 1 fA fdA ["ones", "others"] (spPairsX K)) (g__law_pairs : mg "_law_pairs" = some (.ref fA)) (k__law_pairs : PySem.W.keepIn K (.ref fA) = true) (b__law_pairs : Binds K fdA ["ones", "others"] [])
    (G__law_premises : FnOk P w K mg base CX0 3 fQ fdQ ["pot", "places"] (spPrem K)) (g__law_premises : mg "_law_premises" = some (.ref fQ)) (k__law_premises : PySem.W.keepIn K (.ref fQ) = true) (b__law_premises : Binds K fdQ ["pot", "places"] []) : FnOk P w K mg base CX0 4 f fd ["pot"] spWhatG := by
  refine F.ok sc__law_what (fun vs H Q E h => ?_) (fun cdv A outer s H vs Q E hr h => ?_)
  · obtain ⟨a, x, b, c, rfl, _⟩ := h
    rfl
  · obtain ⟨a, x, b, c, rfl, hp, hb, ⟨hc0, hc1⟩, q⟩ := h
    refine ⟨_, (pss_cons (ps_set (i := 1) sc__law_what.nd rfl (Or.inl rfl) (pe_call G__law_name (hr.mono (by decide)) (by rfl) g__law_name k__law_name b__law_name .nil pass0 (pa_cons (pv 0) pa_nil)))
  (pss_cons (ps_set (i := 2) sc__law_what.nd rfl (Or.inl rfl) (pe_call G__law_pairs (hr.mono (by decide)) (by rfl) g__law_pairs k__law_pairs b__law_pairs .nil pass0 (pa_cons (pe_lst (pa_cons pe_str (pa_cons pe_str (pa_cons pe_str pa_nil)))) (pa_cons (pe_lst (pa_cons pe_str (pa_cons pe_str (pa_cons pe_str pa_nil)))) pa_nil))))
  (pss_cons (ps_set (i := 3) sc__law_what.nd rfl (Or.inl rfl) (pe_ix ix_list (pe_lst (pa_cons pe_int (pa_cons (pe_op op_add pe_int (pe_call G__law_dip (hr.mono (by decide)) (by rfl) g__law_dip k__law_dip b__law_dip .nil pass0 (pa_cons (pv 0) (pa_cons pe_int pa_nil)))) (pa_cons pe_int pa_nil)))) (pe_call G__law_dip (hr.mono (by decide)) (by rfl) g__law_dip k__law_dip b__law_dip .nil pass0 (pa_cons (pv 0) (pa_cons pe_int pa_nil))) (fun _ _ => rfl)))
  (pss_cons (ps_set (i := 4) sc__law_what.nd rfl (Or.inl rfl) (pe_lst (pa_cons (pe_tup (pa_cons pe_str (pa_cons (pv 1) pa_nil))) (pa_cons (pe_tup (pa_cons pe_str (pa_cons (pv 1) pa_nil))) (pa_cons (pe_tup (pa_cons pe_str (pa_cons (pv 1) pa_nil))) (pa_cons (pe_tup (pa_cons pe_str (pa_cons (pv 1) pa_nil))) (pa_cons (pe_tup (pa_cons pe_str (pa_cons (pe_call G__law_dip (hr.mono (by decide)) (by rfl) g__law_dip k__law_dip b__law_dip .nil pass0 (pa_cons (pv 0) (pa_cons pe_int pa_nil))) pa_nil))) pa_nil)))))))
  (pss_cons (ps_set (i := 4) sc__law_what.nd rfl (Or.inl rfl) (pe_op op_cat (pv 4) (pe_lst (pa_cons (pe_tup (pa_cons pe_str (pa_cons (pv 1) (pa_cons (pe_call G__law_letter (hr.mono (by decide)) (by rfl) g__law_letter k__law_letter b__law_letter .nil pass0 (pa_cons (pv 0) pa_nil)) pa_nil)))) (pa_cons (pe_tup (pa_cons pe_str (pa_cons (pv 1) (pa_cons (pe_call G__law_letter (hr.mono (by decide)) (by rfl) g__law_letter k__law_letter b__law_letter .nil pass0 (pa_cons (pv 0) pa_nil)) pa_nil)))) pa_nil)))))
  (pss_one (ps_ret (pe_ix ix_list (pe_op op_cat (pv 4) (pe_op op_rep (pe_lst (pa_cons (pe_tup (pa_cons pe_str (pa_cons (pv 1) (pa_cons (pv 3) (pa_cons (pe_call G__law_premises (hr.mono (by decide)) (by rfl) g__law_premises k__law_premises b__law_premises .nil pass0 (pa_cons (pv 0) (pa_cons (pv 2) pa_nil))) pa_nil))))) pa_nil)) pe_int)) (pe_call G__law_dip (hr.mono (by decide)) (by rfl) g__law_dip k__law_dip b__law_dip .nil pass0 (pa_cons (pv 0) (pa_cons pe_int pa_nil))) (fun _ _ => rfl))))))))), ?_⟩
    -- name
    refine ⟨_, rfl, a, x, b, c, rfl, hp, hb, ⟨hc0, by omega⟩, fun y H1 x1 c1 sy ny q1 h1 h2 k1 => ?_⟩
    -- places
    refine ⟨show 3 ≤ sizeLine by decide, fun p2 n2 => ?_⟩
    obtain ⟨H2, g2, e2, hq2⟩ := newH n2 (o := _)
    rw [hq2]
    refine ⟨show 3 ≤ sizeLine by decide, fun p3 n3 => ?_⟩
    obtain ⟨H3, g3, e3, hq3⟩ := newH n3 (o := _)
    rw [hq3]
    have q3 := Same.pot (g2.trans g3) q1
    refine ⟨p2, p3, ["an", "open", "cy"], ["a", "holds", "abcdefgh"], rfl, .inl (.inl (g3 _ _ e2)), .inl (.inl e3), by decide, by decide, fun L M H4 hM nL eL hPI g4 => ?_⟩
    have q4 : Pot H4 a x1 b c1 := Same.pot g4 q3
    have aL : L ≠ a := pot_ne q3 nL
    have k04 : Ka a H H4 := k1.trans (Ka.of ((g2.trans g3).trans g4))
    have hU : (prodP ["an", "open", "cy"] ["a", "holds", "abcdefgh"]).Nodup ∧ (prodP ["an", "open", "cy"] ["a", "holds", "abcdefgh"]).all nameP = true ∧ (prodP ["an", "open", "cy"] ["a", "holds", "abcdefgh"]).length = 9 := by decide +kernel
    have hvl9 : (M.map fun q => V.ref q.1).length = 9 := by
      have := congrArg List.length hM
      rw [List.length_map] at this ⊢
      rw [this]
      exact hU.2.2
    -- price
    refine ⟨_, rfl, a, x1, b, c1, 9, rfl, q4, hb, ⟨by omega, by omega⟩, ⟨by decide, by decide⟩, fun x5 c5 r5 u1 u2 u3 u4 => ?_⟩
    obtain ⟨H5, q5, k5, hq5⟩ := potH (a := a) x5 b c5 (H := H4)
    rw [hq5]
    refine ⟨_, _, rfl, rfl, show 3 ≤ sizeLine by decide, fun p6 n6 => ?_⟩
    have a6 : p6 ≠ a := pot_ne q5 n6
    obtain ⟨H6, g6, e6, hq6⟩ := newH n6 (o := _)
    rw [hq6]
    refine ⟨_, rfl, a, x5, b, c5, 3, rfl, Same.pot g6 q5, hb, ⟨by omega, by omega⟩, ⟨by decide, by decide⟩, fun x7 c7 r7 v1 v2 v3 v4 => ?_⟩
    obtain ⟨H7, q7, k7, hq7⟩ := potH (a := a) x7 b c7 (H := H6)
    rw [hq7]
    have k47 : Ka a H4 H7 := (k5.trans (Ka.of g6)).trans k7
    have k07 : Ka a H H7 := k04.trans k47
    obtain ⟨pr, hpr, hpr0, hpr1⟩ : ∃ h : Int, atI [V.int 1, .int (1 + r5), .int 999999999] r7 = some (.int h) ∧ h.natAbs ≤ 10 ^ 9 ∧ 1 ≤ h := by
      obtain h | h | h : r7 = 0 ∨ r7 = 1 ∨ r7 = 2 := by omega
      all_goals subst h
      · exact ⟨1, rfl, by decide, by decide⟩
      · exact ⟨1 + r5, rfl, by omega, by omega⟩
      · exact ⟨999999999, rfl, by decide, by decide⟩
    refine ⟨p6, _, r7, .int pr, rfl, rfl, .inl (.inl (k7 _ _ a6 e6)), hpr, ?_⟩
    -- some
    refine ⟨_, rfl, show 2 ≤ sizeLine by decide, fun t8 n8 => ?_⟩
    have a8 : t8 ≠ a := pot_ne q7 n8
    obtain ⟨H8, g8, e8, hq8⟩ := newH n8 (o := _)
    rw [hq8]
    refine ⟨_, rfl, show 2 ≤ sizeLine by decide, fun t9 n9 => ?_⟩
    have a9 : t9 ≠ a := pot_ne (Same.pot g8 q7) n9
    obtain ⟨H9, g9, e9, hq9⟩ := newH n9 (o := _)
    rw [hq9]
    refine ⟨_, rfl, show 2 ≤ sizeLine by decide, fun t10 n10 => ?_⟩
    have a10 : t10 ≠ a := pot_ne (Same.pot (g8.trans g9) q7) n10
    obtain ⟨H10, g10, e10, hq10⟩ := newH n10 (o := _)
    rw [hq10]
    refine ⟨_, rfl, show 2 ≤ sizeLine by decide, fun t11 n11 => ?_⟩
    have g810 := (g8.trans g9).trans g10
    have a11 : t11 ≠ a := pot_ne (Same.pot g810 q7) n11
    obtain ⟨H11, g11, e11, hq11⟩ := newH n11 (o := _)
    rw [hq11]
    have g811 := g810.trans g11
    have q11 := Same.pot g811 q7
    refine ⟨_, rfl, a, x7, b, c7, 12, rfl, q11, hb, ⟨by omega, by omega⟩, ⟨by decide, by decide⟩, fun x12 c12 r12 w1 w2 w3 w4 => ?_⟩
    obtain ⟨H12, q12, k12, hq12⟩ := potH (a := a) x12 b c12 (H := H11)
    rw [hq12]
    refine ⟨show 2 ≤ sizeLine by decide, fun t13 n13 => ?_⟩
    have a13 : t13 ≠ a := pot_ne q12 n13
    obtain ⟨H13, g13, e13, hq13⟩ := newH n13 (o := _)
    rw [hq13]
    have hs : ∀ {w : Str}, (decide (w.length ≤ 8) && w.cps.toList.all fun c => decide (c < 128)) = true → Short w := fun h => short_lit h
    have D13 : DaAll (hid a H13) [.ref t8, .ref t9, .ref t10, .ref t11, .ref t13] [.tuple [.str "vouch", .str y], .tuple [.str "withdraw", .str y], .tuple [.str "join", .str y], .tuple [.str "part", .str y], .tuple [.str "drop", .int r12]] := by
      have up : ∀ {b' : Addr} {o : HO}, b' ≠ a → H11 b' = some o → hid a H13 b' = some o := fun n h => hid_of (g13 _ _ (k12 _ _ n h)) n
      refine .cons (.tup (up a8 (g11 _ _ (g10 _ _ (g9 _ _ e8)))) (.cons (.str _) (.cons (.str _) .nil))) (.cons (.tup (up a9 (g11 _ _ (g10 _ _ e9))) (.cons (.str _) (.cons (.str _) .nil))) (.cons (.tup (up a10 (g11 _ _ e10)) (.cons (.str _) (.cons (.str _) .nil))) (.cons (.tup (up a11 e11) (.cons (.str _) (.cons (.str _) .nil))) (.cons (.tup (hid_of e13 a13) (.cons (.str _) (.cons (.int _) .nil))) .nil))))
    refine ⟨show 5 ≤ sizeLine by decide, fun p14 n14 => ?_⟩
    have a14 : p14 ≠ a := pot_ne (Same.pot g13 q12) n14
    obtain ⟨H14, g14, e14, hq14⟩ := newH n14 (o := _)
    rw [hq14]
    have q14 := Same.pot (g13.trans g14) q12
    have k014 : Ka a H H14 := ((k07.trans (Ka.of g811)).trans k12).trans (Ka.of (g13.trans g14))
    have D14 := hallS g14 D13
    -- some + the two that are heard
    refine ⟨_, rfl, _, rfl, _, rfl, a, x12, b, c12, rfl, q14, hb, ⟨by omega, by omega⟩, fun v15 d15 H15 x15 c15 dv15 gv15 sv15 q15 h15 h15' k15 => ?_⟩
    refine ⟨show 3 ≤ sizeLine by decide, fun t16 n16 => ?_⟩
    have a16 : t16 ≠ a := pot_ne q15 n16
    obtain ⟨H16, g16, e16, hq16⟩ := newH n16 (o := _)
    rw [hq16]
    refine ⟨_, rfl, _, rfl, a, x15, b, c15, rfl, Same.pot g16 q15, hb, ⟨by omega, by omega⟩, fun v17 d17 H17 x17 c17 dv17 gv17 sv17 q17 h17 h17' k17 => ?_⟩
    refine ⟨show 3 ≤ sizeLine by decide, fun t18 n18 => ?_⟩
    have a18 : t18 ≠ a := pot_ne q17 n18
    obtain ⟨H18, g18, e18, hq18⟩ := newH n18 (o := _)
    rw [hq18]
    refine ⟨show 2 ≤ sizeLine by decide, fun p19 n19 => ?_⟩
    have a19 : p19 ≠ a := pot_ne (Same.pot g18 q17) n19
    obtain ⟨H19, g19, e19, hq19⟩ := newH n19 (o := _)
    rw [hq19]
    have q19 := Same.pot (g18.trans g19) q17
    have k1419 : Ka a H14 H19 := ((k15.trans (Ka.of g16)).trans k17).trans (Ka.of (g18.trans g19))
    have k1619 : Ka a H16 H19 := k17.trans (Ka.of (g18.trans g19))
    have D19 := k1419.daAll D14
    have E16 : Da (hid a H19) (.ref t16) (.tuple [.str "hear", .str y, d15]) := .tup (hid_of (k1619 _ _ a16 e16) a16) (.cons (.str _) (.cons (.str _) (.cons (k1619.da (hdaS g16 dv15)) .nil)))
    have E18 : Da (hid a H19) (.ref t18) (.tuple [.str "hear", .str y, d17]) := .tup (hid_of (g19 _ _ e18) a18) (.cons (.str _) (.cons (.str _) (.cons (hdaS (g18.trans g19) dv17) .nil)))
    refine ⟨p14, p19, _, _, rfl, rfl, k1419 _ _ a14 e14, e19, show 5 + 2 ≤ sizeLine by decide, fun p20 n20 => ?_⟩
    have a20 : p20 ≠ a := pot_ne q19 n20
    obtain ⟨H20, g20, e20, hq20⟩ := newH n20 (o := _)
    rw [hq20]
    have q20 := Same.pot g20 q19
    have D20 := hallS g20 (DaAll.app (.cons E16 (.cons E18 .nil)) D19)
    have k020 : Ka a H H20 := (k014.trans k1419).trans (Ka.of g20)
    -- the rules
    have k420 : Ka a H4 H20 := ((((k47.trans (Ka.of g811)).trans k12).trans (Ka.of (g13.trans g14))).trans k1419).trans (Ka.of g20)
    have hv20 : PairsIn H20 M := hPI.ka q4 k420
    refine ⟨_, rfl, _, rfl, _, rfl, _, rfl, _, rfl, a, L, x17, b, c17, M.map (fun q => V.ref q.1), rfl, q20, hb, ⟨by omega, by omega⟩, .inl (.inl (k420 _ _ aL eL)), aL, by omega, by omega, fun D ys zs H21 x21 c21 hpm l1 l2 nD eD q21 h21 h21' k21 => ?_⟩
    have aD : D ≠ a := fun e => by
      have q21' : H21 a = some _ := q21
      rw [e, q21'] at eD
      have := Option.some.inj eD
      rw [e, show H20 a = some _ from q20] at nD
      cases nD
    obtain ⟨N, rfl, hNn, hNM, hNU⟩ := prem_of hM hU.1 hpm
    have hPN : PairsIn H21 N := fun q hq => (hv20.ka q20 k21) q (hNM q hq)
    have hpd := hPN.da q21
    have hNa : (N.map (·.2)).all nameP = true := List.all_eq_true.mpr fun p hp => List.all_eq_true.mp hU.2.1 p (hNU p hp)
    have hNl : (N.map (·.2)).length = N.length := List.length_map _
    rw [List.length_map] at l1 l2
    have hpg : ∀ e ∈ (N.map (·.2)).map pairOf, Gd (10 ^ 30) 18 1 e := fun e he => by
      obtain ⟨p, hp, rfl⟩ := List.mem_map.mp he
      exact gd_pairP (List.all_eq_true.mp hNa p hp)
    have hpl : ((N.map (·.2)).map pairOf).length ≤ 8 := by rw [List.length_map, hNl]; exact l2
    generalize hpd0 : (N.map (·.2)).map pairOf = pd at hpd hpg hpl
    refine ⟨show 4 ≤ sizeLine by decide, fun t22 n22 => ?_⟩
    have a22 : t22 ≠ a := pot_ne q21 n22
    obtain ⟨H22, g22, e22, hq22⟩ := newH n22 (o := _)
    rw [hq22]
    refine ⟨show 1 ≤ sizeLine by decide, fun p23 n23 => ?_⟩
    obtain ⟨H23, g23, e23, hq23⟩ := newH n23 (o := _)
    rw [hq23]
    refine ⟨p23, 3, [.ref t22], rfl, rfl, e23, by decide, by decide, show 1 * 3 ≤ sizeLine by decide, fun p24 n24 => ?_⟩
    obtain ⟨H24, g24, e24, hq24⟩ := newH n24 (o := _)
    rw [hq24]
    have g2224 := (g22.trans g23).trans g24
    have e20' : H24 p20 = some (.lst ([V.ref t8, .ref t9, .ref t10, .ref t11, .ref t13] ++ [.ref t16, .ref t18])) := g2224 _ _ (k21 _ _ a20 e20)
    refine ⟨p20, p24, _, _, rfl, rfl, e20', e24, show 7 + 3 ≤ sizeLine by decide, fun p25 n25 => ?_⟩
    have g2124 := g2224
    have a25 : p25 ≠ a := pot_ne (Same.pot g2224 q21) n25
    obtain ⟨H25, g25, e25, hq25⟩ := newH n25 (o := _)
    rw [hq25]
    have q25 := Same.pot (g2224.trans g25) q21
    refine ⟨_, rfl, a, x21, b, c21, 10, rfl, q25, hb, ⟨by omega, by omega⟩, ⟨by decide, by decide⟩, fun x26 c26 r26 z1 z2 z3 z4 => ?_⟩
    obtain ⟨H26, q26, k26, hq26⟩ := potH (a := a) x26 b c26 (H := H25)
    rw [hq26]
    have k2126 : Ka a H21 H26 := (Ka.of (g2224.trans g25)).trans k26
    have k2226 : Ka a H22 H26 := (Ka.of ((g23.trans g24).trans g25)).trans k26
    have k026 : Ka a H H26 := (k020.trans k21).trans k2126
    have D26 := (k21.trans k2126).daAll D20
    have E22 : Da (hid a H26) (.ref t22) (.tuple [.str "lean", .str y, .int pr, .list pd]) := .tup (hid_of (k2226 _ _ a22 e22) a22) (.cons (.str _) (.cons (.str _) (.cons (.int _) (.cons (.lst (hid_of (k2126 _ _ aD eD) aD) (k2126.daAll hpd)) .nil))))
    have G22 : Gd (10 ^ 30) 246 3 (.tuple [.str "lean", .str y, .int pr, .list pd]) := gd_lean (hs (by decide)) sy hpr0 hpl hpg
    have S22 : WhatS (.tuple [.str "lean", .str y, .int pr, .list pd]) := by
      rw [← hpd0]
      exact whS_lean ny hpr1 hNn hNa (by omega) (by omega)
    obtain ⟨v, d, hv26, dv, gv, sv⟩ : ∃ v d, atI ([V.ref t8, .ref t9, .ref t10, .ref t11, .ref t13] ++ [.ref t16, .ref t18] ++ [.ref t22, .ref t22, .ref t22]) r26 = some v ∧ Da (hid a H26) v d ∧ Gd (10 ^ 30) 246 3 d ∧ WhatS d := by
      have at' : ∀ (i : Nat) (v : V), ([V.ref t8, .ref t9, .ref t10, .ref t11, .ref t13] ++ [.ref t16, .ref t18])[i]? = some v → ∃ d, ([PyData.tuple [.str "vouch", .str y], .tuple [.str "withdraw", .str y], .tuple [.str "join", .str y], .tuple [.str "part", .str y], .tuple [.str "drop", .int r12]] ++ [.tuple [.str "hear", .str y, d15], .tuple [.str "hear", .str y, d17]])[i]? = some d ∧ Da (hid a H26) v d := fun i v h => D26.get i v h
      have sp : ∀ {w : Str}, (decide (w.length ≤ 8) && w.cps.toList.all fun c => decide (c < 128)) = true → Gd (10 ^ 30) 246 3 (.tuple [.str w, .str y]) := fun h => gd_more (gd_pair2 (hs h) sy) (by decide) (by decide)
      obtain h | h | h | h | h | h | h | h | h | h : r26 = 0 ∨ r26 = 1 ∨ r26 = 2 ∨ r26 = 3 ∨ r26 = 4 ∨ r26 = 5 ∨ r26 = 6 ∨ r26 = 7 ∨ r26 = 8 ∨ r26 = 9 := by omega
      all_goals subst h
      · obtain ⟨d, hd, dd⟩ := at' 0 _ rfl
        cases hd
        exact ⟨_, _, rfl, dd, sp (by decide), whS_four (by decide) ny⟩
      · obtain ⟨d, hd, dd⟩ := at' 1 _ rfl
        cases hd
        exact ⟨_, _, rfl, dd, sp (by decide), whS_four (by decide) ny⟩
      · obtain ⟨d, hd, dd⟩ := at' 2 _ rfl
        cases hd
        exact ⟨_, _, rfl, dd, sp (by decide), whS_four (by decide) ny⟩
      · obtain ⟨d, hd, dd⟩ := at' 3 _ rfl
        cases hd
        exact ⟨_, _, rfl, dd, sp (by decide), whS_four (by decide) ny⟩
      · obtain ⟨d, hd, dd⟩ := at' 4 _ rfl
        cases hd
        exact ⟨_, _, rfl, dd, gd_drop (hs (by decide)) (by omega), whS_drop (by omega)⟩
      · obtain ⟨d, hd, dd⟩ := at' 5 _ rfl
        cases hd
        exact ⟨_, _, rfl, dd, gd_hear (hs (by decide)) sy gv15, whS_hear ny sv15⟩
      · obtain ⟨d, hd, dd⟩ := at' 6 _ rfl
        cases hd
        exact ⟨_, _, rfl, dd, gd_hear (hs (by decide)) sy gv17, whS_hear ny sv17⟩
      · exact ⟨_, _, rfl, E22, G22, S22⟩
      · exact ⟨_, _, rfl, E22, G22, S22⟩
      · exact ⟨_, _, rfl, E22, G22, S22⟩
    exact ⟨p25, _, r26, v, rfl, rfl, .inl (.inl (k26 _ _ a25 e25)), hv26, q v d H26 x26 c26 dv gv sv q26 (by omega) (by omega) k026⟩
end
end K65
set_option Elab.async false
set_option linter.all false
set_option maxRecDepth 100000
set_option maxHeartbeats 4000000
/-! d.get(k, x) of a dict that the module writes: texts to whole numbers -/
namespace Ld
open PySem PySem.Spec PyProof.Rows L2
def LitI : List DictEntry → List (Str × Int) → Prop
  | [], [] => True
  | e :: r, p :: q => (∃ t, e.key = .str p.1 t) ∧ (∃ t, e.val = .int p.2 t) ∧ LitI r q
  | _, _ => False
def lookI : List (Str × Int) → Str → Option Int
  | [], _ => none
  | p :: q, t => if p.1 = t then some p.2 else lookI q t
def KPairs (K : PySem.W.Frag) (w : World) (a : Addr) (ps : List (Str × Int)) : Prop :=
  (∃ es n, K.lookup a = some ⟨.type "dict", none, .dict es n, #[]⟩ ∧ PySem.W.KeysLit w.params es.toList ∧ LitI es.toList ps) ∧ (a == sysModules) = false
theorem find_lit : ∀ {es : List DictEntry} {ps : List (Str × Int)}, LitI es ps → ∀ t, RelO ((lookI ps t).map V.int) ((es.find? fun e => Value.isStrOf t e.key).map (·.val))
  | [], [], _, _ => True.intro
  | e :: r, p :: q, ⟨⟨k, hk⟩, ⟨u, hu⟩, h⟩, t => by
    have hs : Value.isStrOf t e.key = (p.1 == t) := by rw [hk]; rfl
    rw [List.find?_cons, hs]
    unfold lookI
    by_cases c : p.1 = t
    · rw [if_pos c, beq_iff_eq.mpr c]
      show RelV (.int p.2) e.val
      rw [hu]
      exact ⟨u, rfl⟩
    · rw [if_neg c, beq_eq_false_iff_ne.mpr c]
      exact find_lit h t
def tKGet2 (K : PySem.W.Frag) (w : World) (td ty tx : TE) : TE := fun σ H Q => td σ H fun x H1 => ∃ a ps, x = .ref a ∧ KPairs K w a ps ∧ ty σ H1 fun y H2 => tx σ H2 fun z H3 => ∃ t, y = .str t ∧ Q (((lookI ps t).map V.int).getD z) H3
section
variable {X : Cx} {o e f : Expr} {apos cpos : Pos} {td ty tx : TE}
theorem pe_kget2 (ho : PE X o td) (he : PE X e ty) (hf : PE X f tx) (m : M2 X o "get" apos e f cpos) : PE X (.Call (.Attribute o "get" apos) [e, f] [] cpos) (tKGet2 X.K X.w td ty tx) := by
  refine ⟨fun pins s σ H Q I h => ?_⟩
  refine wpAny_Call_method m.base m.few m.line PySem.F.plainAttrs_dict PySem.F.slot_dict_get PySem.F.type_dict_get (thn (ho.run pins s σ H _ I h) fun u s1 ⟨x, H1, I1, rx, a, ps, ex, d, q1⟩ => ?_)
  subst ex
  obtain rfl : u = Value.ref a := rx
  obtain ⟨⟨es, n, hl, hk, hp⟩, low⟩ := d
  have hm1 := PySem.W.mapOf_K (prog := X.prog) (w := X.w) I1.kIn hl hk
  refine ⟨hm1.typeIs, fun b q => ?_, ?_⟩
  · cases q
    exact ⟨_, I1.kIn _ _ hl, rfl⟩
  rw [m.trees]
  refine Calls.callWith_builtin rfl (Calls.evalArgs_plain (Calls.spliced_cons (thn (he.run pins s1 σ H1 _ I1 q1) fun iv s2 ⟨y, H2, I2, ry, q2⟩ =>
    Calls.spliced_cons (thn (hf.run pins s2 σ H2 _ I2 q2) fun fv s3 ⟨z, H3, I3, rz, t, ey, q3⟩ => Calls.spliced_nil ?_))))
  subst ey
  obtain ⟨k, rfl⟩ := (show ∃ k, iv = Value.str t k from ry)
  have hm3 := PySem.W.mapOf_K (prog := X.prog) (w := X.w) I3.kIn hl hk
  refine call_meetsIn PySem.F.slot_dict_get hm3.typeIs PySem.F.entry_dict_get (PySem.F.args_dict_get_3 _ _ _) (meets_dict_get_default (strKind X.prog X.w) a (strKind_is X.prog X.w t k) low fv) ⟨_, hm3, ⟨_, H3, I3.tok _, ?_, q3⟩⟩
  have hr := find_lit hp t
  have e : findBy Value.isStrOf es t = (es.toList.find? fun e => Value.isStrOf t e.key).map (·.val) := by
    obtain ⟨l⟩ := es
    unfold findBy
    rw [List.find?_toArray]
  rw [e]
  exact hr.getD rz
end
end Ld
set_option Elab.async false
set_option linter.all false
set_option maxRecDepth 100000
set_option maxHeartbeats 4000000
namespace K65
open PySem L2 Ld GxR Gx Sg
/-! the program's side: what a hand may do -/
def spWhatP : Sp := fun vs H Q _ => ∃ (v : V) (d : PyData), vs = [v] ∧ Da H v d ∧ d.weight + 10 ≤ 20000 ∧ ∀ H', Same H H' → Q (.bl (whatD d)) H'
abbrev s_is_worded : Stmt := topS 24
abbrev N_is_worded : List Str := ["thing"]
theorem sc_is_worded : FnScope N_is_worded ["thing"] (defScope s_is_worded) := ⟨rfl, rfl, rfl, by decide +kernel, rfl, by decide +kernel, by decide +kernel⟩
abbrev s_is_what : Stmt := topS 25
abbrev N_is_what : List Str := ["thing", "_", "saying", "cost", "premises"]
theorem sc_is_what : FnScope N_is_what ["thing"] (defScope s_is_what) := ⟨rfl, rfl, rfl, by decide +kernel, rfl, by decide +kernel, by decide +kernel⟩
def partsP : List (Str × Int) := [("vouch", 2), ("withdraw", 2), ("lean", 4), ("drop", 2), ("join", 2), ("part", 2), ("hear", 3)]
def wordedR (t : Str) (r : List PyData) : Bool := decide (((r.length + 1 : Nat) : Int) = (lookI partsP t).getD 0)
def wordedD : PyData → Bool
  | .tuple (.str t :: r) => wordedR t r
  | _ => false
theorem look_cases (t : Str) : (t ∈ fourW ∧ lookI partsP t = some 2) ∨ (t = "drop" ∧ lookI partsP t = some 2) ∨ (t = "hear" ∧ lookI partsP t = some 3) ∨ (t = "lean" ∧ lookI partsP t = some 4) ∨ (lookI partsP t = none ∧ t ∉ fourW ∧ t ≠ "drop" ∧ t ≠ "hear" ∧ t ≠ "lean") := by
  by_cases c1 : t = "vouch"
  · subst c1; exact .inl ⟨by decide, by decide⟩
  by_cases c2 : t = "withdraw"
  · subst c2; exact .inl ⟨by decide, by decide⟩
  by_cases c3 : t = "join"
  · subst c3; exact .inl ⟨by decide, by decide⟩
  by_cases c4 : t = "part"
  · subst c4; exact .inl ⟨by decide, by decide⟩
  by_cases c5 : t = "drop"
  · subst c5; exact .inr (.inl ⟨rfl, by decide⟩)
  by_cases c6 : t = "hear"
  · subst c6; exact .inr (.inr (.inl ⟨rfl, by decide⟩))
  by_cases c7 : t = "lean"
  · subst c7; exact .inr (.inr (.inr (.inl ⟨rfl, by decide⟩)))
  refine .inr (.inr (.inr (.inr ⟨?_, ?_, c5, c6, c7⟩)))
  · unfold partsP
    simp only [lookI]
    rw [if_neg (Ne.symm c1), if_neg (Ne.symm c2), if_neg (Ne.symm c7), if_neg (Ne.symm c5), if_neg (Ne.symm c3), if_neg (Ne.symm c4), if_neg (Ne.symm c6)]
  · unfold fourW
    simp [c1, c2, c3, c4]
theorem worded_cases {t : Str} {r : List PyData} (h : wordedR t r = true) : (t ∈ fourW ∧ r.length = 1) ∨ (t = "drop" ∧ r.length = 1) ∨ (t = "hear" ∧ r.length = 2) ∨ (t = "lean" ∧ r.length = 3) := by
  have h := of_decide_eq_true h
  rcases look_cases t with ⟨c, e⟩ | ⟨c, e⟩ | ⟨c, e⟩ | ⟨c, e⟩ | ⟨e, _⟩
  all_goals (rw [e] at h; simp only [Option.getD_some, Option.getD_none] at h)
  · exact .inl ⟨c, by omega⟩
  · exact .inr (.inl ⟨c, by omega⟩)
  · exact .inr (.inr (.inl ⟨c, by omega⟩))
  · exact .inr (.inr (.inr ⟨c, by omega⟩))
  · omega
theorem unworded {t : Str} {r : List PyData} (h : wordedR t r = false) : whatR t r = false := by
  have h := of_decide_eq_false h
  unfold whatR
  rcases look_cases t with ⟨c, e⟩ | ⟨c, e⟩ | ⟨c, e⟩ | ⟨c, e⟩ | ⟨e, c1, c2, c3, c4⟩
  · rw [e] at h
    simp only [Option.getD_some] at h
    rw [if_pos c]
    exact just1_no (by omega)
  · rw [e] at h
    simp only [Option.getD_some] at h
    subst c
    rw [if_neg (by decide), if_pos rfl]
    exact just1_no (by omega)
  · rw [e] at h
    simp only [Option.getD_some] at h
    subst c
    rw [if_neg (by decide), if_neg (by decide), if_pos rfl]
    exact just2_no (by omega)
  · rw [e] at h
    simp only [Option.getD_some] at h
    subst c
    rw [if_neg (by decide), if_neg (by decide), if_neg (by decide), just3_no (by omega), Bool.and_false]
  · rw [if_neg c1, if_neg c2, if_neg c3, decide_eq_false c4, Bool.false_and]
theorem unworded_d {d : PyData} (h : wordedD d = false) : whatD d = false := by
  unfold whatD
  split
  · exact unworded h
  · rfl
theorem worded_of {d : PyData} (h : wordedD d = true) : ∃ t r, d = .tuple (.str t :: r) ∧ wordedR t r = true := by
  unfold wordedD at h
  split at h
  · exact ⟨_, _, rfl, h⟩
  · cases h
theorem rule_a (r : List PyData) : ruleD (.tuple (.str "a" :: r)) = ruleD (.tuple (.str "an" :: r)) := by
  unfold ruleD
  split
  · rename_i e
    cases e
    have e1 : nameD (.str "a") = true := by decide +kernel
    have e2 : nameD (.str "an") = true := by decide +kernel
    simp only [e1, e2]
  · rename_i hn
    split
    · rename_i e
      cases e
      exact absurd rfl (hn _ _ _ _)
    · rfl
def spWorded : Sp := fun vs H Q _ => ∃ (v : V) (d : PyData), vs = [v] ∧ Da H v d ∧ Q (.bl (wordedD d)) H
section
variable {P : Program} {w : World} {K : PySem.W.Frag} {mg : Str → Option Value} {base : Heap}
theorem ok_is_worded {f aP : Addr} {fd : FuncData} (F : Fun K "is_worded" "is_worded" s_is_worded f fd) (g_PARTS : mg "PARTS" = some (.ref aP)) (kp : KPairs K w aP partsP)
    (z_type : mg "type" = none) (z_tuple : mg "tuple" = none) (z_str : mg "str" = none) (z_len : mg "len" = none) : FnOk P w K mg base CX0 1 f fd ["thing"] spWorded := by
  refine F.ok sc_is_worded (fun vs H Q E h => ?_) (fun cdv A outer s H vs Q E hr h => ?_)
  · obtain ⟨v, d, rfl, _⟩ := h
    rfl
  · obtain ⟨v, d, rfl, hd, q⟩ := h
    have hu1 := hu_of hr
    refine ⟨_, (pss_cons (ps_if (PW.pt (pw_or (pt_cmpR (op_neTy hu1) (pe_callTy call_type1 (by rfl) z_type (by decide +kernel) (pa_cons (pv 0) pa_nil)) (pe_bltn (v := .ty "tuple") (by rfl) z_tuple (by decide +kernel) rfl) (nomark _)) (pw_or (pt_cmpR op_eq (pe_callB (call_len_seq) (by rfl) z_len (by decide +kernel) (pa_cons (pv 0) pa_nil)) pe_int (nomark _)) (pw_or1 (pt_cmpR (op_neTy hu1) (pe_callTy call_type1 (by rfl) z_type (by decide +kernel) (pa_cons (pe_ix ix_tup (pv 0) pe_int (fun _ _ => rfl)) pa_nil)) (pe_bltn (v := .ty "str") (by rfl) z_str (by decide +kernel) rfl) (nomark _)))))) (pss_one (ps_ret pe_bl)) pss_nil)
  (pss_one (ps_ret (pe_cmpR op_eq (pe_callB (call_len_seq) (by rfl) z_len (by decide +kernel) (pa_cons (pv 0) pa_nil)) (pe_kget2 (pe_glob (v := .ref aP) (by rfl) g_PARTS rfl) (pe_ix ix_tup (pv 0) pe_int (fun _ _ => rfl)) pe_int ⟨rfl, rfl, rfl, rfl⟩) (nomark _))))), ?_⟩
    obtain ⟨ht, hk⟩ := tyb_of (K := K) hd
    refine ⟨_, rfl, _, tyD d, rfl, ht, tyD d, "tuple", rfl, rfl, hk, .tuple, _, rfl, ?_⟩
    by_cases e : tyD d = "tuple"
    · obtain ⟨ds, rfl⟩ := tuple_of_ty e
      refine itF (by rw [decide_eq_true e]; rfl) ?_
      cases hd with
      | @tup r xs _ er hall =>
      refine ⟨_, rfl, r, xs, rfl, .inr (.inl (.inl er)), rfl, _, rfl, ?_⟩
      cases hall with
      | nil =>
        refine itY (by simp) ?_
        refine itT rfl ?_
        exact q
      | @cons v0 vr d0 dr h0 hrest =>
        refine itN (by simp; omega) ?_
        obtain ⟨ht0, hk0⟩ := tyb_of (K := K) h0
        refine ⟨_, rfl, r, _, 0, v0, rfl, rfl, .inl (.inl er), atI_nat (j := 0) rfl, _, tyD d0, rfl, ht0, tyD d0, "str", rfl, rfl, hk0, .str, _, rfl, ?_⟩
        by_cases c0 : tyD d0 = "str"
        · refine itN (by rw [decide_eq_true c0]; decide) ?_
          obtain ⟨t, rfl⟩ := str_of_ty c0
          cases h0
          refine ⟨_, rfl, r, _, rfl, .inr (.inl (.inl er)), aP, partsP, rfl, kp, ?_⟩
          refine ⟨_, rfl, r, _, 0, .str t, rfl, rfl, .inl (.inl er), atI_nat (j := 0) rfl, t, rfl, ?_⟩
          have ln : vr.length = dr.length := hrest.len
          have e3 : (((lookI partsP t).map V.int).getD (.int 0)) = .int ((lookI partsP t).getD 0) := by cases lookI partsP t <;> rfl
          rw [e3]
          refine ⟨rfl, ?_⟩
          have e4 : decide (V.int (((V.str t :: vr).length : Nat) : Int) = V.int ((lookI partsP t).getD 0)) = wordedD (.tuple (.str t :: dr)) := by
            show _ = decide (((dr.length + 1 : Nat) : Int) = _)
            rw [List.length_cons, ln]
            simp only [V.int.injEq]
          show Q (.bl (decide (V.int (((V.str t :: vr).length : Nat) : Int) = V.int ((lookI partsP t).getD 0)))) H
          rw [e4]
          exact q
        · refine itY (by rw [decide_eq_false c0]; rfl) ?_
          have eq : wordedD (.tuple (d0 :: dr)) = false := by
            cases d0 with
            | str x => exact absurd rfl c0
            | _ => rfl
          rw [eq] at q
          exact q
    · refine itT (by rw [decide_eq_false e]; rfl) ?_
      refine itT rfl ?_
      have eq : wordedD d = false := by
        cases d with
        | tuple x => exact absurd rfl e
        | _ => rfl
      rw [eq] at q
      exact q
theorem ok_is_what {f fN fW fL fR fO : Addr} {fd fdN fdW fdL fdR fdO : FuncData} (F : Fun K "is_what" "is_what" s_is_what f fd) (G_is_name : FnOk P w K mg base CX0 2 fN fdN ["thing"] spNameE) (g_is_name : mg "is_name" = some (.ref fN)) (k_is_name : PySem.W.keepIn K (.ref fN) = true) (b_is_name : Binds K fdN ["thing"] [])
    (G_is_whole : FnOk P w K mg base CX0 1 fW fdW ["thing"] spWhole) (g_is_whole : mg "is_whole" = some (.ref fW)) (k_is_whole : PySem.W.keepIn K (.ref fW) = true) (b_is_whole : Binds K fdW ["thing"] [])
    (G_is_letter : FnOk P w K mg base CX0 3 fL fdL ["thing"] spLetter) (g_is_letter : mg "is_letter" = some (.ref fL)) (k_is_letter : PySem.W.keepIn K (.ref fL) = true) (b_is_letter : Binds K fdL ["thing"] [])
    (G_is_rule : FnOk P w K mg base CX0 8 fR fdR ["thing"] spRuleP) (g_is_rule : mg "is_rule" = some (.ref fR)) (k_is_rule : PySem.W.keepIn K (.ref fR) = true) (b_is_rule : Binds K fdR ["thing"] [])
    (G_is_worded : FnOk P w K mg base CX0 1 fO fdO ["thing"] spWorded) (g_is_worded : mg "is_worded" = some (.ref fO)) (k_is_worded : PySem.W.keepIn K (.ref fO) = true) (b_is_worded : Binds K fdO ["thing"] []) : FnOk P w K mg base CX0 9 f fd ["thing"] spWhatP := by
  refine F.ok sc_is_what (fun vs H Q E h => ?_) (fun cdv A outer s H vs Q E hr h => ?_)
  · obtain ⟨v, d, rfl, _⟩ := h
    rfl
  · obtain ⟨v, d, rfl, hd, hw, q⟩ := h
    have hu1 := hu_of hr
    refine ⟨_, (pss_cons (ps_if (pt_not (pt_val (pe_call G_is_worded (hr.mono (by decide)) (by rfl) g_is_worded k_is_worded b_is_worded .nil pass0 (pa_cons (pv 0) pa_nil)))) (pss_one (ps_ret pe_bl)) pss_nil)
  (pss_cons (ps_if (pt_cmpR op_eq (pe_ix ix_tup (pv 0) pe_int (fun _ _ => rfl)) pe_str (nomark _)) (pss_one (ps_ret (pe_and (pe_call G_is_name (hr.mono (by decide)) (by rfl) g_is_name k_is_name b_is_name .nil pass0 (pa_cons (pe_ix ix_tup (pv 0) pe_int (fun _ _ => rfl)) pa_nil)) (pe_one (pe_call G_is_letter (hr.mono (by decide)) (by rfl) g_is_letter k_is_letter b_is_letter .nil pass0 (pa_cons (pe_ix ix_tup (pv 0) pe_int (fun _ _ => rfl)) pa_nil)))))) pss_nil)
  (pss_cons (ps_if (pt_cmpR op_eq (pe_ix ix_tup (pv 0) pe_int (fun _ _ => rfl)) pe_str (nomark _)) (pss_cons (ps_asg (pv 0) (pg_tup (by rfl) (pgs_cons (pg_name (i := 1) sc_is_what.nd rfl (Or.inl rfl)) (pgs_cons (pg_name (i := 2) sc_is_what.nd rfl (Or.inl rfl)) (pgs_cons (pg_name (i := 3) sc_is_what.nd rfl (Or.inl rfl)) (pgs_cons (pg_name (i := 4) sc_is_what.nd rfl (Or.inl rfl)) pgs_nil))))))
    (pss_one (ps_ret (pe_call G_is_rule (hr.mono (by decide)) (by rfl) g_is_rule k_is_rule b_is_rule .nil pass0 (pa_cons (pe_tup (pa_cons pe_str (pa_cons (pv 2) (pa_cons (pv 3) (pa_cons (pv 4) pa_nil))))) pa_nil))))) pss_nil)
  (pss_cons (ps_if (pt_cmpR op_eq (pe_ix ix_tup (pv 0) pe_int (fun _ _ => rfl)) pe_str (nomark _)) (pss_one (ps_ret (pe_and (pe_call G_is_whole (hr.mono (by decide)) (by rfl) g_is_whole k_is_whole b_is_whole .nil pass0 (pa_cons (pe_ix ix_tup (pv 0) pe_int (fun _ _ => rfl)) pa_nil)) (pe_one (pe_cmpR op_ge (pe_ix ix_tup (pv 0) pe_int (fun _ _ => rfl)) pe_int (nomark _)))))) pss_nil)
  (pss_one (ps_ret (pe_call G_is_name (hr.mono (by decide)) (by rfl) g_is_name k_is_name b_is_name .nil pass0 (pa_cons (pe_ix ix_tup (pv 0) pe_int (fun _ _ => rfl)) pa_nil)))))))), ?_⟩
    refine ⟨_, rfl, v, d, rfl, hd, ⟨_, rfl, ?_⟩⟩
    by_cases hwd : wordedD d = true
    · refine itN (by rw [hwd]; decide) ?_
      obtain ⟨t, dr, rfl, hwr⟩ := worded_of hwd
      cases hd with
      | @tup r xs _ er hall =>
      cases hall with
      | @cons v0 vr _ _ h0 hrest =>
      cases h0
      have hww : PyData.weightAll (.str t :: dr) + 10 ≤ 20000 := hw
      have wt : ∀ {e : PyData}, e ∈ .str t :: dr → e.weight ≤ 20000 := fun {e} he => by
        have := wAll_mem he
        omega
      have eW : whatD (.tuple (.str t :: dr)) = whatR t dr := rfl
      rw [eW] at q
      unfold whatR at q
      refine ⟨_, rfl, r, _, 0, .str t, rfl, rfl, .inl (.inl er), atI_nat (j := 0) rfl, rfl, _, rfl, ?_⟩
      rcases worded_cases hwr with ⟨c, l1⟩ | ⟨c, l1⟩ | ⟨c, l1⟩ | ⟨c, l1⟩
      · -- four words of one name
        have cd : t ≠ "drop" := fun z => by subst z; exact absurd c (by decide)
        have ch : t ≠ "hear" := fun z => by subst z; exact absurd c (by decide)
        have cl : t ≠ "lean" := fun z => by subst z; exact absurd c (by decide)
        rw [if_pos c] at q
        refine itN (by simpa using ch) ?_
        refine ⟨_, rfl, r, _, 0, .str t, rfl, rfl, .inl (.inl er), atI_nat (j := 0) rfl, rfl, _, rfl, ?_⟩
        refine itN (by simpa using cl) ?_
        refine ⟨_, rfl, r, _, 0, .str t, rfl, rfl, .inl (.inl er), atI_nat (j := 0) rfl, rfl, _, rfl, ?_⟩
        refine itN (by simpa using cd) ?_
        obtain ⟨u, e0, eu, ed, hu⟩ := one_of hrest (by rw [hrest.len]; exact l1)
        subst eu
        subst ed
        exact ⟨_, rfl, r, _, 1, u, rfl, rfl, .inl (.inl er), atI_nat (j := 1) rfl, u, e0, rfl, hu, wt (by simp), q H (Same.refl H)⟩
      · subst c
        rw [if_neg (by decide), if_pos rfl] at q
        refine itN (by decide) ?_
        refine ⟨_, rfl, r, _, 0, .str "drop", rfl, rfl, .inl (.inl er), atI_nat (j := 0) rfl, rfl, _, rfl, ?_⟩
        refine itN (by decide) ?_
        refine ⟨_, rfl, r, _, 0, .str "drop", rfl, rfl, .inl (.inl er), atI_nat (j := 0) rfl, rfl, _, rfl, ?_⟩
        refine itY (by decide) ?_
        obtain ⟨u, e0, eu, ed, hu⟩ := one_of hrest (by rw [hrest.len]; exact l1)
        subst eu
        subst ed
        refine ⟨_, rfl, r, _, 1, u, rfl, rfl, .inl (.inl er), atI_nat (j := 1) rfl, u, e0, rfl, hu, _, rfl, ?_⟩
        have q := q H (Same.refl H)
        by_cases c1 : wholeD e0 = true
        · refine itY c1 ?_
          obtain ⟨i, rfl⟩ := whole_of c1
          cases hu
          exact ⟨_, rfl, r, _, 1, .int i, rfl, rfl, .inl (.inl er), atI_nat (j := 1) rfl, i, 0, rfl, rfl, q⟩
        · refine itN c1 ?_
          rw [Bool.not_eq_true] at c1
          rw [show just1 nonneg [e0] = false from match_nowhole c1] at q
          exact q
      · subst c
        rw [if_neg (by decide), if_neg (by decide), if_pos rfl] at q
        refine itY (by decide) ?_
        obtain ⟨u0, u1, e0, e1, eu, ed, hu0, hu1⟩ := two_of hrest (by rw [hrest.len]; exact l1)
        subst eu
        subst ed
        refine ⟨_, rfl, r, _, 1, u0, rfl, rfl, .inl (.inl er), atI_nat (j := 1) rfl, u0, e0, rfl, hu0, wt (by simp), ⟨_, rfl, ?_⟩⟩
        have ej : just2 nameD letterD [e0, e1] = (nameD e0 && letterD e1) := rfl
        rw [ej] at q
        by_cases c1 : nameD e0 = true
        · refine itY c1 ?_
          rw [c1, Bool.true_and] at q
          exact ⟨_, rfl, r, _, 2, u1, rfl, rfl, .inl (.inl er), atI_nat (j := 2) rfl, u1, e1, rfl, hu1, wt (by simp), fun H3 g3 => q H3 g3⟩
        · refine itN c1 ?_
          rw [Bool.not_eq_true] at c1
          rw [c1, Bool.false_and] at q
          exact q H (Same.refl H)
      · subst c
        rw [if_neg (by decide), if_neg (by decide), if_neg (by decide), decide_eq_true rfl, Bool.true_and] at q
        refine itN (by decide) ?_
        refine ⟨_, rfl, r, _, 0, .str "lean", rfl, rfl, .inl (.inl er), atI_nat (j := 0) rfl, rfl, _, rfl, ?_⟩
        refine itY (by decide) ?_
        obtain ⟨u0, u1, u2, e0, e1, e2, eu, ed, hu0, hu1, hu2⟩ := three_of hrest (by rw [hrest.len]; exact l1)
        subst eu
        subst ed
        have ej : just3 [e0, e1, e2] = ruleD (.tuple [.str "a", e0, e1, e2]) := show ruleD (.tuple (.str "an" :: [e0, e1, e2])) = ruleD (.tuple (.str "a" :: [e0, e1, e2])) from (rule_a _).symm
        rw [ej] at q
        refine ⟨_, rfl, r, _, rfl, .inl (.inl er), rfl, _, _, rfl, _, _, rfl, _, _, rfl, _, _, rfl, rfl, ?_⟩
        refine ⟨_, rfl, _, rfl, _, rfl, show 4 ≤ sizeLine by decide, fun p4 n4 => ?_⟩
        obtain ⟨H4, g4, e4, hq4⟩ := newH n4 (o := _)
        rw [hq4]
        refine ⟨.ref p4, .tuple [.str "a", e0, e1, e2], rfl, .tup e4 (.cons (.str _) (.cons (Same.da g4 hu0) (.cons (Same.da g4 hu1) (.cons (Same.da g4 hu2) .nil)))), ?_, fun H5 g5 => q H5 (g4.trans g5)⟩
        simp only [PyData.weight, PyData.weightAll] at hww ⊢
        have : (Str.ofString "a").cps.size = 1 := by decide
        omega
    · rw [Bool.not_eq_true] at hwd
      refine itY (by rw [hwd]; rfl) ?_
      rw [unworded_d hwd] at q
      exact q H (Same.refl H)
end
end K65
set_option Elab.async false
set_option linter.all false
set_option maxRecDepth 100000
set_option maxHeartbeats 4000000
namespace K65
open PySem L2 Ld GxR Gx
abbrev s_number_in : Stmt := topS 7
abbrev N_number_in : List Str := ["word", "number", "at", "part"]
theorem sc_number_in : FnScope N_number_in ["word"] (defScope s_number_in) := ⟨rfl, rfl, rfl, by decide +kernel, rfl, by decide +kernel, by decide +kernel⟩
def spNumP : Sp := fun vs H Q _ => ∃ w : Str, vs = [.str w] ∧ w.length ≤ 2000 ∧ Q (if isNum w = true then .int (numV w) else .non) H
theorem range64 : ∀ L : Nat, L < 2001 → Builtin.Range.small 0 (L : Int) 64 = true ∧ Builtin.Range.rangeSize 0 (L : Int) 64 = (((L + 63) / 64 : Nat) : Int) := by decide +kernel
theorem cut_at (x : Str) {i : Nat} (h : i ≤ x.length) : (cutS x (some ((i : Nat) : Int)) (some (((i : Nat) : Int) + 64))).cps.toList = (x.cps.toList.drop i).take 64 := by
  show ((x.cps.toList.drop (HT.sIx x.length 0 (some (i : Int)))).take (HT.sIx x.length x.length (some ((i : Int) + 64)) - HT.sIx x.length 0 (some (i : Int)))) = _
  rw [show ((i : Int) + 64) = ((i + 64 : Nat) : Int) by omega, HT.sIx_nat, HT.sIx_nat, Nat.min_eq_left h]
  rw [List.take_eq_take_iff, List.length_drop, ← len_cps]
  omega
theorem by_one {G Cont Pre : Prop} (use : (Pre → Cont) → G) (rest : Pre → Cont) : G := use rest
section
variable {P : Program} {w : World} {K : PySem.W.Frag} {mg : Str → Option Value} {base : Heap}
theorem ok_number_in {f : Addr} {fd : FuncData} (F : Fun K "number_in" "number_in" s_number_in f fd) {tA : Tok} (g_AT_ONCE : mg "AT_ONCE" = some (.int 64 tA)) (z_len : mg "len" = none) (z_range : mg "range" = none) (z_int : mg "int" = none) : FnOk P w K mg base CX0 1 f fd ["word"] spNumP := by
  refine F.ok sc_number_in (fun vs H Q E h => ?_) (fun cdv A outer s H vs Q E hr h => ?_)
  · obtain ⟨x, rfl, _⟩ := h
    rfl
  · obtain ⟨x, rfl, hl, q⟩ := h
    refine ⟨_, (pss_cons (ps_if (PW.pt (pw_or (pt_not (pt_val (pe_m0 PySem.F.slot_str_isascii PySem.F.type_str_isascii mt_isascii (pv 0)))) (pw_or (pt_not (pt_val (pe_m0 PySem.F.slot_str_isdigit PySem.F.type_str_isdigit mt_isdigit (pv 0)))) (pw_or1 (PW.pt (pw_and (pt_val (pe_m1 PySem.F.slot_str_startswith PySem.F.type_str_startswith mt_startswith (pv 0) pe_str)) (pw_and1 (pt_cmpR op_ne (pv 0) pe_str (nomark _))))))))) (pss_one (ps_ret pe_non)) pss_nil)
  (pss_cons (ps_set (i := 1) sc_number_in.nd rfl (Or.inl rfl) pe_int)
  (pss_cons (ps_for PassesOwn.never rfl (pi_range3 (by rfl) z_range (pa_cons pe_int (pa_cons (pe_callB (call_len_str) (by rfl) z_len (by decide +kernel) (pa_cons (pv 0) pa_nil)) (pa_cons (pe_glob (v := .int 64) (by rfl) g_AT_ONCE ⟨tA, rfl⟩) pa_nil)))) (pg_name (i := 2) sc_number_in.nd rfl (Or.inl rfl))
  (pss_cons (ps_set (i := 3) sc_number_in.nd rfl (Or.inl rfl) (pe_slice sl_str (pv 0) (po_some (pv 2)) (po_some (pe_op op_add (pv 2) (pe_glob (v := .int 64) (by rfl) g_AT_ONCE ⟨tA, rfl⟩)))))
  (pss_one (ps_set (i := 1) sc_number_in.nd rfl (Or.inl rfl) (pe_op op_add (pe_op op_mulW (pv 1) (pe_op op_powW pe_int (pe_op op_mod (pe_callB (call_len_str) (by rfl) z_len (by decide +kernel) (pa_cons (pv 3) pa_nil)) pe_int))) (pe_callTy call_int_str (by rfl) z_int (by decide +kernel) (pa_cons (pv 3) pa_nil)))))))
  (pss_one (ps_ret (pv 1)))))), ?_⟩
    have hn : isNum x = (Txt.isascii x && Txt.isdigit x && (decide (x = "0") || !Txt.startswith x "0")) := by
      rw [digits_eq, starts0]
      rfl
    refine ⟨_, rfl, ⟨x, rfl⟩, x, rfl, rfl, trivial, _, rfl, ?_⟩
    by_cases h1 : Txt.isascii x = true
    rotate_left
    · refine itY (by simpa using h1) ?_
      rw [if_neg (by rw [hn]; simp [h1])] at q
      exact q
    refine itN (by simp [h1]) ?_
    refine ⟨_, rfl, ⟨x, rfl⟩, x, rfl, rfl, trivial, _, rfl, ?_⟩
    by_cases h2 : Txt.isdigit x = true
    rotate_left
    · refine itY (by simpa using h2) ?_
      rw [if_neg (by rw [hn]; simp [h2])] at q
      exact q
    refine itN (by simp [h2]) ?_
    have hf : isFig x = true := by rw [← digits_eq, h1, h2]; rfl
    refine ⟨_, rfl, ⟨x, rfl⟩, x, "0", rfl, rfl, _, rfl, ?_⟩
    refine' by_one (Cont := _) (Pre := isNum x = true) (fun go => ?_) ?_
    rotate_left
    · by_cases h3 : Txt.startswith x "0" = true
      · refine itY h3 ?_
        refine ⟨_, rfl, rfl, _, rfl, ?_⟩
        by_cases h4 : x = "0"
        · refine itN (by simp [h4]) ?_
          exact go (by rw [hn, h1, h2, h4]; simp)
        · refine itY (by simpa using h4) ?_
          rw [if_neg (by rw [hn, h3]; simp [h4])] at q
          exact q
      · refine itN h3 ?_
        exact go (by rw [hn, h1, h2]; simp [h3])
    · intro hnum
      rw [if_pos hnum] at q
      have hlx : x.length < 2001 := by omega
      obtain ⟨r1, r2⟩ := range64 x.length hlx
      refine ⟨_, rfl, x, rfl, small20 (by omega), 0, (x.length : Int), 64, (x.length + 63) / 64, rfl, ⟨by decide, by decide, r1, r2⟩, ?_⟩
      refine for_rangeC (lo := 0) (c := 64) (n := (x.length + 63) / 64) (fun i σ H' => ∃ (s2 s3 : Option V), σ = [some (.str x), some (.int ((NumText.digitsVal (x.cps.toList.take (64 * i)) : Nat) : Int)), s2, s3] ∧ H' = H) ⟨_, _, rfl, rfl⟩ (fun i σ H' hi hP => ?_) fun σ H' hP => ?_
      · obtain ⟨s2, s3, rfl, rfl⟩ := hP
        have hi64 : 64 * i < x.length := by omega
        have hcut := cut_at x (i := 64 * i) (by omega)
        have e0 : (0 : Int) + ((i : Nat) : Int) * 64 = ((64 * i : Nat) : Int) := by omega
        rw [e0]
        generalize hy : cutS x (some ((64 * i : Nat) : Int)) (some (((64 * i : Nat) : Int) + 64)) = y at hcut
        have hyl : y.length = min 64 (x.length - 64 * i) := by
          rw [len_cps, hcut, List.length_take, List.length_drop, ← len_cps]
        have hyf : isFig y = true := by
          unfold isFig
          rw [Bool.and_eq_true]
          refine ⟨decide_eq_true (by omega), List.all_eq_true.mpr fun c hc => ?_⟩
          rw [hcut] at hc
          have hm := List.mem_of_mem_drop (List.mem_of_mem_take hc)
          unfold isFig at hf
          rw [Bool.and_eq_true] at hf
          exact List.all_eq_true.mp hf.2 c hm
        refine ⟨_, rfl, _, rfl, _, rfl, _, rfl, _, _, rfl, rfl, _, rfl, x, rfl, small20 (by omega), ?_⟩
        rw [hy]
        refine ⟨_, rfl, _, rfl, y, rfl, small20 (by omega), _, _, rfl, rfl, (by show (0 : Int) < 65; decide), _, _, rfl, rfl, ⟨by omega, by omega, by decide +kernel⟩, _, _, rfl, rfl, ?_, ?_⟩
        · obtain ⟨d1, d2⟩ := fig_all hf
          have b1 := val_log (b := x.cps.toList.take (64 * i)) (fun c hc => d1 c (List.mem_of_mem_take hc)) (by rw [List.length_take, ← len_cps]; omega)
          have b2 : ((10 : Int) ^ ((y.length : Int) % 65).toNat).natAbs.log2 < 1000 := by
            have e5 : ((y.length : Int) % 65).toNat = y.length := by omega
            rw [e5, Int.natAbs_pow]
            have h2 : (10 : Nat) ^ y.length ≤ 10 ^ 64 := Nat.pow_le_pow_right (by decide) (by omega)
            have h3 : (10 : Nat) ^ 64 < 2 ^ 999 := by decide +kernel
            exact Nat.lt_trans (PySem.Flt.log2_lt_of (k := 999) (by decide) (Nat.lt_of_le_of_lt h2 h3)) (by decide)
          show _ + _ < 1000000
          omega
        refine ⟨_, rfl, y, numV y, rfl, int_fig hyf (by omega), by omega, _, _, rfl, rfl, ?_⟩
        have ev : ((NumText.digitsVal (x.cps.toList.take (64 * i)) : Nat) : Int) * 10 ^ ((y.length : Int) % 65).toNat + numV y = ((NumText.digitsVal (x.cps.toList.take (64 * (i + 1))) : Nat) : Int) := by
          have e5 : ((y.length : Int) % 65).toNat = y.cps.toList.length := by rw [← len_cps]; omega
          rw [show 64 * (i + 1) = 64 * i + 64 by omega, List.take_add, ← hcut, val_app, e5]
          unfold numV
          rw [Int.natCast_add, Int.natCast_mul, Int.natCast_pow]
          rfl
        refine ⟨some (.int ((64 * i : Nat) : Int)), some (.str y), ?_, rfl⟩
        show [some (V.str x), some (V.int (((NumText.digitsVal (x.cps.toList.take (64 * i)) : Nat) : Int) * 10 ^ ((y.length : Int) % 65).toNat + numV y)), _, _] = _
        rw [ev]
      · obtain ⟨s2, s3, rfl, rfl⟩ := hP
        have e1 : x.cps.toList.take (64 * ((x.length + 63) / 64)) = x.cps.toList := List.take_of_length_le (by rw [← len_cps]; omega)
        rw [e1]
        exact ⟨_, rfl, q⟩
end
end K65
set_option Elab.async false
set_option linter.all false
set_option maxRecDepth 100000
set_option maxHeartbeats 4000000
namespace K65
open PySem L2 Ld GxR Gx
/-! the law's side: a word's number -/
def figs : List Nat := ("0123456789" : Str).cps.toList
theorem figs_iff (c : Nat) : c ∈ figs ↔ figB c = true := by
  have e : figs = List.range' 48 10 := by decide +kernel
  rw [e, List.mem_range'_1]
  unfold figB
  rw [Bool.and_eq_true, decide_eq_true_eq, decide_eq_true_eq]
  omega
def spNumL : Sp := fun vs H Q _ => ∃ w : Str, vs = [.str w] ∧ w.length ≤ 600 ∧ ∀ H', Same H H' → Q (.int (if isNum w = true then numV w else -1)) H'
theorem odd_signs (l : List Nat) : (l.filter fun c => !decide (c ∈ figs)).isEmpty = l.all figB := by
  induction l with
  | nil => rfl
  | cons c l ih =>
    rw [List.filter_cons, List.all_cons]
    by_cases hm : c ∈ figs
    · rw [if_neg (by simp [hm]), ih, (figs_iff c).mp hm, Bool.true_and]
    · rw [if_pos (by simp [hm])]
      have hb : figB c = false := by
        rw [← Bool.not_eq_true]
        exact fun z => hm ((figs_iff c).mpr z)
      rw [hb, Bool.false_and]
      rfl
theorem str_nil (x : Str) : x = "" ↔ x.length = 0 := by
  constructor
  · rintro rfl
    rfl
  · intro h
    obtain ⟨L⟩ := x
    have : L.size = 0 := h
    rw [Array.size_eq_zero_iff.mp this]
    rfl
section
variable {P : Program} {w : World} {K : PySem.W.Frag} {mg : Str → Option Value} {base : Heap}
end
end K65
set_option Elab.async false
set_option linter.all false
set_option maxRecDepth 100000
set_option maxHeartbeats 4000000
namespace K65
open PySem L2 Ld GxR Gx
/-! texts cut at a sign -/
theorem pre1 {s c : Nat} {r : List Nat} : TL.pre [s] (c :: r) = decide (c = s) := by
  show ([c] == [s]) = _
  rw [Bool.eq_iff_iff]
  simp
theorem spl_ne {s : Nat} : ∀ (l acc : List Nat), TL.spl [s] 0 acc l ≠ []
  | [], acc => by
    rw [TL.spl_nil]
    simp
  | c :: r, acc => by
    by_cases h : c = s
    · rw [TL.spl_hit (by rw [pre1]; exact decide_eq_true h)]
      simp
    · rw [TL.spl_miss (by rw [pre1]; exact decide_eq_false h)]
      exact spl_ne r _
theorem spl_no {s : Nat} : ∀ (l acc : List Nat), s ∉ acc → ∀ p ∈ TL.spl [s] 0 acc l, s ∉ p
  | [], acc, ha, p, hp => by
    rw [TL.spl_nil, List.mem_singleton] at hp
    rw [hp]
    exact ha
  | c :: r, acc, ha, p, hp => by
    by_cases h : c = s
    · rw [TL.spl_hit (by rw [pre1]; exact decide_eq_true h)] at hp
      rcases List.mem_cons.mp hp with rfl | hp
      · exact ha
      · exact spl_no r [] (by simp) p hp
    · rw [TL.spl_miss (by rw [pre1]; exact decide_eq_false h)] at hp
      refine spl_no r _ ?_ p hp
      rw [List.mem_append, List.mem_singleton]
      rintro (z | z)
      · exact ha z
      · exact h z.symm
theorem tl_eq (x : Str) : TL.tl x = x.cps.toList := rfl
section
variable {y : Str} {s : Nat} (hy : TL.tl y = [s]) (hk : y.cps.all (· < 256) = true)
include hy hk
theorem cut_ne (x : Str) : Txt.split x y ≠ [] := by
  intro e
  have h := TL.split_spl x y (by rw [hy]; simp) (TL.kind_ok hk)
  rw [e, hy] at h
  exact spl_ne _ _ h.symm
theorem cut_no (x : Str) : ∀ p ∈ Txt.split x y, s ∉ TL.tl p := fun p hp => by
  have h := TL.split_spl x y (by rw [hy]; simp) (TL.kind_ok hk)
  rw [hy] at h
  exact spl_no _ [] (by simp) _ (by rw [← h]; exact List.mem_map_of_mem hp)
theorem cut_back {ps : List Str} (hne : ps ≠ []) (h : ∀ p ∈ ps, s ∉ TL.tl p) : Txt.split (Txt.join y ps) y = ps := TL.split_join (s := s) (S := []) hy hk hne h
end
theorem cut_mem {x y p : Str} (hp : p ∈ Txt.split x y) {c : Nat} (hc : c ∈ p.cps.toList) : c ∈ x.cps.toList := by
  have h := (PyProof.Rows.mem_join y c (Txt.split x y)).mpr (.inl ⟨p, hp, hc⟩)
  rw [StrLaws.join_split] at h
  exact h
theorem cut_weight (x y : Str) (hy : 1 ≤ y.length) : ((Txt.split x y).map (·.length)).sum + (Txt.split x y).length ≤ x.length + 1 := PyProof.Rows.split_weight x y hy
theorem le_sum : ∀ (l : List Nat) {n : Nat}, n ∈ l → n ≤ l.sum
  | m :: l, n, h => by
    rw [List.sum_cons]
    rcases List.mem_cons.mp h with rfl | h
    · omega
    · have := le_sum l h
      omega
theorem cut_len {x y p : Str} (hy : 1 ≤ y.length) (hp : p ∈ Txt.split x y) : p.length ≤ x.length := by
  have h := cut_weight x y hy
  have h1 : p.length ≤ ((Txt.split x y).map (·.length)).sum := le_sum _ (List.mem_map_of_mem hp)
  have h2 : 1 ≤ (Txt.split x y).length := List.length_pos_of_mem hp
  omega
abbrev blank : Str := " "
abbrev point : Str := "."
theorem blank_tl : TL.tl blank = [32] := by decide +kernel
theorem point_tl : TL.tl point = [46] := by decide +kernel
theorem blank_ok : blank.cps.all (· < 256) = true := by decide +kernel
theorem point_ok : point.cps.all (· < 256) = true := by decide +kernel
end K65
set_option Elab.async false
set_option linter.all false
set_option maxRecDepth 100000
set_option maxHeartbeats 4000000
namespace K65
open PySem L2 Ld GxR Gx
/-! figures of numbers, numbers of figures -/
def strI (n : Nat) : Str := Str.ofString (toString ((n : Nat) : Int))
theorem strI_tl (n : Nat) : (strI n).cps.toList = TL.numL n := TL.tl_num n
theorem numL_head : ∀ n : Nat, 1 ≤ n → ∃ c r, TL.numL n = c :: r ∧ 49 ≤ c := fun n => by
  induction n using Nat.strongRecOn with
  | _ n ih =>
    intro h
    by_cases h10 : n < 10
    · exact ⟨48 + n, [], TL.numL_lt h10, by omega⟩
    · obtain ⟨c, r, e, hc⟩ := ih (n / 10) (by omega) (by omega)
      exact ⟨c, r ++ [48 + n % 10], by rw [TL.numL_step (by omega), e]; rfl, hc⟩
theorem strI_num (n : Nat) : isNum (strI n) = true ∧ numV (strI n) = (n : Int) := by
  refine ⟨?_, ?_⟩
  · unfold isNum
    rw [Bool.and_eq_true]
    refine ⟨?_, ?_⟩
    · unfold isFig
      rw [Bool.and_eq_true, len_cps, strI_tl]
      refine ⟨decide_eq_true (List.length_pos_iff.mpr (TL.numL_ne n)), List.all_eq_true.mpr fun c hc => ?_⟩
      have := TL.numL_digits n c hc
      unfold figB
      rw [Bool.and_eq_true]
      exact ⟨decide_eq_true this.1, decide_eq_true this.2⟩
    · by_cases h : n = 0
      · subst h
        decide +kernel
      · obtain ⟨c, r, e, hc⟩ := numL_head n (by omega)
        have : lead0 (strI n) = false := by
          unfold lead0
          rw [strI_tl, e, List.head?_cons]
          exact decide_eq_false fun z => by cases z; omega
        rw [this]
        simp
  · unfold numV
    rw [strI_tl, TL.numL_val]
theorem numL_of {cs : List Nat} (h : NumText.AllDigits cs) (hne : cs ≠ []) (h0 : cs = [48] ∨ cs.head? ≠ some 48) : TL.numL (NumText.digitsVal cs) = cs := by
  have hl : cs.length = (cs.length - 1) + 1 := by
    have := List.length_pos_iff.mpr hne
    omega
  have hh : cs.length - 1 = 0 ∨ ∃ c r, cs = c :: r ∧ 49 ≤ c := by
    rcases h0 with h0 | h0
    · rw [h0]
      exact .inl rfl
    · match cs, hne with
      | c :: r, _ =>
        have hc := h.head
        refine .inr ⟨c, r, rfl, ?_⟩
        have : c ≠ 48 := fun z => h0 (by rw [z]; rfl)
        omega
  have e := NumText.toDigits_digitsVal (cs.length - 1) cs hl h hh
  unfold TL.numL
  rw [e, List.map_map]
  refine (List.map_congr_left fun c hc => ?_).trans (List.map_id _)
  have hd := h c hc
  have : c < 128 := by omega
  show (Char.ofNat c).toNat = c
  have all : ∀ c, c < 128 → (Char.ofNat c).toNat = c := by decide +kernel
  exact all c this
theorem num_cases {f : Str} (h : isNum f = true) : NumText.AllDigits f.cps.toList ∧ f.cps.toList ≠ [] ∧ (f.cps.toList = [48] ∨ f.cps.toList.head? ≠ some 48) := by
  unfold isNum at h
  rw [Bool.and_eq_true] at h
  obtain ⟨a, b⟩ := fig_all h.1
  refine ⟨a, b, ?_⟩
  rcases Bool.or_eq_true_iff.mp h.2 with q | q
  · rw [of_decide_eq_true q]
    exact .inl (by decide +kernel)
  · refine .inr fun z => ?_
    unfold lead0 at q
    rw [z] at q
    simp at q
theorem num_strI {f : Str} (h : isNum f = true) : strI (NumText.digitsVal f.cps.toList) = f := by
  obtain ⟨a, b, c⟩ := num_cases h
  refine TL.ext_tl ?_
  show (strI _).cps.toList = f.cps.toList
  rw [strI_tl, numL_of a b c]
/-- so many figures, noughts ahead -/
theorem zfill_tl (n : Nat) : (Txt.zfill (strI n) 64).cps.toList = List.replicate (64 - (TL.numL n).length) 48 ++ TL.numL n := by
  have hl : (strI n).length = (TL.numL n).length := by rw [len_cps, strI_tl]
  have hc : ∀ c, (strI n).cps[0]? = some c → 48 ≤ c ∧ c ≤ 57 := fun c h => by
    refine TL.numL_digits n c ?_
    rw [← strI_tl]
    rw [← Array.getElem?_toList] at h
    exact List.mem_of_getElem? h
  unfold Txt.zfill
  by_cases h : (64 : Int) ≤ (strI n).length
  · rw [if_pos h, strI_tl, show 64 - (TL.numL n).length = 0 by omega]
    rfl
  · rw [if_neg h]
    have e : PySem.zfilled (strI n) ((64 : Int).toNat - (strI n).length) = PySem.Builtin.Str.padded (strI n) ((64 : Int).toNat - (strI n).length) 0 48 := by
      unfold PySem.zfilled
      split
      · rename_i z
        have := hc _ z
        omega
      · rename_i z
        have := hc _ z
        omega
      · rfl
    rw [e]
    show (Array.replicate ((64 : Int).toNat - (strI n).length) 48 ++ (strI n).cps ++ Array.replicate 0 48).toList = _
    rw [Array.toList_append, Array.toList_append, strI_tl, hl]
    simp
theorem val_rep (k : Nat) (l : List Nat) : NumText.digitsVal (List.replicate k 48 ++ l) = NumText.digitsVal l := by
  induction k with
  | zero => rfl
  | succ k ih =>
    rw [List.replicate_succ, List.cons_append, NumText.digitsVal_zero]
    exact ih
theorem numL_split {n : Nat} (h : 10 ^ 64 ≤ n) : TL.numL n = TL.numL (n / 10 ^ 64) ++ (List.replicate (64 - (TL.numL (n % 10 ^ 64)).length) 48 ++ TL.numL (n % 10 ^ 64)) := by
  have hp : (0 : Nat) < 10 ^ 64 := by decide +kernel
  have hq : 1 ≤ n / 10 ^ 64 := Nat.div_pos h hp
  have hm : n % 10 ^ 64 < 10 ^ 64 := Nat.mod_lt _ hp
  have hl := TL.numL_len (k := 64) (by decide) hm
  obtain ⟨c, r, e, hc⟩ := numL_head _ hq
  generalize hx : n / 10 ^ 64 = q at *
  generalize hy : n % 10 ^ 64 = m at *
  have hn : n = q * 10 ^ 64 + m := by
    rw [← hx, ← hy, Nat.mul_comm]
    exact (Nat.div_add_mod n (10 ^ 64)).symm
  have hd : NumText.AllDigits (TL.numL q ++ (List.replicate (64 - (TL.numL m).length) 48 ++ TL.numL m)) := fun c hc => by
    rcases List.mem_append.mp hc with hc | hc
    · exact TL.numL_digits q c hc
    · rcases List.mem_append.mp hc with hc | hc
      · rw [(List.mem_replicate.mp hc).2]
        decide
      · exact TL.numL_digits m c hc
  have hv : NumText.digitsVal (TL.numL q ++ (List.replicate (64 - (TL.numL m).length) 48 ++ TL.numL m)) = n := by
    rw [val_app, val_rep, TL.numL_val, TL.numL_val, List.length_append, List.length_replicate, show 64 - (TL.numL m).length + (TL.numL m).length = 64 by omega, hn]
  have z := numL_of hd (by rw [e]; simp) (.inr (by rw [e]; simp; omega))
  rw [hv] at z
  exact z
end K65
set_option Elab.async false
set_option linter.all false
set_option maxRecDepth 100000
set_option maxHeartbeats 4000000
namespace K65
open PySem L2 Ld GxR Gx
/-! figures and words -/
abbrev s_figures_of : Stmt := topS 6
abbrev N_figures_of : List Str := ["number", "behind", "part"]
theorem sc_figures_of : FnScope N_figures_of ["number"] (defScope s_figures_of) := ⟨rfl, rfl, rfl, by decide +kernel, rfl, by decide +kernel, by decide +kernel⟩
abbrev s_place_words : Stmt := topS 27
abbrev N_place_words : List Str := ["place"]
theorem sc_place_words : FnScope N_place_words ["place"] (defScope s_place_words) := ⟨rfl, rfl, rfl, by decide +kernel, rfl, by decide +kernel, by decide +kernel⟩
/-- the number's figures -/
def spFigs : Sp := fun vs H Q _ => ∃ i : Nat, vs = [.int (i : Int)] ∧ i < 10 ^ 1920 ∧ ∀ H' : Hp, Same H H' → Q (.str (strI i)) H'
def placeT (x y : Str) : Str := Txt.join "." [x, y]
def spWords : Sp := fun vs H Q _ => ∃ (a : Addr) (x y : Str), vs = [.ref a] ∧ H a = some (.tup [.str x, .str y]) ∧ x.length ≤ 8 ∧ y.length ≤ 8 ∧ Q (.str (placeT x y)) H
/-- the pieces that stand behind, the last one first -/
def Pc (n m : Nat) (bs : List Str) : Prop := TL.numL n = TL.numL m ++ (bs.reverse.map fun b => b.cps.toList).flatten ∧ m * 10 ^ (64 * bs.length) ≤ n ∧ (∀ b ∈ bs, b.length = 64)
theorem Pc.step {n m : Nat} {bs : List Str} (h : Pc n m bs) (hm : 10 ^ 64 ≤ m) : Pc n (m / 10 ^ 64) (bs ++ [Txt.zfill (strI (m % 10 ^ 64)) 64]) := by
  obtain ⟨h1, h2, h3⟩ := h
  have hp : (0 : Nat) < 10 ^ 64 := by decide +kernel
  refine ⟨?_, ?_, fun b hb => ?_⟩
  · rw [h1, numL_split hm, List.reverse_append, List.map_append, List.flatten_append, ← zfill_tl]
    simp
  · refine Nat.le_trans ?_ h2
    rw [List.length_append, List.length_singleton, Nat.mul_add, Nat.pow_add, Nat.mul_comm (10 ^ (64 * bs.length)), ← Nat.mul_assoc]
    refine Nat.mul_le_mul_right _ ?_
    rw [Nat.mul_one]
    exact Nat.div_mul_le_self m (10 ^ 64)
  · rcases List.mem_append.mp hb with hb | hb
    · exact h3 b hb
    · rw [List.mem_singleton.mp hb, len_cps, zfill_tl, List.length_append, List.length_replicate]
      have := TL.numL_len (k := 64) (by decide) (Nat.mod_lt m hp)
      omega
theorem Pc.few {n m : Nat} {bs : List Str} (h : Pc n m bs) (hn : n < 10 ^ 1920) (hm : 1 ≤ m) : bs.length ≤ 29 := by
  obtain ⟨_, h2, _⟩ := h
  refine Nat.le_of_lt_succ (Nat.lt_of_not_le fun hb => ?_)
  have h3 : (10 : Nat) ^ (64 * 30) ≤ 10 ^ (64 * bs.length) := Nat.pow_le_pow_right (by decide) (Nat.mul_le_mul_left _ hb)
  have h4 : 10 ^ (64 * bs.length) ≤ m * 10 ^ (64 * bs.length) := Nat.le_mul_of_pos_left _ hm
  have h5 : (10 : Nat) ^ (64 * 30) = 10 ^ 1920 := rfl
  rw [h5] at h3
  exact absurd (Nat.lt_of_le_of_lt (Nat.le_trans h3 (Nat.le_trans h4 h2)) hn) (Nat.lt_irrefl _)
theorem sum_len64 : ∀ {ys : List Str}, (∀ y ∈ ys, y.length = 64) → (ys.map (·.length)).sum = 64 * ys.length
  | [], _ => rfl
  | y :: ys, h => by
    have h1 := h y List.mem_cons_self
    have h2 := sum_len64 (ys := ys) fun z hz => h z (List.mem_cons_of_mem _ hz)
    rw [List.map_cons, List.sum_cons, List.length_cons, Nat.mul_succ]
    omega
theorem joinL_nil : ∀ ls : List (List Nat), TL.joinL [] ls = ls.flatten
  | [] => rfl
  | [x] => by simp [TL.joinL]
  | x :: y :: r => by
    have ih := joinL_nil (y :: r)
    simp only [TL.joinL] at ih ⊢
    simp [ih]
theorem tl_join0 (ys : List Str) : (Txt.join "" ys).cps.toList = (ys.map fun y => y.cps.toList).flatten := by
  rw [tjoin]
  have h := TL.tl_join "" ys
  rw [show TL.tl ("" : Str) = [] from rfl, joinL_nil] at h
  exact h
theorem Pc.done {n m : Nat} {bs : List Str} (h : Pc n m bs) : Txt.join "" (strI m :: bs.reverse) = strI n := by
  refine TL.ext_tl ?_
  show (Txt.join "" (strI m :: bs.reverse)).cps.toList = (strI n).cps.toList
  rw [strI_tl, h.1, tl_join0, List.map_cons, List.flatten_cons, strI_tl]
section
variable {P : Program} {w : World} {K : PySem.W.Frag} {mg : Str → Option Value} {base : Heap}
theorem ok_figures_of {f : Addr} {fd : FuncData} (F : Fun K "figures_of" "figures_of" s_figures_of f fd) {tG tA : Tok} (g_GREAT : mg "GREAT" = some (.int (10 ^ 64) tG)) (g_AT_ONCE : mg "AT_ONCE" = some (.int 64 tA)) (z_str : mg "str" = none) (z_divmod : mg "divmod" = none) : FnOk P w K mg base CX0 1 f fd ["number"] spFigs := by
  refine F.ok sc_figures_of (fun vs H Q E h => ?_) (fun cdv A outer s H vs Q E hr h => ?_)
  · obtain ⟨i, rfl, _⟩ := h
    rfl
  · obtain ⟨n, rfl, hn, q⟩ := h
    refine ⟨_, (pss_cons (ps_set (i := 1) sc_figures_of.nd rfl (Or.inl rfl) (pe_lst pa_nil))
  (pss_cons (ps_while PassesOwn.never (pt_cmpR op_ge (pv 0) (pe_glob (v := .int (10 ^ 64)) (by rfl) g_GREAT ⟨tG, rfl⟩) (nomark _))
    (pss_cons (ps_asg (pe_callB call_divmodW (by rfl) z_divmod (by decide +kernel) (pa_cons (pv 0) (pa_cons (pe_glob (v := .int (10 ^ 64)) (by rfl) g_GREAT ⟨tG, rfl⟩) pa_nil))) (pg_tup (by rfl) (pgs_cons (pg_name (i := 0) sc_figures_of.nd rfl (Or.inl rfl)) (pgs_cons (pg_name (i := 2) sc_figures_of.nd rfl (Or.inl rfl)) pgs_nil))))
    (pss_one (ps_expr (pe_bm PySem.F.plainAttrs_list PySem.F.slot_list_append PySem.F.type_list_append mt_append (pv 1) (pa_cons (pe_m1 PySem.F.slot_str_zfill PySem.F.type_str_zfill mt_zfill (pe_callTy call_str_int (by rfl) z_str (by decide +kernel) (pa_cons (pv 2) pa_nil)) (pe_glob (v := .int 64) (by rfl) g_AT_ONCE ⟨tA, rfl⟩)) pa_nil))))))
  (pss_one (ps_ret (pe_join pe_str (pe_op op_cat (pe_lst (pa_cons (pe_callTy call_str_int (by rfl) z_str (by decide +kernel) (pa_cons (pv 0) pa_nil)) pa_nil)) (pe_revS (pv 1)))))))), ?_⟩
    refine ⟨small20 (Nat.le_of_ble_eq_true rfl), fun p1 n1 => ?_⟩
    obtain ⟨H1, g1, e1, hq1⟩ := newH n1 (o := _)
    rw [hq1]
    have hbig : ∀ m : Nat, m < 10 ^ 64 → ((m : Int)).natAbs.log2 < 1920 := fun m hm => by
      rw [Int.natAbs_natCast]
      exact Nat.lt_trans (PySem.Flt.log2_lt_of (k := 1000) (by decide) (Nat.lt_trans hm (by decide +kernel))) (by decide)
    refine ⟨fun k σ H' => ∃ (bs : List Str) (o2 : Option V), σ = [some (.int ((k : Nat) : Int)), some (.ref p1), o2] ∧ Pc n k bs ∧ bs.length ≤ 29 ∧ H' p1 = some (.lst (bs.map V.str)) ∧ Same H H', ⟨n, [], none, rfl, ⟨by simp, by simp, fun b hb => by cases hb⟩, Nat.zero_le _, e1, g1⟩, fun m σ H' hw => ?_⟩
    obtain ⟨bs, o2, rfl, hpc, hbl, eb, g⟩ := hw
    have hmn : m ≤ n := Nat.le_trans (Nat.le_mul_of_pos_right _ (Nat.pow_pos (by decide))) hpc.2.1
    refine ⟨_, rfl, _, _, rfl, rfl, _, rfl, ?_⟩
    have hc : ((10 : Int) ^ 64) = ((10 ^ 64 : Nat) : Int) := by rw [Int.natCast_pow]; rfl
    by_cases hm : 10 ^ 64 ≤ m
    · refine itY (by rw [decide_eq_true_eq, hc]; exact Int.ofNat_le.mpr hm) ?_
      have hq : 1 ≤ m / 10 ^ 64 := Nat.div_pos hm (by decide +kernel)
      have hpc' := hpc.step hm
      have hbl' := hpc'.few hn hq
      refine ⟨fun σ' H'' => ∃ (bs : List Str) (o2 : Option V), σ' = [some (.int ((m / 10 ^ 64 : Nat) : Int)), some (.ref p1), o2] ∧ Pc n (m / 10 ^ 64) bs ∧ bs.length ≤ 29 ∧ H'' p1 = some (.lst (bs.map V.str)) ∧ Same H H'', fun σ' H'' h => ⟨m / 10 ^ 64, Nat.div_lt_self (Nat.lt_of_lt_of_le (by decide +kernel) hm) (by decide +kernel), h⟩, ?_⟩
      refine ⟨_, rfl, (m : Int), (10 : Int) ^ 64, rfl, ?_, fun p2 n2 => ?_⟩
      · refine ⟨by decide +kernel, ?_⟩
        show (decide ((if ((10 : Int) ^ 64 == 0) = true then 0 else ((10 : Int) ^ 64).natAbs.log2 / 30 + 1) > 300) && decide ((if ((m : Int) == 0) = true then 0 else ((m : Int)).natAbs.log2 / 30 + 1) > (if ((10 : Int) ^ 64 == 0) = true then 0 else ((10 : Int) ^ 64).natAbs.log2 / 30 + 1) + 150)) = false
        rw [show decide ((if ((10 : Int) ^ 64 == 0) = true then 0 else ((10 : Int) ^ 64).natAbs.log2 / 30 + 1) > 300) = false by decide +kernel]
        rfl
      obtain ⟨H2, g2, e2, hq2⟩ := newH n2 (o := _)
      rw [hq2]
      have ed : (m : Int) / 10 ^ 64 = ((m / 10 ^ 64 : Nat) : Int) := by rw [hc, Int.natCast_ediv]
      have em : (m : Int) % 10 ^ 64 = ((m % 10 ^ 64 : Nat) : Int) := by rw [hc, Int.natCast_emod]
      rw [ed, em] at e2
      refine ⟨p2, _, rfl, .inl (.inl e2), rfl, _, _, rfl, _, _, rfl, rfl, ?_⟩
      have hpm : m % 10 ^ 64 < 10 ^ 64 := Nat.mod_lt _ (by decide +kernel)
      refine ⟨_, rfl, .inl ⟨rfl, _, .inl (.inl (g2 _ _ eb))⟩, ?_⟩
      refine ⟨_, rfl, ((m % 10 ^ 64 : Nat) : Int), rfl, hbig _ hpm, ⟨_, rfl⟩, strI (m % 10 ^ 64), 64, rfl, rfl, by decide, ?_⟩
      refine ⟨p1, _, _, rfl, rfl, g2 _ _ eb, ?_, ?_⟩
      · rw [List.length_map]
        exact Nat.lt_of_le_of_lt hbl (by decide)
      · refine ⟨bs ++ [Txt.zfill (strI (m % 10 ^ 64)) 64], _, rfl, hpc', hbl', ?_, fun b o e => ?_⟩
        · rw [upd_same, List.map_append]
          rfl
        · rw [upd_ne (ne_of_none e n1)]
          exact g2 _ _ (g _ _ e)
    · refine itN (by rw [decide_eq_true_eq, hc]; exact fun z => hm (Int.ofNat_le.mp z)) ?_
      have hm' : m < 10 ^ 64 := Nat.lt_of_not_le hm
      have hl := TL.numL_len (k := 64) (by decide) hm'
      refine ⟨⟨_, rfl⟩, ?_⟩
      refine ⟨_, rfl, (m : Int), rfl, hbig m hm', small20 (Nat.le_of_ble_eq_true rfl), fun p2 n2 => ?_⟩
      obtain ⟨H2, g2, e2, hq2⟩ := newH n2 (o := _)
      rw [hq2]
      refine ⟨_, rfl, p1, _, rfl, .inl ⟨.inl (.inl (g2 _ _ eb)), fun p3 n3 => ?_⟩⟩
      obtain ⟨H3, g3, e3, hq3⟩ := newH n3 (o := _)
      rw [hq3]
      refine ⟨p2, p3, _, _, rfl, rfl, g3 _ _ e2, e3, small20 (by simp; omega), fun p4 n4 => ?_⟩
      obtain ⟨H4, g4, e4, hq4⟩ := newH n4 (o := _)
      rw [hq4]
      refine ⟨_, p4, strI m :: bs.reverse, rfl, rfl, .inl (.inl (.inl ?_)), ?_, ?_⟩
      · rw [e4, ← List.map_reverse]
        rfl
      · have h0 : ("" : Str).length = 0 := by decide +kernel
        have h1 : (strI m).length ≤ 64 := by rw [len_cps, strI_tl]; exact hl
        have h2 := sum_len64 (ys := bs.reverse) fun b hb => hpc.2.2 b (List.mem_reverse.mp hb)
        rw [List.length_reverse] at h2
        rw [h0, Nat.mul_zero, Nat.add_zero, List.map_cons, List.sum_cons]
        omega
      · rw [hpc.done]
        exact q H4 (g.trans (g2.trans (g3.trans g4)))
theorem ok_place_words {f : Addr} {fd : FuncData} (F : Fun K "place_words" "place_words" s_place_words f fd) : FnOk P w K mg base CX0 1 f fd ["place"] spWords := by
  refine F.ok sc_place_words (fun vs H Q E h => ?_) (fun cdv A outer s H vs Q E hr h => ?_)
  · obtain ⟨a, x, y, rfl, _⟩ := h
    rfl
  · obtain ⟨a, x, y, rfl, ha, h1, h2, q⟩ := h
    refine ⟨_, (pss_one (ps_ret (pe_join pe_str (pv 0)))), ?_⟩
    refine ⟨⟨_, rfl⟩, _, rfl, _, a, [x, y], rfl, rfl, .inr (.inl (.inl ha)), ?_, q⟩
    show x.length + (y.length + 0) + 2 * _ ≤ _
    have : ("." : Str).length = 1 := by decide +kernel
    rw [this]
    omega
end
end K65
set_option Elab.async false
set_option linter.all false
set_option maxRecDepth 100000
set_option maxHeartbeats 4000000
namespace K65
open PySem L2 Ld GxR Gx
/-! the shapes of letters, rules, whats; a letter's words -/
theorem name_len {d : PyData} (h : nameD d = true) : ∃ n : Str, d = .str n ∧ n.length ≤ 8 := by
  cases d with
  | str n =>
    have h : (decide (1 ≤ n.length ∧ n.length ≤ 8) && n.cps.toList.all signB) = true := h
    rw [Bool.and_eq_true, decide_eq_true_eq] at h
    exact ⟨n, rfl, h.1.2⟩
  | _ => cases h
theorem place_len {d : PyData} (h : placeD d = true) : ∃ x y : Str, d = .tuple [.str x, .str y] ∧ x.length ≤ 8 ∧ y.length ≤ 8 := by
  obtain ⟨x, y, rfl, h1, h2⟩ := place_of_true h
  obtain ⟨_, e, l1⟩ := name_len h1
  cases e
  obtain ⟨_, e, l2⟩ := name_len h2
  cases e
  exact ⟨x, y, rfl, l1, l2⟩
theorem letter_of {d : PyData} (h : letterD d = true) : (∃ t n : Str, d = .tuple [.str t, .str n] ∧ t.length ≤ 8 ∧ n.length ≤ 8 ∧ t ≠ "holds") ∨ (∃ (n : Str) (i : Int), d = .tuple [.str "holds", .str n, .int i] ∧ n.length ≤ 8) := by
  unfold letterD at h
  split at h
  · rename_i t n i
    simp only [Bool.and_eq_true, decide_eq_true_eq] at h
    obtain ⟨h1, rfl, h3⟩ := h
    obtain ⟨x, rfl, hx⟩ := name_len h1
    exact .inr ⟨x, i, rfl, hx⟩
  · rename_i t n
    simp only [Bool.and_eq_true, Bool.or_eq_true, decide_eq_true_eq] at h
    obtain ⟨h1, h2⟩ := h
    obtain ⟨x, rfl, hx⟩ := name_len h1
    refine .inl ⟨t, x, rfl, ?_, hx, ?_⟩
    · rcases h2 with rfl | rfl
      · decide +kernel
      · decide +kernel
    · rcases h2 with rfl | rfl
      · decide
      · decide
  · cases h
theorem rule_of {d : PyData} (h : ruleD d = true) : ∃ (x y : Str) (i : Int) (ps : List PyData), d = .tuple [.str x, .str y, .int i, .list ps] ∧ x.length ≤ 8 ∧ y.length ≤ 8 ∧ (∀ e ∈ ps, placeD e = true) ∧ ps.length ≤ 8 := by
  unfold ruleD at h
  split at h
  · rename_i a b c p
    simp only [Bool.and_eq_true] at h
    obtain ⟨⟨⟨h1, h2⟩, h3⟩, h4, h5⟩ := h
    obtain ⟨x, rfl, hx⟩ := name_len h1
    obtain ⟨y, rfl, hy⟩ := name_len h2
    cases c with
    | int i =>
      cases p with
      | list ps =>
        have h4 : (ps.all placeD && unlikeD ps) = true := h4
        rw [Bool.and_eq_true] at h4
        refine ⟨x, y, i, ps, rfl, hx, hy, fun e he => List.all_eq_true.mp h4.1 e he, ?_⟩
        have h5 : (decide (1 ≤ ps.length ∧ ps.length ≤ 8)) = true := h5
        exact (of_decide_eq_true h5).2
      | _ => cases h4
    | _ => cases h3
  · cases h
theorem what_of {d : PyData} (h : whatD d = true) : (∃ (n : Str) (l : PyData), d = .tuple [.str "hear", .str n, l] ∧ n.length ≤ 8 ∧ letterD l = true) ∨ (∃ (n : Str) (i : Int) (ps : List PyData), d = .tuple [.str "lean", .str n, .int i, .list ps] ∧ n.length ≤ 8 ∧ (∀ e ∈ ps, placeD e = true) ∧ ps.length ≤ 8) ∨
    (∃ i : Int, d = .tuple [.str "drop", .int i]) ∨ (∃ t n : Str, d = .tuple [.str t, .str n] ∧ t.length ≤ 8 ∧ n.length ≤ 8 ∧ t ≠ "hear" ∧ t ≠ "lean" ∧ t ≠ "drop") := by
  unfold whatD at h
  split at h
  · rename_i t r
    unfold whatR at h
    split at h
    · rename_i ht
      unfold just1 at h
      split at h
      · obtain ⟨n, rfl, hn⟩ := name_len h
        refine .inr (.inr (.inr ⟨t, n, rfl, ?_, hn, ?_⟩))
        · simp only [fourW, List.mem_cons, List.not_mem_nil, or_false] at ht
          rcases ht with rfl | rfl | rfl | rfl <;> decide +kernel
        · simp only [fourW, List.mem_cons, List.not_mem_nil, or_false] at ht
          rcases ht with rfl | rfl | rfl | rfl <;> decide
      · cases h
    · split at h
      · rename_i ht
        subst ht
        unfold just1 at h
        split at h
        · rename_i a
          cases a with
          | int i => exact .inr (.inr (.inl ⟨i, rfl⟩))
          | _ => cases h
        · cases h
      · split at h
        · rename_i ht
          subst ht
          unfold just2 at h
          split at h
          · rw [Bool.and_eq_true] at h
            obtain ⟨n, rfl, hn⟩ := name_len h.1
            exact .inl ⟨n, _, rfl, hn, h.2⟩
          · cases h
        · rw [Bool.and_eq_true, decide_eq_true_eq] at h
          obtain ⟨rfl, h⟩ := h
          unfold just3 at h
          split at h
          · obtain ⟨x, y, i, ps, e, h1, h2, h3, h4⟩ := rule_of h
            cases e
            exact .inr (.inl ⟨y, i, ps, rfl, h2, h3, h4⟩)
          · cases h
  · cases h
theorem int_lf {i : Int} (h : lf big (.int i) = true) : i.natAbs ≤ big := of_decide_eq_true h
/-- a letter's words: a new list of texts, none long -/
def spLW : Sp := fun vs H Q _ => ∃ (v : V) (d : PyData), vs = [v] ∧ Da H v d ∧ lf big d = true ∧ letterD d = true ∧ ∀ (p : Addr) (ys : List Str) (H' : Hp), Same H H' → H' p = some (.lst (ys.map V.str)) → ys.length ≤ 3 → (∀ y ∈ ys, y.length ≤ 60) → Q (.ref p) H'
section
variable {P : Program} {w : World} {K : PySem.W.Frag} {mg : Str → Option Value} {base : Heap}
end
end K65
set_option Elab.async false
set_option linter.all false
set_option maxRecDepth 100000
set_option maxHeartbeats 4000000
namespace K65
open PySem L2 Ld GxR Gx
/-! what words write: the program's side and the law's -/
def stL (l : List Str) : List PyData := l.map .str
def plP (w : Str) : PyData := .tuple (stL (Txt.split w point))
def plL (w : Str) : PyData := if placeD (plP w) = true then plP w else .tuple []
def numP (w : Str) : PyData := if isNum w = true then .int (numV w) else .none
def numL (w : Str) : PyData := .int (if isNum w = true then numV w else -1)
def tupL : PyData → List PyData
  | .tuple l => l
  | _ => []
def ruleP (w0 w2 : Str) (r : List Str) : PyData := .tuple (stL (Txt.split w0 point) ++ [numP w2, .list (r.map plP)])
def ruleL (w0 w2 : Str) (r : List Str) : PyData := .tuple (tupL (plL w0) ++ [numL w2, .list (r.map plL)])
theorem plL_of {w : Str} (h : placeD (plP w) = true) : plL w = plP w := if_pos h
theorem plL_true {w : Str} (h : placeD (plL w) = true) : plL w = plP w := by
  by_cases hp : placeD (plP w) = true
  · exact if_pos hp
  · have e : plL w = .tuple [] := if_neg hp
    rw [e] at h
    cases h
theorem pls_of : ∀ {r : List Str}, (∀ w ∈ r, plL w = plP w) → r.map plL = r.map plP
  | [], _ => rfl
  | w :: r, h => by
    rw [List.map_cons, List.map_cons, h w List.mem_cons_self, pls_of fun u hu => h u (List.mem_cons_of_mem _ hu)]
theorem two_more' {a b c d x y : PyData} {l : List PyData} (h : l ++ [x, y] = [a, b, c, d]) : l = [a, b] ∧ x = c ∧ y = d := by
  match l, h with
  | [p, q], h =>
    simp only [List.cons_append, List.nil_append, List.cons.injEq, and_true] at h
    obtain ⟨rfl, rfl, rfl, rfl⟩ := h
    exact ⟨rfl, rfl, rfl⟩
  | [], h => simp at h
  | [_], h => simp at h
  | _ :: _ :: _ :: l', h =>
    have := congrArg List.length h
    simp at this
theorem ruleD_parts {d : PyData} (h : ruleD d = true) : ∃ (a b : PyData) (i : Int) (ps : List PyData), d = .tuple [a, b, .int i, .list ps] ∧ nameD a = true ∧ nameD b = true ∧ 1 ≤ i ∧ (∀ e ∈ ps, placeD e = true) ∧ 1 ≤ ps.length := by
  unfold ruleD at h
  split at h
  · rename_i a b c p
    simp only [Bool.and_eq_true] at h
    obtain ⟨⟨⟨h1, h2⟩, h3⟩, h4, h5⟩ := h
    cases c with
    | int i =>
      cases p with
      | list ps =>
        have h4 : (ps.all placeD && unlikeD ps) = true := h4
        rw [Bool.and_eq_true] at h4
        have h5 : (decide (1 ≤ ps.length ∧ ps.length ≤ 8)) = true := h5
        exact ⟨a, b, i, ps, rfl, h1, h2, of_decide_eq_true h3, fun e he => List.all_eq_true.mp h4.1 e he, (of_decide_eq_true h5).1⟩
      | _ => cases h4
    | _ => cases h3
  · cases h
theorem num_P {w : Str} {i : Int} (h : numP w = .int i) : numL w = numP w := by
  unfold numP at h ⊢
  by_cases hn : isNum w = true
  · unfold numL
    rw [if_pos hn, if_pos hn]
  · rw [if_neg hn] at h
    cases h
theorem num_L {w : Str} {i : Int} (h : numL w = .int i) (hi : 0 ≤ i) : numL w = numP w := by
  unfold numL at h
  by_cases hn : isNum w = true
  · unfold numL numP
    rw [if_pos hn, if_pos hn]
  · rw [if_neg hn] at h
    cases h
    exact absurd hi (by decide)
theorem rule_same {w0 w2 : Str} {r : List Str} (h : ruleD (ruleP w0 w2 r) = true ∨ ruleD (ruleL w0 w2 r) = true) : ruleL w0 w2 r = ruleP w0 w2 r := by
  rcases h with h | h
  · obtain ⟨a, b, i, ps, e, ha, hb, hi, hp, _⟩ := ruleD_parts h
    have e' : stL (Txt.split w0 point) ++ [numP w2, .list (r.map plP)] = [a, b, .int i, .list ps] := PyData.tuple.inj e
    obtain ⟨e1, e2, e3⟩ := two_more' e'
    have e3 : r.map plP = ps := PyData.list.inj e3
    have h0 : placeD (plP w0) = true := by
      show placeD (.tuple (stL (Txt.split w0 point))) = true
      rw [e1]
      show (nameD a && nameD b) = true
      rw [ha, hb]
      rfl
    unfold ruleL ruleP
    rw [num_P e2, plL_of h0, pls_of fun w hw => plL_of (hp _ (by rw [← e3]; exact List.mem_map_of_mem hw))]
    rfl
  · obtain ⟨a, b, i, ps, e, ha, hb, hi, hp, _⟩ := ruleD_parts h
    have e' : tupL (plL w0) ++ [numL w2, .list (r.map plL)] = [a, b, .int i, .list ps] := PyData.tuple.inj e
    obtain ⟨e1, e2, e3⟩ := two_more' e'
    have e3 : r.map plL = ps := PyData.list.inj e3
    have h0 : placeD (plP w0) = true := by
      by_cases hq : placeD (plP w0) = true
      · exact hq
      · have z : plL w0 = .tuple [] := if_neg hq
        rw [z] at e1
        cases e1
    unfold ruleL ruleP
    rw [num_L e2 (by omega), plL_of h0, pls_of fun w hw => plL_true (hp _ (by rw [← e3]; exact List.mem_map_of_mem hw))]
    rfl
theorem rule_agree (w0 w2 : Str) (r : List Str) : ruleD (ruleL w0 w2 r) = ruleD (ruleP w0 w2 r) := by
  by_cases h : ruleD (ruleP w0 w2 r) = true
  · rw [rule_same (.inl h)]
  · by_cases h2 : ruleD (ruleL w0 w2 r) = true
    · rw [rule_same (.inr h2)]
    · rw [Bool.not_eq_true] at h h2
      rw [h, h2]
/-! letters -/
def letterP : List Str → PyData
  | [a, b, c] => .tuple [.str a, .str b, numP c]
  | ws => .tuple (stL ws)
def letterL : List Str → PyData
  | [a, b, c] => if a = "holds" then .tuple [.str a, .str b, numL c] else .tuple [.str a, .str b, .str c]
  | ws => .tuple (stL ws)
theorem letterL_3 (a b c : Str) : letterL [a, b, c] = if a = "holds" then .tuple [.str a, .str b, numL c] else .tuple [.str a, .str b, .str c] := rfl
theorem letterP_other {ws : List Str} (h : ws.length ≠ 3) : letterP ws = .tuple (stL ws) := by
  unfold letterP
  split
  · exact absurd rfl h
  · rfl
theorem letterL_other {ws : List Str} (h : ws.length ≠ 3) : letterL ws = .tuple (stL ws) := by
  unfold letterL
  split
  · exact absurd rfl h
  · rfl
theorem letter3 {t : Str} {b d : PyData} (h : letterD (.tuple [.str t, b, d]) = true) : t = "holds" ∧ ∃ i, d = .int i ∧ 0 ≤ i := by
  cases d with
  | int i =>
    have h : (nameD b && (decide (t = "holds") && decide (0 ≤ i))) = true := h
    simp only [Bool.and_eq_true, decide_eq_true_eq] at h
    exact ⟨h.2.1, i, rfl, h.2.2⟩
  | _ => cases h
theorem letter_same {ws : List Str} (h : letterD (letterP ws) = true ∨ letterD (letterL ws) = true) : letterL ws = letterP ws := by
  by_cases h3 : ws.length = 3
  · match ws, h3 with
    | [a, b, c], _ =>
      have e1 : letterP [a, b, c] = .tuple [.str a, .str b, numP c] := rfl
      rcases h with h | h
      · rw [e1] at h
        obtain ⟨rfl, i, hi, _⟩ := letter3 h
        have e2 : letterL ["holds", b, c] = .tuple [.str "holds", .str b, numL c] := by
          rw [letterL_3, if_pos rfl]
        rw [e2, e1, num_P hi]
      · by_cases ha : a = "holds"
        · have e2 : letterL [a, b, c] = .tuple [.str a, .str b, numL c] := if_pos ha
          rw [e2] at h
          obtain ⟨_, i, hi, h0⟩ := letter3 h
          rw [e2, e1, num_L hi h0]
        · have e2 : letterL [a, b, c] = .tuple [.str a, .str b, .str c] := if_neg ha
          rw [e2] at h
          obtain ⟨_, i, hi, h0⟩ := letter3 h
          cases hi
  · rw [letterP_other h3, letterL_other h3]
theorem letter_agree (ws : List Str) : letterD (letterL ws) = letterD (letterP ws) := by
  by_cases h : letterD (letterP ws) = true
  · rw [letter_same (.inl h)]
  · by_cases h2 : letterD (letterL ws) = true
    · rw [letter_same (.inr h2)]
    · rw [Bool.not_eq_true] at h h2
      rw [h, h2]
/-! whats -/
def letterL' (ws : List Str) : PyData := if letterD (letterL ws) = true then letterL ws else .tuple []
def whatP : List Str → PyData
  | [] => .tuple []
  | w :: r => if w = "hear" then .tuple (stL ((w :: r).take 2) ++ [letterP ((w :: r).drop 2)])
    else if w = "lean" ∧ 2 < (w :: r).length then .tuple [.str w, .str (r.getD 0 ""), numP (r.getD 1 ""), .list ((r.drop 2).map plP)]
    else if w = "drop" ∧ (w :: r).length = 2 then .tuple [.str "drop", numP (r.getD 0 "")]
    else .tuple (stL (w :: r))
def whatL : List Str → PyData
  | [] => .tuple []
  | w :: r => if w = "hear" ∧ 2 < (w :: r).length then .tuple [.str "hear", .str (r.getD 0 ""), letterL' ((w :: r).drop 2)]
    else if w = "drop" ∧ (w :: r).length = 2 then .tuple [.str "drop", numL (r.getD 0 "")]
    else if w = "lean" ∧ 3 < (w :: r).length then .tuple [.str w, .str (r.getD 0 ""), numL (r.getD 1 ""), .list ((r.drop 2).map plL)]
    else .tuple (stL (w :: r))
theorem what_hear {r : List PyData} (h : whatD (.tuple (.str "hear" :: r)) = true) : ∃ n l, r = [n, l] ∧ letterD l = true := by
  have h : just2 nameD letterD r = true := by
    have e : whatD (.tuple (.str "hear" :: r)) = just2 nameD letterD r := by
      show whatR "hear" r = _
      unfold whatR
      rw [if_neg (by decide +kernel), if_neg (by decide), if_pos rfl]
    rw [← e]
    exact h
  unfold just2 at h
  split at h
  · rw [Bool.and_eq_true] at h
    exact ⟨_, _, rfl, h.2⟩
  · cases h
theorem what_lean {r : List PyData} (h : whatD (.tuple (.str "lean" :: r)) = true) : ∃ a b c, r = [a, b, c] ∧ ruleD (.tuple [.str "an", a, b, c]) = true := by
  have h : just3 r = true := by
    have e : whatD (.tuple (.str "lean" :: r)) = just3 r := by
      show whatR "lean" r = _
      unfold whatR
      rw [if_neg (by decide +kernel), if_neg (by decide), if_neg (by decide), decide_eq_true rfl, Bool.true_and]
    rw [← e]
    exact h
  unfold just3 at h
  split at h
  · exact ⟨_, _, _, rfl, h⟩
  · cases h
theorem nonneg_int {a : PyData} (h : nonneg a = true) : ∃ i : Int, [a] = [.int i] ∧ 0 ≤ i := by
  cases a with
  | int i => exact ⟨i, rfl, of_decide_eq_true h⟩
  | _ => cases h
theorem what_drop {r : List PyData} (h : whatD (.tuple (.str "drop" :: r)) = true) : ∃ i : Int, r = [.int i] ∧ 0 ≤ i := by
  have h : just1 nonneg r = true := by
    have e : whatD (.tuple (.str "drop" :: r)) = just1 nonneg r := by
      show whatR "drop" r = _
      unfold whatR
      rw [if_neg (by decide +kernel), if_pos rfl]
    rw [← e]
    exact h
  unfold just1 at h
  split at h
  · rename_i a
    exact nonneg_int h
  · cases h
theorem whatP_cons (w : Str) (r : List Str) : whatP (w :: r) = if w = "hear" then .tuple (stL ((w :: r).take 2) ++ [letterP ((w :: r).drop 2)])
    else if w = "lean" ∧ 2 < (w :: r).length then .tuple [.str w, .str (r.getD 0 ""), numP (r.getD 1 ""), .list ((r.drop 2).map plP)]
    else if w = "drop" ∧ (w :: r).length = 2 then .tuple [.str "drop", numP (r.getD 0 "")]
    else .tuple (stL (w :: r)) := rfl
theorem whatL_cons (w : Str) (r : List Str) : whatL (w :: r) = if w = "hear" ∧ 2 < (w :: r).length then .tuple [.str "hear", .str (r.getD 0 ""), letterL' ((w :: r).drop 2)]
    else if w = "drop" ∧ (w :: r).length = 2 then .tuple [.str "drop", numL (r.getD 0 "")]
    else if w = "lean" ∧ 3 < (w :: r).length then .tuple [.str w, .str (r.getD 0 ""), numL (r.getD 1 ""), .list ((r.drop 2).map plL)]
    else .tuple (stL (w :: r)) := rfl
theorem hear_P (r : List Str) : whatP ("hear" :: r) = .tuple (stL ((("hear" : Str) :: r).take 2) ++ [letterP ((("hear" : Str) :: r).drop 2)]) := by
  rw [whatP_cons, if_pos rfl]
theorem hear_L (r : List Str) : whatL ("hear" :: r) = if 2 < (("hear" : Str) :: r).length then .tuple [.str "hear", .str (r.getD 0 ""), letterL' ((("hear" : Str) :: r).drop 2)] else .tuple (stL ("hear" :: r)) := by
  rw [whatL_cons]
  by_cases h : 2 < (("hear" : Str) :: r).length
  · rw [if_pos ⟨rfl, h⟩, if_pos h]
  · rw [if_neg (fun z => h z.2), if_neg (fun z => absurd z.1 (by decide)), if_neg (fun z => absurd z.1 (by decide)), if_neg h]
theorem lean_P (r : List Str) : whatP ("lean" :: r) = if 2 < (("lean" : Str) :: r).length then .tuple [.str "lean", .str (r.getD 0 ""), numP (r.getD 1 ""), .list ((r.drop 2).map plP)] else .tuple (stL ("lean" :: r)) := by
  rw [whatP_cons, if_neg (by decide)]
  by_cases h : 2 < (("lean" : Str) :: r).length
  · rw [if_pos ⟨rfl, h⟩, if_pos h]
  · rw [if_neg (fun z => h z.2), if_neg (fun z => absurd z.1 (by decide)), if_neg h]
theorem lean_L (r : List Str) : whatL ("lean" :: r) = if 3 < (("lean" : Str) :: r).length then .tuple [.str "lean", .str (r.getD 0 ""), numL (r.getD 1 ""), .list ((r.drop 2).map plL)] else .tuple (stL ("lean" :: r)) := by
  rw [whatL_cons, if_neg (fun z => absurd z.1 (by decide)), if_neg (fun z => absurd z.1 (by decide))]
  by_cases h : 3 < (("lean" : Str) :: r).length
  · rw [if_pos ⟨rfl, h⟩, if_pos h]
  · rw [if_neg (fun z => h z.2), if_neg h]
theorem drop_P (a : Str) : whatP ["drop", a] = .tuple [.str "drop", numP a] := by
  rw [whatP_cons, if_neg (by decide), if_neg (fun z => absurd z.1 (by decide)), if_pos ⟨rfl, rfl⟩]
  rfl
theorem drop_L (a : Str) : whatL ["drop", a] = .tuple [.str "drop", numL a] := by
  rw [whatL_cons, if_neg (fun z => absurd z.1 (by decide)), if_pos ⟨rfl, rfl⟩]
  rfl
theorem letterL'_true {ws : List Str} (h : letterD (letterL' ws) = true) : letterL' ws = letterP ws := by
  by_cases hq : letterD (letterL ws) = true
  · have e : letterL' ws = letterL ws := if_pos hq
    rw [e, letter_same (.inr hq)]
  · have e : letterL' ws = .tuple [] := if_neg hq
    rw [e] at h
    cases h
theorem letterL'_of {ws : List Str} (h : letterD (letterP ws) = true) : letterL' ws = letterP ws := by
  have e := letter_same (.inl h)
  unfold letterL'
  rw [e, if_pos h]
theorem what_same {ws : List Str} (h : whatD (whatP ws) = true ∨ whatD (whatL ws) = true) : whatL ws = whatP ws := by
  match ws, h with
  | [], _ => rfl
  | w :: r, h =>
    by_cases h1 : w = "hear"
    · subst h1
      rw [hear_P, hear_L] at h ⊢
      match r, h with
      | [], h =>
        exfalso
        rcases h with h | h
        · obtain ⟨n, l, e, _⟩ := what_hear h
          cases e
        · rw [if_neg (by decide)] at h
          obtain ⟨n, l, e, _⟩ := what_hear h
          cases e
      | [a], h =>
        exfalso
        rcases h with h | h
        · obtain ⟨n, l, e, e2⟩ := what_hear h
          cases e
          cases e2
        · rw [if_neg (by simp)] at h
          obtain ⟨n, l, e, _⟩ := what_hear h
          cases e
      | a :: b :: r', h =>
        rw [if_pos (by simp)] at h ⊢
        have e : letterL' (b :: r') = letterP (b :: r') := by
          rcases h with h | h
          · obtain ⟨n, l, e, e2⟩ := what_hear h
            cases e
            exact letterL'_of e2
          · obtain ⟨n, l, e, e2⟩ := what_hear h
            cases e
            exact letterL'_true e2
        show PyData.tuple [.str "hear", .str a, letterL' (b :: r')] = .tuple [.str "hear", .str a, letterP (b :: r')]
        rw [e]
    · by_cases h2 : w = "lean"
      · subst h2
        rw [lean_P, lean_L] at h ⊢
        match r, h with
        | [], _ => rfl
        | [a], _ => rfl
        | [a, b], h =>
          exfalso
          rcases h with h | h
          · rw [if_pos (by simp)] at h
            obtain ⟨p, q, d, e, e2⟩ := what_lean h
            obtain ⟨_, _, i, ps, e3, _, _, _, _, hl⟩ := ruleD_parts e2
            obtain ⟨rfl, rfl, rfl⟩ : p = .str a ∧ q = numP b ∧ d = .list [] := by
              have e : [PyData.str a, numP b, .list []] = [p, q, d] := e
              simp only [List.cons.injEq, and_true] at e
              exact ⟨e.1.symm, e.2.1.symm, e.2.2.symm⟩
            simp only [PyData.tuple.injEq, List.cons.injEq, and_true, PyData.list.injEq] at e3
            rw [← e3.2.2.2] at hl
            exact absurd hl (by decide)
          · rw [if_neg (by simp)] at h
            obtain ⟨p, q, c, e, e2⟩ := what_lean h
            cases e
        | a :: b :: c :: r', h =>
          rw [if_pos (by simp), if_pos (by simp)] at h ⊢
          show PyData.tuple [.str "lean", .str a, numL b, .list ((c :: r').map plL)] = .tuple [.str "lean", .str a, numP b, .list ((c :: r').map plP)]
          rcases h with h | h
          · obtain ⟨p, q, d, e, e2⟩ := what_lean h
            obtain ⟨_, _, i, ps, e3, _, _, hi, hp, _⟩ := ruleD_parts e2
            obtain ⟨rfl, rfl, rfl⟩ : p = .str a ∧ q = numP b ∧ d = .list ((c :: r').map plP) := by
              have e : [PyData.str a, numP b, .list ((c :: r').map plP)] = [p, q, d] := e
              simp only [List.cons.injEq, and_true] at e
              exact ⟨e.1.symm, e.2.1.symm, e.2.2.symm⟩
            simp only [PyData.tuple.injEq, List.cons.injEq, and_true, PyData.list.injEq] at e3
            rw [num_P e3.2.2.1, pls_of fun w hw => plL_of (hp _ (by rw [← e3.2.2.2]; exact List.mem_map_of_mem hw))]
          · obtain ⟨p, q, d, e, e2⟩ := what_lean h
            obtain ⟨_, _, i, ps, e3, _, _, hi, hp, _⟩ := ruleD_parts e2
            obtain ⟨rfl, rfl, rfl⟩ : p = .str a ∧ q = numL b ∧ d = .list ((c :: r').map plL) := by
              have e : [PyData.str a, numL b, .list ((c :: r').map plL)] = [p, q, d] := e
              simp only [List.cons.injEq, and_true] at e
              exact ⟨e.1.symm, e.2.1.symm, e.2.2.symm⟩
            simp only [PyData.tuple.injEq, List.cons.injEq, and_true, PyData.list.injEq] at e3
            rw [num_L e3.2.2.1 (by omega), pls_of fun w hw => plL_true (hp _ (by rw [← e3.2.2.2]; exact List.mem_map_of_mem hw))]
      · by_cases h3 : w = "drop" ∧ (w :: r).length = 2
        · obtain ⟨rfl, hl⟩ := h3
          match r, hl with
          | [a], _ =>
            rw [drop_P, drop_L] at h ⊢
            rcases h with h | h
            · obtain ⟨i, e, _⟩ := what_drop h
              rw [num_P (List.cons.inj e).1]
            · obtain ⟨i, e, h0⟩ := what_drop h
              rw [num_L (List.cons.inj e).1 h0]
        · rw [whatP_cons, whatL_cons, if_neg (fun z => h1 z.1), if_neg h3, if_neg (fun z => h2 z.1), if_neg h1, if_neg (fun z => h2 z.1), if_neg h3]
theorem what_agree (ws : List Str) : whatD (whatL ws) = whatD (whatP ws) := by
  by_cases h : whatD (whatP ws) = true
  · rw [what_same (.inl h)]
  · by_cases h2 : whatD (whatL ws) = true
    · rw [what_same (.inr h2)]
    · rw [Bool.not_eq_true] at h h2
      rw [h, h2]
end K65
set_option Elab.async false
set_option linter.all false
set_option maxRecDepth 100000
set_option maxHeartbeats 4000000
namespace K65
open PySem L2 Ld GxR Gx
/-! what words may write is put together -/
abbrev s_place_in : Stmt := topS 34
abbrev N_place_in : List Str := ["word"]
theorem sc_place_in : FnScope N_place_in ["word"] (defScope s_place_in) := ⟨rfl, rfl, rfl, by decide +kernel, rfl, by decide +kernel, by decide +kernel⟩
abbrev s_letter_in : Stmt := topS 35
abbrev N_letter_in : List Str := ["words"]
theorem sc_letter_in : FnScope N_letter_in ["words"] (defScope s_letter_in) := ⟨rfl, rfl, rfl, by decide +kernel, rfl, by decide +kernel, by decide +kernel⟩
def spPlaceIn : Sp := fun vs H Q _ => ∃ w : Str, vs = [.str w] ∧ w.length ≤ 2000 ∧ ∀ (v : V) (H' : Hp), Same H H' → Da H' v (plP w) → Q v H'
/-- a list of so few short words -/
def Few (ws : List Str) : Prop := (ws.map (·.length)).sum + ws.length ≤ 2001
theorem Few.len {ws : List Str} (h : Few ws) : ws.length ≤ 2001 := by
  unfold Few at h
  omega
theorem Few.one {ws : List Str} (h : Few ws) {w : Str} (hw : w ∈ ws) : w.length ≤ 2000 := by
  unfold Few at h
  have h1 : w.length ≤ (ws.map (·.length)).sum := le_sum _ (List.mem_map_of_mem hw)
  have h2 := List.length_pos_of_mem hw
  omega
theorem Few.drop : ∀ {ws : List Str} (n : Nat), Few ws → Few (ws.drop n)
  | _, 0, h => h
  | [], n + 1, h => h
  | w :: ws, n + 1, h => by
    have : Few ws := by
      unfold Few at h ⊢
      rw [List.map_cons, List.sum_cons, List.length_cons] at h
      omega
    exact Few.drop n this
def Wd (H : Hp) (p : Addr) (ws : List Str) : Prop := H p = some (.lst (ws.map V.str)) ∧ Few ws
theorem Wd.same {H H' : Hp} {p : Addr} {ws : List Str} (h : Wd H p ws) (s : Same H H') : Wd H' p ws := ⟨s _ _ h.1, h.2⟩
def spLetterIn : Sp := fun vs H Q _ => ∃ (p : Addr) (ws : List Str), vs = [.ref p] ∧ Wd H p ws ∧ ∀ (v : V) (H' : Hp), Same H H' → Da H' v (letterP ws) → Q v H'
theorem da_stL {H : Hp} : ∀ ws : List Str, DaAll H (ws.map V.str) (stL ws)
  | [] => .nil
  | w :: ws => .cons (.str w) (da_stL ws)
theorem da_numP {H : Hp} (w : Str) : Da H (if isNum w = true then .int (numV w) else .non) (numP w) := by
  unfold numP
  by_cases h : isNum w = true
  · rw [if_pos h, if_pos h]
    exact .int _
  · rw [if_neg h, if_neg h]
    exact .non
theorem few_cut {x y : Str} (hy : 1 ≤ y.length) (hl : x.length ≤ 2000) : Few (Txt.split x y) := by
  have h := cut_weight x y hy
  unfold Few
  omega
section
variable {P : Program} {w : World} {K : PySem.W.Frag} {mg : Str → Option Value} {base : Heap}
theorem ok_place_in {f : Addr} {fd : FuncData} (F : Fun K "place_in" "place_in" s_place_in f fd) (z_tuple : mg "tuple" = none) : FnOk P w K mg base CX0 1 f fd ["word"] spPlaceIn := by
  refine F.ok sc_place_in (fun vs H Q E h => ?_) (fun cdv A outer s H vs Q E hr h => ?_)
  · obtain ⟨x, rfl, _⟩ := h
    rfl
  · obtain ⟨x, rfl, hl, q⟩ := h
    refine ⟨_, (pss_one (ps_ret (pe_callTy call_tuple_of (by rfl) z_tuple (by decide +kernel) (pa_cons (pe_split (pv 0) pe_str) pa_nil)))), ?_⟩
    refine ⟨_, rfl, ⟨x, rfl⟩, x, point, rfl, rfl, by decide +kernel, ?_, fun p1 n1 => ?_⟩
    · exact small20 (show x.length + 2 ≤ 20000 by omega)
    obtain ⟨H1, g1, e1, hq1⟩ := newH n1 (o := _)
    rw [hq1]
    refine ⟨p1, _, rfl, .inl ⟨.inl (.inl e1), fun p2 n2 => ?_⟩⟩
    obtain ⟨H2, g2, e2, hq2⟩ := newH n2 (o := _)
    rw [hq2]
    exact q _ H2 (Same.trans g1 g2) (.tup e2 (da_stL _))
theorem ok_letter_in {f fN : Addr} {fd fdN : FuncData} (F : Fun K "letter_in" "letter_in" s_letter_in f fd) (G_number_in : FnOk P w K mg base CX0 1 fN fdN ["word"] spNumP) (g_number_in : mg "number_in" = some (.ref fN)) (k_number_in : PySem.W.keepIn K (.ref fN) = true) (b_number_in : Binds K fdN ["word"] []) (z_len : mg "len" = none) (z_tuple : mg "tuple" = none) : FnOk P w K mg base CX0 2 f fd ["words"] spLetterIn := by
  refine F.ok sc_letter_in (fun vs H Q E h => ?_) (fun cdv A outer s H vs Q E hr h => ?_)
  · obtain ⟨p, ws, rfl, _⟩ := h
    rfl
  · obtain ⟨p, ws, rfl, hp, q⟩ := h
    refine ⟨_, (pss_one (ps_ret (pe_ifExp (pt_cmpR op_eq (pe_callB (call_len_seq) (by rfl) z_len (by decide +kernel) (pa_cons (pv 0) pa_nil)) pe_int (nomark _)) (pe_tup (StX.pa_star (pe_slice sl_list (pv 0) po_none (po_some pe_int)) (pa_cons (pe_call G_number_in (hr.mono (by decide)) (by rfl) g_number_in k_number_in b_number_in .nil pass0 (pa_cons (pe_ix ix_list (pv 0) pe_int (fun _ _ => rfl)) pa_nil)) pa_nil))) (pe_callTy call_tuple_of (by rfl) z_tuple (by decide +kernel) (pa_cons (pv 0) pa_nil))))), ?_⟩
    obtain ⟨e0, hw⟩ := hp
    refine ⟨_, rfl, p, _, rfl, .inl (.inl (.inl e0)), rfl, _, rfl, ?_⟩
    by_cases h3 : ws.length = 3
    · refine itY (by rw [List.length_map]; simp [h3]) ?_
      match ws, h3 with
      | [a, b, c], _ =>
        have hc : c.length ≤ 2000 := hw.one (by simp)
        refine ⟨_, rfl, 2, rfl, p, _, rfl, .inl (.inl e0), fun p1 n1 => ?_⟩
        obtain ⟨H1, g1, e1, hq1⟩ := newH n1 (o := _)
        rw [hq1]
        rw [show cutV (List.map V.str [a, b, c]) none (some 2) = [V.str a, .str b] from sub_take (i := 2) (by simp)] at e1
        refine ⟨p1, _, rfl, .inr (.inl (.inl e1)), ?_⟩
        refine ⟨_, rfl, p, _, 2, .str c, rfl, rfl, .inl (.inl (g1 _ _ e0)), rfl, c, rfl, hc, ?_⟩
        refine ⟨small20 (Nat.le_of_ble_eq_true rfl), fun p2 n2 => ?_⟩
        obtain ⟨H2, g2, e2, hq2⟩ := newH n2 (o := _)
        rw [hq2]
        exact q _ H2 (Same.trans g1 g2) (.tup e2 (.cons (.str a) (.cons (.str b) (.cons (da_numP c) .nil))))
    · refine itN (by rw [List.length_map]; simp; omega) ?_
      refine ⟨_, rfl, p, _, rfl, .inl ⟨.inl (.inl e0), fun p2 n2 => ?_⟩⟩
      obtain ⟨H2, g2, e2, hq2⟩ := newH n2 (o := _)
      rw [hq2]
      rw [letterP_other h3] at q
      exact q _ H2 g2 (.tup e2 (da_stL _))
end
end K65
set_option Elab.async false
set_option linter.all false
set_option maxRecDepth 100000
set_option maxHeartbeats 4000000
namespace K65
open PySem L2 Ld GxR Gx
/-! rules put together -/
abbrev s_rule_in : Stmt := topS 36
abbrev N_rule_in : List Str := ["words", "rule", "word"]
theorem sc_rule_in : FnScope N_rule_in ["words"] (defScope s_rule_in) := ⟨rfl, rfl, rfl, by decide +kernel, rfl, by decide +kernel, by decide +kernel⟩
def dueR : List Str → PyData
  | w0 :: w1 :: w2 :: w3 :: r => if w1 = "=" ∧ ruleD (ruleP w0 w2 (w3 :: r)) = true then ruleP w0 w2 (w3 :: r) else .none
  | _ => .none
/-- the fourth part, if it stands elsewhere, is new -/
def Fr (H H' : Hp) (v : V) : Prop := ∀ (r : Addr) (xs : List V) (q : Addr), v = .ref r → H' r = some (.tup xs) → xs[3]? = some (.ref q) → H q = none
theorem fr_mk {H H' : Hp} {r : Addr} {xs : List V} (e : H' r = some (.tup xs)) (h : ∀ q, xs[3]? = some (.ref q) → H q = none) : Fr H H' (.ref r) := fun r' xs' q e1 e2 e3 => by
  cases e1
  rw [e] at e2
  cases e2
  exact h q e3
theorem fr_non {H H' : Hp} : Fr H H' .non := fun r xs q e => nomatch e
theorem fr_strs {H H' : Hp} {r : Addr} {ws : List Str} (e : H' r = some (.tup (ws.map V.str))) : Fr H H' (.ref r) := fr_mk e fun q hq => by
  obtain ⟨x, _, hx⟩ := List.mem_map.mp (List.mem_of_getElem? hq)
  cases hx
def spRuleIn : Sp := fun vs H Q _ => ∃ (p : Addr) (ws : List Str), vs = [.ref p] ∧ Wd H p ws ∧ ∀ (v : V) (H' : Hp), Same H H' → Da H' v (dueR ws) → Fr H H' v → Q v H'
theorem stL_vals {H : Hp} : ∀ {xs : List V} {l : List Str}, DaAll H xs (stL l) → xs = l.map V.str
  | _, [], .nil => rfl
  | _, _ :: _, .cons h t => by
    cases h
    rw [stL_vals t]
    rfl
theorem plP_at {H : Hp} {v : V} {x : Str} (h : Da H v (plP x)) : ∃ r, v = .ref r ∧ H r = some (.tup ((Txt.split x point).map V.str)) := by
  cases h with
  | @tup r xs _ er hall =>
  rw [stL_vals hall] at er
  exact ⟨r, rfl, er⟩
/-- a list of places, as it grows -/
def Ps (H : Hp) (D : Addr) (ws : List Str) (H' : Hp) : Prop := ∃ acc : List V, H' D = some (.lst acc) ∧ acc.length = ws.length ∧ DaAll (hid D H') acc (ws.map plP) ∧ ∀ b o, b ≠ D → H b = some o → H' b = some o
theorem Ps.start {H : Hp} {D : Addr} (hD : H D = none) : Ps H D [] (upd H D (.lst [])) := by
  refine ⟨[], upd_same, rfl, .nil, fun b o n e => ?_⟩
  rw [upd_ne n]
  exact e
theorem Ps.keep {H H' : Hp} {D : Addr} {ws : List Str} (hD : H D = none) (h : Ps H D ws H') : Same H H' := by
  obtain ⟨_, _, _, _, h⟩ := h
  exact fun b o e => h b o (ne_of_none e hD) e
theorem hidU {a : Addr} {H : Hp} {o : HO} : ∀ b u, hid a H b = some u → hid a (upd H a o) b = some u := fun b u e => by
  obtain ⟨e1, e2⟩ := of_hid e
  exact hid_of (by rw [upd_ne e2]; exact e1) e2
theorem Ps.next {H H' H3 : Hp} {D : Addr} {ws : List Str} {x : Str} {v : V} (h : Ps H D ws H') (hl : ws.length ≤ 2001) (s : Same H' H3) (hv : Da H3 v (plP x)) :
    ∃ acc, H3 D = some (.lst acc) ∧ acc.length < sizeLine ∧ Ps H D (ws ++ [x]) (upd H3 D (.lst (acc ++ [v]))) := by
  obtain ⟨acc, h1, h2, h3, h4⟩ := h
  obtain ⟨r, rfl, er⟩ := plP_at hv
  have e3 := s _ _ h1
  have rD : r ≠ D := fun z => by rw [z, e3] at er; cases er
  refine ⟨acc, e3, Nat.lt_of_le_of_lt (show _ ≤ 2001 by omega) (by decide), acc ++ [.ref r], upd_same, by simp [h2], ?_, fun b' o n e => ?_⟩
  · rw [List.map_append]
    refine DaAll.app (.cons (.tup (hid_of (by rw [upd_ne rD]; exact er) rD) (da_stL _)) .nil) ((hallS s h3).keep fun b o e _ => hidU b o e)
  · rw [upd_ne n]
    exact s _ _ (h4 b' o n e)
theorem Ps.da {H H' : Hp} {D : Addr} {ws : List Str} (h : Ps H D ws H') : Da H' (.ref D) (.list (ws.map plP)) := by
  obtain ⟨acc, h1, h2, h3, h4⟩ := h
  exact .lst h1 (h3.keep fun b o e _ => (of_hid e).1)
theorem take_next {ws : List Str} {j : Nat} {w : Str} (h : ws[j]? = some w) : ws.take j ++ [w] = ws.take (j + 1) := by
  rw [List.take_add_one, h]
  rfl
theorem w_stL : ∀ l : List Str, PyData.weightAll (stL l) = (l.map (·.length)).sum + l.length
  | [] => rfl
  | x :: l => by
    have ih := w_stL l
    show x.cps.size + 1 + PyData.weightAll (stL l) = _
    rw [ih, List.map_cons, List.sum_cons, List.length_cons]
    show x.length + 1 + _ = _
    omega
theorem w_plP (x : Str) : (plP x).weight ≤ x.length + 1 := by
  show PyData.weightAll (stL _) ≤ _
  rw [w_stL]
  exact cut_weight x point (by decide +kernel)
theorem w_pls : ∀ l : List Str, PyData.weightAll (l.map plP) ≤ (l.map (·.length)).sum + 2 * l.length
  | [] => Nat.le_refl _
  | x :: l => by
    have ih := w_pls l
    have h1 := w_plP x
    show (plP x).weight + 1 + PyData.weightAll (l.map plP) ≤ _
    rw [List.map_cons, List.sum_cons, List.length_cons]
    omega
theorem w_numP {x : Str} (hl : x.length ≤ 2000) : (numP x).weight ≤ 7001 := by
  unfold numP
  by_cases h : isNum x = true
  · rw [if_pos h]
    have hf : isFig x = true := by
      unfold isNum at h
      rw [Bool.and_eq_true] at h
      exact h.1
    have b1 := val_log (fig_all hf).1 (by rw [← len_cps]; omega)
    show (if numV x == 0 then 0 else (numV x).natAbs.log2 + 1) ≤ 7001
    have b2 : (numV x).natAbs.log2 < 7000 := b1
    split <;> omega
  · rw [if_neg h]
    exact Nat.zero_le _
theorem w_app : ∀ (a b : List PyData), PyData.weightAll (a ++ b) = PyData.weightAll a + PyData.weightAll b := wAll_app
theorem w_ruleP {w0 w1 w2 w3 : Str} {r : List Str} (h : Few (w0 :: w1 :: w2 :: w3 :: r)) : (ruleP w0 w2 (w3 :: r)).weight ≤ 14000 := by
  have hl := h
  unfold Few at hl
  simp only [List.map_cons, List.sum_cons, List.length_cons] at hl
  have h0 := w_plP w0
  have h2 := w_numP (x := w2) (h.one (by simp))
  have h3 := w_pls (w3 :: r)
  simp only [List.map_cons, List.sum_cons, List.length_cons] at h3
  show PyData.weightAll (stL (Txt.split w0 point) ++ [numP w2, .list ((w3 :: r).map plP)]) ≤ 14000
  rw [w_app]
  show (plP w0).weight + ((numP w2).weight + 1 + (PyData.weightAll ((w3 :: r).map plP) + 1 + 0)) ≤ 14000
  have e : (List.map plP (w3 :: r)) = plP w3 :: List.map plP r := rfl
  rw [e]
  omega
end K65
set_option Elab.async false
set_option linter.all false
set_option maxRecDepth 100000
set_option maxHeartbeats 4000000
namespace K65
open PySem L2 Ld GxR Gx
theorem four_more : ∀ {ws : List Str}, ¬ ws.length < 4 → ∃ w0 w1 w2 w3 r, ws = w0 :: w1 :: w2 :: w3 :: r
  | w0 :: w1 :: w2 :: w3 :: r, _ => ⟨_, _, _, _, _, rfl⟩
  | [], h => absurd (by simp) h
  | [_], h => absurd (by simp) h
  | [_, _], h => absurd (by simp) h
  | [_, _, _], h => absurd (by simp) h
theorem dueR_short : ∀ {ws : List Str}, ws.length < 4 → dueR ws = .none
  | [], _ => rfl
  | [_], _ => rfl
  | [_, _], _ => rfl
  | [_, _, _], _ => rfl
  | _ :: _ :: _ :: _ :: r, h => by
    simp only [List.length_cons] at h
    omega
theorem at_str {ws : List Str} {j : Nat} {x : Str} (h : ws[j]? = some x) : atI (ws.map V.str) (j : Int) = some (.str x) := atI_nat (by rw [List.getElem?_map, h]; rfl)
section
variable {P : Program} {w : World} {K : PySem.W.Frag} {mg : Str → Option Value} {base : Heap}
theorem ok_rule_in {f fA fN fR : Addr} {fd fdA fdN fdR : FuncData} (F : Fun K "rule_in" "rule_in" s_rule_in f fd) (G_place_in : FnOk P w K mg base CX0 1 fA fdA ["word"] spPlaceIn) (g_place_in : mg "place_in" = some (.ref fA)) (k_place_in : PySem.W.keepIn K (.ref fA) = true) (b_place_in : Binds K fdA ["word"] [])
    (G_number_in : FnOk P w K mg base CX0 1 fN fdN ["word"] spNumP) (g_number_in : mg "number_in" = some (.ref fN)) (k_number_in : PySem.W.keepIn K (.ref fN) = true) (b_number_in : Binds K fdN ["word"] [])
    (G_is_rule : FnOk P w K mg base CX0 8 fR fdR ["thing"] spRuleP) (g_is_rule : mg "is_rule" = some (.ref fR)) (k_is_rule : PySem.W.keepIn K (.ref fR) = true) (b_is_rule : Binds K fdR ["thing"] []) (z_len : mg "len" = none) : FnOk P w K mg base CX0 9 f fd ["words"] spRuleIn := by
  refine F.ok sc_rule_in (fun vs H Q E h => ?_) (fun cdv A outer s H vs Q E hr h => ?_)
  · obtain ⟨p, ws, rfl, _⟩ := h
    rfl
  · obtain ⟨p, ws, rfl, hp, q⟩ := h
    refine ⟨_, (pss_cons (ps_if (PW.pt (pw_or (pt_cmpR op_lt (pe_callB (call_len_seq) (by rfl) z_len (by decide +kernel) (pa_cons (pv 0) pa_nil)) pe_int (nomark _)) (pw_or1 (pt_cmpR op_ne (pe_ix ix_list (pv 0) pe_int (fun _ _ => rfl)) pe_str (nomark _))))) (pss_one (ps_ret pe_non)) pss_nil)
  (pss_cons (ps_set (i := 1) sc_rule_in.nd rfl (Or.inl rfl) (pe_tup (StX.pa_star (pe_call G_place_in (hr.mono (by decide)) (by rfl) g_place_in k_place_in b_place_in .nil pass0 (pa_cons (pe_ix ix_list (pv 0) pe_int (fun _ _ => rfl)) pa_nil)) (pa_cons (pe_call G_number_in (hr.mono (by decide)) (by rfl) g_number_in k_number_in b_number_in .nil pass0 (pa_cons (pe_ix ix_list (pv 0) pe_int (fun _ _ => rfl)) pa_nil)) (pa_cons (pe_lc (own := [("word", 2)]) (g := gName 2) rfl sc_rule_in.nd (pi_list (pe_slice sl_list (pv 0) (po_some pe_int) po_none)) (blkOk_by (own := [("word", 2)]) (N := N_rule_in) (sc := defScope s_rule_in) (by decide +kernel)) (fun _ _ _ _ _ => pg_name (i := 2) sc_rule_in.nd rfl (Or.inl rfl)) (fun _ _ _ _ _ => pts_nil) (fun _ _ _ _ _ => (pe_call G_place_in (hr.mono (by decide)) (by rfl) g_place_in k_place_in b_place_in .nil pass0 (pa_cons (pv 2) pa_nil)))) pa_nil)))))
  (pss_one (ps_ret (pe_ifExp (pt_val (pe_call G_is_rule (hr.mono (by decide)) (by rfl) g_is_rule k_is_rule b_is_rule .nil pass0 (pa_cons (pv 1) pa_nil))) (pv 1) pe_non))))), ?_⟩
    obtain ⟨e0, hw⟩ := hp
    refine ⟨_, rfl, p, _, rfl, .inl (.inl (.inl e0)), _, _, rfl, rfl, _, rfl, ?_⟩
    by_cases h4 : ws.length < 4
    · refine itY (by rw [List.length_map]; simp; omega) ?_
      rw [dueR_short h4] at q
      exact q _ H (Same.refl H) .non fr_non
    refine itN (by rw [List.length_map]; simp; omega) ?_
    obtain ⟨w0, w1, w2, w3, r, rfl⟩ := four_more h4
    have eD : dueR (w0 :: w1 :: w2 :: w3 :: r) = if w1 = "=" ∧ ruleD (ruleP w0 w2 (w3 :: r)) = true then ruleP w0 w2 (w3 :: r) else .none := rfl
    rw [eD] at q
    refine ⟨_, rfl, p, _, 1, .str w1, rfl, rfl, .inl (.inl e0), at_str (j := 1) rfl, rfl, _, rfl, ?_⟩
    by_cases h1 : w1 = "="
    rotate_left
    · refine itY (by simpa using h1) ?_
      rw [if_neg (fun z => h1 z.1)] at q
      exact q _ H (Same.refl H) .non fr_non
    refine itN (by simpa using h1) ?_
    refine ⟨_, rfl, p, _, 0, .str w0, rfl, rfl, .inl (.inl e0), at_str (j := 0) rfl, w0, rfl, hw.one (by simp), fun v1 H1 g1 d1 => ?_⟩
    obtain ⟨r1, rfl, er1⟩ := plP_at d1
    refine ⟨r1, _, rfl, .inl (.inl (.inl er1)), ?_⟩
    refine ⟨_, rfl, p, _, 2, .str w2, rfl, rfl, .inl (.inl (g1 _ _ e0)), at_str (j := 2) rfl, w2, rfl, hw.one (by simp), ?_⟩
    refine ⟨_, rfl, 3, rfl, ?_⟩
    dsimp only [tNoPart]
    refine ⟨p, _, rfl, .inl (.inl (g1 _ _ e0)), fun p2 n2 => ?_⟩
    obtain ⟨H2, g2, e2, hq2⟩ := newH n2 (o := _)
    rw [hq2]
    rw [show cutV (List.map V.str (w0 :: w1 :: w2 :: w3 :: r)) (some 3) none = (w3 :: r).map V.str from sub_drop (i := 3)] at e2
    refine ⟨p2, rfl, ⟨_, .inl (.inl e2)⟩, fun D nD => ?_⟩
    have s02 := Same.trans g1 g2
    refine lc_list (K := K) (a := p2) (xs := (w3 :: r).map V.str) (fun j H'' => Ps H2 D ((w3 :: r).take j) H'') (Ps.start nD) (fun j H'' _ hP => .inl (.inl (hP.keep nD _ _ e2))) (fun j u H'' hu hP => ?_) fun H3 hP => ?_
    · rw [List.getElem?_map] at hu
      obtain ⟨x, hx, rfl⟩ := Option.map_eq_some_iff.mp hu
      have hxm : x ∈ w3 :: r := List.mem_of_getElem? hx
      refine ⟨rfl, yes ?_⟩
      refine ⟨_, rfl, x, rfl, hw.one (by simp only [List.mem_cons] at hxm ⊢; exact .inr (.inr (.inr hxm))), fun v4 H4 g4 d4 => ?_⟩
      have hlen := hw.len
      have := hP.next (by rw [List.length_take]; simp only [List.length_cons] at hlen ⊢; omega) g4 d4
      rw [take_next hx] at this
      exact this
    · have s23 := hP.keep nD
      rw [List.length_map, List.take_length] at hP
      refine ⟨small20 ?_, fun p5 n5 => ?_⟩
      · have hc := cut_weight w0 point (by decide +kernel)
        have h0 := hw.one (w := w0) (by simp)
        simp only [List.length_append, List.length_map, List.length_cons, List.length_nil]
        omega
      obtain ⟨H5, g5, e5, hq5⟩ := newH n5 (o := _)
      rw [hq5]
      have dr : Da H5 (.ref p5) (ruleP w0 w2 (w3 :: r)) := .tup e5 (DaAll.app (.cons (da_numP w2) (.cons (Same.da g5 hP.da) .nil)) (da_stL _))
      have s05 : Same H H5 := Same.trans s02 (Same.trans s23 g5)
      have hwt := w_ruleP hw
      refine ⟨_, rfl, .ref p5, ruleP w0 w2 (w3 :: r), rfl, dr, by omega, fun H6 g6 => ⟨_, rfl, ?_⟩⟩
      by_cases hd : ruleD (ruleP w0 w2 (w3 :: r)) = true
      · refine itT hd ?_
        rw [if_pos ⟨h1, hd⟩] at q
        refine ⟨_, rfl, q _ H6 (Same.trans s05 g6) (Same.da g6 dr) (fr_mk (g6 _ _ e5) fun z hz => ?_)⟩
        have hz := List.mem_of_getElem? hz
        simp only [List.mem_append, List.mem_map, List.mem_cons, List.not_mem_nil, or_false] at hz
        rcases hz with ⟨_, _, hz⟩ | hz | hz
        · cases hz
        · split at hz <;> cases hz
        · cases hz
          exact Same.free s02 nD
      · refine itF (by simpa using hd) ?_
        rw [if_neg (fun z => hd z.2)] at q
        exact q _ H6 (Same.trans s05 g6) .non fr_non
end
end K65
set_option Elab.async false
set_option linter.all false
set_option maxRecDepth 100000
set_option maxHeartbeats 4000000
namespace K65
open PySem L2 Ld GxR Gx
/-! whats put together -/
abbrev s_what_in : Stmt := topS 37
abbrev N_what_in : List Str := ["words", "word"]
theorem sc_what_in : FnScope N_what_in ["words"] (defScope s_what_in) := ⟨rfl, rfl, rfl, by decide +kernel, rfl, by decide +kernel, by decide +kernel⟩
def spWhatIn : Sp := fun vs H Q _ => ∃ (p : Addr) (w0 : Str) (r : List Str), vs = [.ref p] ∧ Wd H p (w0 :: r) ∧ ∀ (v : V) (H' : Hp), Same H H' → Da H' v (whatP (w0 :: r)) → Fr H H' v → Q v H'
theorem take_map (ws : List Str) (n : Nat) (h : n ≤ ws.length) : cutV (ws.map V.str) none (some (n : Int)) = (ws.take n).map V.str := by
  rw [sub_take (by rw [List.length_map]; exact h), List.map_take]
theorem take_all (ws : List Str) (n : Nat) (h : ws.length ≤ n) : cutV (ws.map V.str) none (some (n : Int)) = (ws.take n).map V.str := by
  rw [List.take_of_length_le h]
  refine cut_whole ⟨HT.sIx_none _ _, ?_⟩
  rw [HT.sIx_nat, Nat.min_eq_right (by rw [List.length_map]; exact h)]
theorem take_two (ws : List Str) : cutV (ws.map V.str) none (some 2) = (ws.take 2).map V.str := by
  by_cases h : 2 ≤ ws.length
  · exact take_map ws 2 h
  · exact take_all ws 2 (by omega)
section
variable {P : Program} {w : World} {K : PySem.W.Frag} {mg : Str → Option Value} {base : Heap}
theorem ok_what_in {f fA fN fL : Addr} {fd fdA fdN fdL : FuncData} (F : Fun K "what_in" "what_in" s_what_in f fd) (G_place_in : FnOk P w K mg base CX0 1 fA fdA ["word"] spPlaceIn) (g_place_in : mg "place_in" = some (.ref fA)) (k_place_in : PySem.W.keepIn K (.ref fA) = true) (b_place_in : Binds K fdA ["word"] [])
    (G_number_in : FnOk P w K mg base CX0 1 fN fdN ["word"] spNumP) (g_number_in : mg "number_in" = some (.ref fN)) (k_number_in : PySem.W.keepIn K (.ref fN) = true) (b_number_in : Binds K fdN ["word"] [])
    (G_letter_in : FnOk P w K mg base CX0 2 fL fdL ["words"] spLetterIn) (g_letter_in : mg "letter_in" = some (.ref fL)) (k_letter_in : PySem.W.keepIn K (.ref fL) = true) (b_letter_in : Binds K fdL ["words"] []) (z_len : mg "len" = none) (z_tuple : mg "tuple" = none) : FnOk P w K mg base CX0 3 f fd ["words"] spWhatIn := by
  refine F.ok sc_what_in (fun vs H Q E h => ?_) (fun cdv A outer s H vs Q E hr h => ?_)
  · obtain ⟨p, w0, r, rfl, _⟩ := h
    rfl
  · obtain ⟨p, w0, r, rfl, hp, q⟩ := h
    refine ⟨_, (pss_cons (ps_if (pt_cmpR op_eq (pe_ix ix_list (pv 0) pe_int (fun _ _ => rfl)) pe_str (nomark _)) (pss_one (ps_ret (pe_tup (StX.pa_star (pe_slice sl_list (pv 0) po_none (po_some pe_int)) (pa_cons (pe_call G_letter_in (hr.mono (by decide)) (by rfl) g_letter_in k_letter_in b_letter_in .nil pass0 (pa_cons (pe_slice sl_list (pv 0) (po_some pe_int) po_none) pa_nil)) pa_nil))))) pss_nil)
  (pss_cons (ps_if (PW.pt (pw_and (pt_cmpR op_eq (pe_ix ix_list (pv 0) pe_int (fun _ _ => rfl)) pe_str (nomark _)) (pw_and1 (pt_cmpR op_gt (pe_callB (call_len_seq) (by rfl) z_len (by decide +kernel) (pa_cons (pv 0) pa_nil)) pe_int (nomark _))))) (pss_one (ps_ret (pe_tup (StX.pa_star (pe_slice sl_list (pv 0) po_none (po_some pe_int)) (pa_cons (pe_call G_number_in (hr.mono (by decide)) (by rfl) g_number_in k_number_in b_number_in .nil pass0 (pa_cons (pe_ix ix_list (pv 0) pe_int (fun _ _ => rfl)) pa_nil)) (pa_cons (pe_lc (own := [("word", 1)]) (g := gName 1) rfl sc_what_in.nd (pi_list (pe_slice sl_list (pv 0) (po_some pe_int) po_none)) (blkOk_by (own := [("word", 1)]) (N := N_what_in) (sc := defScope s_what_in) (by decide +kernel)) (fun _ _ _ _ _ => pg_name (i := 1) sc_what_in.nd rfl (Or.inl rfl)) (fun _ _ _ _ _ => pts_nil) (fun _ _ _ _ _ => (pe_call G_place_in (hr.mono (by decide)) (by rfl) g_place_in k_place_in b_place_in .nil pass0 (pa_cons (pv 1) pa_nil)))) pa_nil)))))) pss_nil)
  (pss_cons (ps_if (PW.pt (pw_and (pt_cmpR op_eq (pe_ix ix_list (pv 0) pe_int (fun _ _ => rfl)) pe_str (nomark _)) (pw_and1 (pt_cmpR op_eq (pe_callB (call_len_seq) (by rfl) z_len (by decide +kernel) (pa_cons (pv 0) pa_nil)) pe_int (nomark _))))) (pss_one (ps_ret (pe_tup (pa_cons pe_str (pa_cons (pe_call G_number_in (hr.mono (by decide)) (by rfl) g_number_in k_number_in b_number_in .nil pass0 (pa_cons (pe_ix ix_list (pv 0) pe_int (fun _ _ => rfl)) pa_nil)) pa_nil))))) pss_nil)
  (pss_one (ps_ret (pe_callTy call_tuple_of (by rfl) z_tuple (by decide +kernel) (pa_cons (pv 0) pa_nil))))))), ?_⟩
    obtain ⟨e0, hw⟩ := hp
    refine ⟨_, rfl, p, _, 0, .str w0, rfl, rfl, .inl (.inl e0), at_str (j := 0) rfl, rfl, _, rfl, ?_⟩
    by_cases h1 : w0 = "hear"
    · subst h1
      refine itY (by simp) ?_
      refine ⟨_, rfl, 2, rfl, p, _, rfl, .inl (.inl e0), fun p1 n1 => ?_⟩
      obtain ⟨H1, g1, e1, hq1⟩ := newH n1 (o := _)
      rw [hq1]
      rw [take_two] at e1
      refine ⟨p1, _, rfl, .inr (.inl (.inl e1)), ?_⟩
      refine ⟨_, rfl, 2, rfl, ?_⟩
      dsimp only [tNoPart]
      refine ⟨p, _, rfl, .inl (.inl (g1 _ _ e0)), fun p2 n2 => ?_⟩
      obtain ⟨H2, g2, e2, hq2⟩ := newH n2 (o := _)
      rw [hq2]
      rw [show cutV (List.map V.str ("hear" :: r)) (some 2) none = ((("hear" : Str) :: r).drop 2).map V.str from (sub_drop (i := 2)).trans (List.map_drop).symm] at e2
      refine ⟨p2, _, rfl, ⟨e2, hw.drop 2⟩, fun v3 H3 g3 d3 => ?_⟩
      refine ⟨small20 ?_, fun p4 n4 => ?_⟩
      · simp only [List.length_append, List.length_map, List.length_take, List.length_cons, List.length_nil]
        omega
      obtain ⟨H4, g4, e4, hq4⟩ := newH n4 (o := _)
      rw [hq4]
      rw [hear_P] at q
      refine q _ H4 (Same.trans g1 (Same.trans g2 (Same.trans g3 g4))) (.tup e4 (DaAll.app (.cons (Same.da g4 d3) .nil) (da_stL _))) (fr_mk e4 fun z hz => ?_)
      have hlz := (List.getElem?_eq_some_iff.mp hz).1
      simp only [List.length_append, List.length_map, List.length_take, List.length_cons, List.length_nil] at hlz
      omega
    refine itN (by simpa using h1) ?_
    refine ⟨_, rfl, p, _, 0, .str w0, rfl, rfl, .inl (.inl e0), at_str (j := 0) rfl, rfl, _, rfl, ?_⟩
    have last : whatP (w0 :: r) = .tuple (stL (w0 :: r)) → ∀ p2, H p2 = none → Q (.ref p2) (upd H p2 (.tup ((w0 :: r).map V.str))) := fun e p2 n2 => by
      obtain ⟨H2, g2, e2, hq2⟩ := newH n2 (o := .tup ((w0 :: r).map V.str))
      rw [hq2]
      rw [e] at q
      exact q _ H2 g2 (.tup e2 (da_stL _)) (fr_strs e2)
    by_cases h2 : w0 = "lean"
    · subst h2
      refine itY (by simp) ?_
      refine ⟨_, rfl, p, _, rfl, .inl (.inl (.inl e0)), _, _, rfl, rfl, _, rfl, ?_⟩
      by_cases h3 : 2 < (("lean" : Str) :: r).length
      · refine itY (by rw [List.length_map]; simp only [decide_eq_true_eq]; omega) ?_
        obtain ⟨a, b, r', rfl⟩ : ∃ a b r', r = a :: b :: r' := by
          match r, h3 with
          | a :: b :: r', _ => exact ⟨a, b, r', rfl⟩
          | [], h => simp at h
          | [_], h => simp at h
        rw [lean_P, if_pos h3] at q
        refine ⟨_, rfl, 2, rfl, p, _, rfl, .inl (.inl e0), fun p1 n1 => ?_⟩
        obtain ⟨H1, g1, e1, hq1⟩ := newH n1 (o := _)
        rw [hq1]
        rw [take_two] at e1
        refine ⟨p1, _, rfl, .inr (.inl (.inl e1)), ?_⟩
        refine ⟨_, rfl, p, _, 2, .str b, rfl, rfl, .inl (.inl (g1 _ _ e0)), at_str (j := 2) rfl, b, rfl, hw.one (by simp), ?_⟩
        refine ⟨_, rfl, 3, rfl, ?_⟩
        dsimp only [tNoPart]
        refine ⟨p, _, rfl, .inl (.inl (g1 _ _ e0)), fun p2 n2 => ?_⟩
        obtain ⟨H2, g2, e2, hq2⟩ := newH n2 (o := _)
        rw [hq2]
        rw [show cutV (List.map V.str ("lean" :: a :: b :: r')) (some 3) none = r'.map V.str from sub_drop (i := 3)] at e2
        refine ⟨p2, rfl, ⟨_, .inl (.inl e2)⟩, fun D nD => ?_⟩
        have s02 := Same.trans g1 g2
        refine lc_list (K := K) (a := p2) (xs := r'.map V.str) (fun j H'' => Ps H2 D (r'.take j) H'') (Ps.start nD) (fun j H'' _ hP => .inl (.inl (hP.keep nD _ _ e2))) (fun j u H'' hu hP => ?_) fun H3 hP => ?_
        · rw [List.getElem?_map] at hu
          obtain ⟨x, hx, rfl⟩ := Option.map_eq_some_iff.mp hu
          have hxm : x ∈ r' := List.mem_of_getElem? hx
          refine ⟨rfl, yes ?_⟩
          refine ⟨_, rfl, x, rfl, hw.one (by simp only [List.mem_cons]; exact .inr (.inr (.inr hxm))), fun v4 H4 g4 d4 => ?_⟩
          have hlen := hw.len
          have := hP.next (by rw [List.length_take]; simp only [List.length_cons] at hlen ⊢; omega) g4 d4
          rw [take_next hx] at this
          exact this
        · have s23 := hP.keep nD
          rw [List.length_map, List.take_length] at hP
          refine ⟨small20 (by simp), fun p5 n5 => ?_⟩
          obtain ⟨H5, g5, e5, hq5⟩ := newH n5 (o := _)
          rw [hq5]
          exact q _ H5 (Same.trans s02 (Same.trans s23 g5)) (.tup e5 (.cons (.str _) (.cons (.str _) (.cons (da_numP b) (.cons (Same.da g5 hP.da) .nil))))) (fr_mk e5 fun z hz => by cases hz; exact Same.free s02 nD)
      · refine itN (by rw [List.length_map]; simp only [decide_eq_true_eq]; omega) ?_
        refine ⟨_, rfl, p, _, 0, .str "lean", rfl, rfl, .inl (.inl e0), at_str (j := 0) rfl, rfl, _, rfl, ?_⟩
        refine itN (by decide) ?_
        exact ⟨_, rfl, p, _, rfl, .inl ⟨.inl (.inl e0), last (by rw [lean_P, if_neg h3])⟩⟩
    · refine itN (by simpa using h2) ?_
      refine ⟨_, rfl, p, _, 0, .str w0, rfl, rfl, .inl (.inl e0), at_str (j := 0) rfl, rfl, _, rfl, ?_⟩
      by_cases h3 : w0 = "drop"
      · subst h3
        refine itY (by simp) ?_
        refine ⟨_, rfl, p, _, rfl, .inl (.inl (.inl e0)), rfl, _, rfl, ?_⟩
        by_cases h4 : (("drop" : Str) :: r).length = 2
        · refine itY (by rw [List.length_map, h4]; simp) ?_
          obtain ⟨a, rfl⟩ : ∃ a, r = [a] := by
            match r, h4 with
            | [a], _ => exact ⟨a, rfl⟩
          rw [drop_P] at q
          refine ⟨_, rfl, p, _, 1, .str a, rfl, rfl, .inl (.inl e0), at_str (j := 1) rfl, a, rfl, hw.one (by simp), ?_⟩
          refine ⟨small20 (Nat.le_of_ble_eq_true rfl), fun p5 n5 => ?_⟩
          obtain ⟨H5, g5, e5, hq5⟩ := newH n5 (o := _)
          rw [hq5]
          exact q _ H5 g5 (.tup e5 (.cons (.str _) (.cons (da_numP a) .nil))) (fr_mk e5 fun z hz => by cases hz)
        · refine itN (by rw [List.length_map]; simp only [decide_eq_true_eq, V.int.injEq]; omega) ?_
          exact ⟨_, rfl, p, _, rfl, .inl ⟨.inl (.inl e0), last (by rw [whatP_cons, if_neg h1, if_neg (fun z => h2 z.1), if_neg (fun z => h4 z.2)])⟩⟩
      · refine itN (by simpa using h3) ?_
        exact ⟨_, rfl, p, _, rfl, .inl ⟨.inl (.inl e0), last (by rw [whatP_cons, if_neg h1, if_neg (fun z => h2 z.1), if_neg (fun z => h3 z.1)])⟩⟩
end
end K65
set_option Elab.async false
set_option linter.all false
set_option maxRecDepth 100000
set_option maxHeartbeats 4000000
namespace K65
open PySem L2 Ld GxR Gx
/-! each of the four is shown, or refused -/
abbrev s_is_place : Stmt := topS 12
abbrev N_is_place : List Str := ["thing"]
theorem sc_is_place : FnScope N_is_place ["thing"] (defScope s_is_place) := ⟨rfl, rfl, rfl, by decide +kernel, rfl, by decide +kernel, by decide +kernel⟩
def spPlaceP : Sp := fun vs H Q _ => ∃ (v : V) (d : PyData), vs = [v] ∧ Da H v d ∧ d.weight ≤ 20000 ∧ Q (.bl (placeD d)) H
theorem sum_len {n : Nat} : ∀ {ys : List Str}, (∀ y ∈ ys, y.length ≤ n) → (ys.map (·.length)).sum ≤ n * ys.length
  | [], _ => Nat.zero_le _
  | y :: ys, h => by
    have h1 := h y List.mem_cons_self
    have h2 := sum_len (ys := ys) fun z hz => h z (List.mem_cons_of_mem _ hz)
    rw [List.map_cons, List.sum_cons, List.length_cons, Nat.mul_succ]
    omega
theorem join_ok {sep : Str} {ys : List Str} (h1 : sep.length ≤ 4) (h2 : ys.length ≤ 1000) (h3 : ∀ y ∈ ys, y.length ≤ 60) : (ys.map (·.length)).sum + ys.length * sep.length ≤ 16777216 := by
  have e1 := sum_len h3
  have e2 : ys.length * sep.length ≤ 1000 * 4 := Nat.mul_le_mul h2 h1
  omega
theorem place_at {H : Hp} {v : V} {d : PyData} (hd : Da H v d) (h : placeD d = true) : ∃ (r : Addr) (x y : Str), v = .ref r ∧ H r = some (.tup [.str x, .str y]) ∧ x.length ≤ 8 ∧ y.length ≤ 8 := by
  obtain ⟨x, y, rfl, h1, h2⟩ := place_len h
  cases hd with
  | @tup r xs _ er hall =>
  cases hall with
  | cons d0 hall =>
  cases d0
  cases hall with
  | cons d0 hall =>
  cases d0
  cases hall
  exact ⟨r, x, y, rfl, er, h1, h2⟩
section
variable {P : Program} {w : World} {K : PySem.W.Frag} {mg : Str → Option Value} {base : Heap}
theorem ok_is_place {f fN : Addr} {fd fdN : FuncData} (F : Fun K "is_place" "is_place" s_is_place f fd) (G_is_name : FnOk P w K mg base CX0 2 fN fdN ["thing"] spNameE) (g_is_name : mg "is_name" = some (.ref fN)) (k_is_name : PySem.W.keepIn K (.ref fN) = true) (b_is_name : Binds K fdN ["thing"] [])
    (z_type : mg "type" = none) (z_tuple : mg "tuple" = none) (z_len : mg "len" = none) : FnOk P w K mg base CX0 3 f fd ["thing"] spPlaceP := by
  refine F.ok sc_is_place (fun vs H Q E h => ?_) (fun cdv A outer s H vs Q E hr h => ?_)
  · obtain ⟨v, d, rfl, _⟩ := h
    rfl
  · obtain ⟨v, d, rfl, hd, hw, q⟩ := h
    have hu1 := hu_of hr
    refine ⟨_, (pss_cons (ps_if (PW.pt (pw_or (pt_cmpR (op_neTy hu1) (pe_callTy call_type1 (by rfl) z_type (by decide +kernel) (pa_cons (pv 0) pa_nil)) (pe_bltn (v := .ty "tuple") (by rfl) z_tuple (by decide +kernel) rfl) (nomark _)) (pw_or1 (pt_cmpR op_ne (pe_callB (call_len_seq) (by rfl) z_len (by decide +kernel) (pa_cons (pv 0) pa_nil)) pe_int (nomark _))))) (pss_one (ps_ret pe_bl)) pss_nil)
  (pss_one (ps_ret (pe_and (pe_call G_is_name (hr.mono (by decide)) (by rfl) g_is_name k_is_name b_is_name .nil pass0 (pa_cons (pe_ix ix_tup (pv 0) pe_int (fun _ _ => rfl)) pa_nil)) (pe_one (pe_call G_is_name (hr.mono (by decide)) (by rfl) g_is_name k_is_name b_is_name .nil pass0 (pa_cons (pe_ix ix_tup (pv 0) pe_int (fun _ _ => rfl)) pa_nil))))))), ?_⟩
    obtain ⟨ht, hk⟩ := tyb_of (K := K) hd
    refine ⟨_, rfl, _, tyD d, rfl, ht, tyD d, "tuple", rfl, rfl, hk, .tuple, _, rfl, ?_⟩
    by_cases e : tyD d = "tuple"
    · obtain ⟨ds, rfl⟩ := tuple_of_ty e
      refine itF (by rw [decide_eq_true e]; rfl) ?_
      cases hd with
      | @tup r xs _ er hall =>
      have ln : xs.length = ds.length := hall.len
      refine ⟨_, rfl, r, xs, rfl, .inr (.inl (.inl er)), rfl, _, rfl, ?_⟩
      by_cases h2 : xs.length = 2
      · refine itN (by simp [h2]) ?_
        obtain ⟨v0, v1, d0, d1, rfl, rfl, h0, h1⟩ := two_of hall h2
        obtain ⟨w0, w1⟩ := w_pair hw
        refine ⟨_, rfl, r, _, 0, v0, rfl, rfl, .inl (.inl er), atI_nat (j := 0) rfl, v0, d0, rfl, h0, w0, ?_⟩
        refine ⟨_, rfl, ?_⟩
        by_cases c0 : nameD d0 = true
        · refine itY c0 ?_
          refine ⟨_, rfl, r, _, 1, v1, rfl, rfl, .inl (.inl er), atI_nat (j := 1) rfl, v1, d1, rfl, h1, w1, ?_⟩
          have e1 : placeD (.tuple [d0, d1]) = nameD d1 := by
            show (nameD d0 && nameD d1) = _
            rw [c0, Bool.true_and]
          rw [← e1]
          exact q
        · refine itN c0 ?_
          have e1 : placeD (.tuple [d0, d1]) = false := by
            show (nameD d0 && nameD d1) = _
            rw [Bool.not_eq_true] at c0
            rw [c0, Bool.false_and]
          rw [e1] at q
          exact q
      · refine itY (by simp; omega) ?_
        rw [placeD_len (by rw [← ln]; exact h2)] at q
        exact q
    · refine itT (by rw [decide_eq_false e]; rfl) ?_
      have e1 : placeD d = false := by
        cases d with
        | tuple ds => exact absurd rfl e
        | _ => rfl
      rw [e1] at q
      exact q
end
end K65
set_option Elab.async false
set_option linter.all false
set_option maxRecDepth 100000
set_option maxHeartbeats 5000000
namespace K65
open PySem L2 Ld GxR Gx
/-! the four readers -/
def wds (t : Str) : List Str := Txt.split t blank
def dueOf : Nat → Str → PyData
  | 0, t => if placeD (plP t) = true then plP t else .none
  | 1, t => dueR (wds t)
  | 2, t => if letterD (letterP (wds t)) = true then letterP (wds t) else .none
  | _, t => if whatD (whatP (wds t)) = true then whatP (wds t) else .none
def spReads (due : Str → PyData) : Sp := fun vs H Q _ => ∃ t : Str, vs = [.str t] ∧ t.length ≤ 2000 ∧ due t ≠ .none ∧ ∀ (v : V) (H' : Hp), Same H H' → Da H' v (due t) → Fr H H' v → Q v H'
def spWordsP : Sp := fun vs H Q _ => ∃ t : Str, vs = [.str t] ∧ t.length ≤ 2000 ∧ ∀ (p : Addr) (H' : Hp), Same H H' → Wd H' p (wds t) → Q (.ref p) H'
theorem w_few {ws : List Str} (h : Few ws) : PyData.weightAll (stL ws) ≤ 2001 := by
  rw [w_stL]
  exact h
theorem w_letterP {ws : List Str} (h : Few ws) : (letterP ws).weight ≤ 12000 := by
  by_cases h3 : ws.length = 3
  · match ws, h3 with
    | [a, b, c], _ =>
      have ha := h.one (w := a) (by simp)
      have hb := h.one (w := b) (by simp)
      have hc := w_numP (x := c) (h.one (by simp))
      show a.cps.size + 1 + (b.cps.size + 1 + ((numP c).weight + 1 + 0)) ≤ 12000
      have ha : a.cps.size ≤ 2000 := ha
      have hb : b.cps.size ≤ 2000 := hb
      omega
  · rw [letterP_other h3]
    have := w_few h
    show PyData.weightAll (stL ws) ≤ 12000
    omega
theorem w_whatP {w0 : Str} {r : List Str} (h : Few (w0 :: r)) : (whatP (w0 :: r)).weight ≤ 17000 := by
  rw [whatP_cons]
  have hf := w_few h
  split
  · have h2 := w_letterP (h.drop 2)
    show PyData.weightAll (stL ((w0 :: r).take 2) ++ [letterP ((w0 :: r).drop 2)]) ≤ 17000
    rw [w_app]
    have h3 : PyData.weightAll (stL ((w0 :: r).take 2)) ≤ PyData.weightAll (stL (w0 :: r)) := by
      have e : stL (w0 :: r) = stL ((w0 :: r).take 2) ++ stL ((w0 :: r).drop 2) := by
        unfold stL
        rw [← List.map_append, List.take_append_drop]
      rw [e, w_app]
      omega
    show _ + ((letterP ((w0 :: r).drop 2)).weight + 1 + 0) ≤ 17000
    omega
  · split
    · rename_i _ hl
      match r, hl with
      | a :: b :: r', _ =>
        have h0 : w0.cps.size ≤ 2000 := h.one (w := w0) (by simp)
        have ha : a.cps.size ≤ 2000 := h.one (w := a) (by simp)
        have hb := w_numP (x := b) (h.one (by simp))
        have h3 := w_pls r'
        have hl := h
        unfold Few at hl
        simp only [List.map_cons, List.sum_cons, List.length_cons] at hl
        show w0.cps.size + 1 + (a.cps.size + 1 + ((numP b).weight + 1 + (PyData.weightAll (r'.map plP) + 1 + 0))) ≤ 17000
        omega
      | [], hl => exact absurd hl.2 (by simp)
      | [_], hl => exact absurd hl.2 (by simp)
    · split
      · rename_i _ _ hl
        match r, hl with
        | [a], _ =>
          have hb := w_numP (x := a) (h.one (by simp))
          show ("drop" : Str).cps.size + 1 + ((numP a).weight + 1 + 0) ≤ 17000
          have : ("drop" : Str).cps.size = 4 := by decide +kernel
          omega
      · show PyData.weightAll (stL (w0 :: r)) ≤ 17000
        omega
theorem Fr.back {H H1 H' : Hp} {v : V} (h : Fr H1 H' v) (g : Same H H1) : Fr H H' v := fun r xs q e1 e2 e3 => Same.free g (h r xs q e1 e2 e3)
theorem Fr.keep {H H1 H2 : Hp} {v : V} {d : PyData} (h : Fr H H1 v) (hd : Da H1 v d) (g : Same H1 H2) : Fr H H2 v := fun r xs q e1 e2 e3 => by
  subst e1
  cases hd with
  | tup e _ =>
    rw [g _ _ e] at e2
    cases e2
    exact h r _ q rfl e e3
  | lst e _ =>
    rw [g _ _ e] at e2
    cases e2
  | dct e _ _ =>
    rw [g _ _ e] at e2
    cases e2
theorem fr_plP {H H' : Hp} {v : V} {t : Str} (hd : Da H' v (plP t)) : Fr H H' v := by
  obtain ⟨r, rfl, er⟩ := plP_at hd
  exact fr_strs er
theorem fr_letP {H H' : Hp} {v : V} {ws : List Str} (hd : Da H' v (letterP ws)) : Fr H H' v := by
  by_cases h3 : ws.length = 3
  · match ws, h3 with
    | [a, b, c], _ =>
      have hd : Da H' v (.tuple [.str a, .str b, numP c]) := hd
      cases hd with
      | @tup r xs _ e hall =>
        refine fr_mk e fun q hq => ?_
        have hl := hall.len
        have := (List.getElem?_eq_some_iff.mp hq).1
        simp only [List.length_cons, List.length_nil] at hl
        omega
  · rw [letterP_other h3] at hd
    cases hd with
    | @tup r xs _ e hall =>
      rw [stL_vals hall] at e
      exact fr_strs e
abbrev s_words_of : Stmt := topS 33
abbrev N_words_of : List Str := ["text"]
theorem sc_words_of : FnScope N_words_of ["text"] (defScope s_words_of) := ⟨rfl, rfl, rfl, by decide +kernel, rfl, by decide +kernel, by decide +kernel⟩
abbrev s_read_place : Stmt := topS 38
abbrev N_read_place : List Str := ["text", "place"]
theorem sc_read_place : FnScope N_read_place ["text"] (defScope s_read_place) := ⟨rfl, rfl, rfl, by decide +kernel, rfl, by decide +kernel, by decide +kernel⟩
abbrev s_read_rule : Stmt := topS 39
abbrev N_read_rule : List Str := ["text", "rule"]
theorem sc_read_rule : FnScope N_read_rule ["text"] (defScope s_read_rule) := ⟨rfl, rfl, rfl, by decide +kernel, rfl, by decide +kernel, by decide +kernel⟩
abbrev s_read_letter : Stmt := topS 40
abbrev N_read_letter : List Str := ["text", "letter"]
theorem sc_read_letter : FnScope N_read_letter ["text"] (defScope s_read_letter) := ⟨rfl, rfl, rfl, by decide +kernel, rfl, by decide +kernel, by decide +kernel⟩
abbrev s_read_what : Stmt := topS 41
abbrev N_read_what : List Str := ["text", "what"]
theorem sc_read_what : FnScope N_read_what ["text"] (defScope s_read_what) := ⟨rfl, rfl, rfl, by decide +kernel, rfl, by decide +kernel, by decide +kernel⟩
section
variable {P : Program} {w : World} {K : PySem.W.Frag} {mg : Str → Option Value} {base : Heap}
theorem ok_words_of {f : Addr} {fd : FuncData} (F : Fun K "words_of" "words_of" s_words_of f fd) (z_type : mg "type" = none) (z_str : mg "str" = none) : FnOk P w K mg base CX0 1 f fd ["text"] spWordsP := by
  refine F.ok sc_words_of (fun vs H Q E h => ?_) (fun cdv A outer s H vs Q E hr h => ?_)
  · obtain ⟨t, rfl, _⟩ := h
    rfl
  · obtain ⟨t, rfl, hl, q⟩ := h
    have hu1 := hu_of hr
    refine ⟨_, (pss_cons (ps_if (pt_cmpR (op_neTy hu1) (pe_callTy call_type1 (by rfl) z_type (by decide +kernel) (pa_cons (pv 0) pa_nil)) (pe_bltn (v := .ty "str") (by rfl) z_str (by decide +kernel) rfl) (nomark _)) pss_never pss_nil)
  (pss_one (ps_ret (pe_split (pv 0) pe_str)))), ?_⟩
    obtain ⟨ht, hk⟩ := tyb_of (K := K) (show Da H (.str t) (.str t) from .str t)
    refine ⟨_, rfl, _, "str", rfl, ht, "str", "str", rfl, rfl, .str, .str, _, rfl, ?_⟩
    refine itF (by decide) ?_
    refine ⟨_, rfl, ⟨t, rfl⟩, t, blank, rfl, rfl, by decide +kernel, small20 (show t.length + 2 ≤ 20000 by omega), fun p1 n1 => ?_⟩
    obtain ⟨H1, g1, e1, hq1⟩ := newH n1 (o := _)
    rw [hq1]
    exact q p1 H1 g1 ⟨e1, few_cut (by decide +kernel) hl⟩
theorem ok_read_place {f fA fB : Addr} {fd fdA fdB : FuncData} (F : Fun K "read_place" "read_place" s_read_place f fd) (G_place_in : FnOk P w K mg base CX0 1 fA fdA ["word"] spPlaceIn) (g_place_in : mg "place_in" = some (.ref fA)) (k_place_in : PySem.W.keepIn K (.ref fA) = true) (b_place_in : Binds K fdA ["word"] [])
    (G_is_place : FnOk P w K mg base CX0 3 fB fdB ["thing"] spPlaceP) (g_is_place : mg "is_place" = some (.ref fB)) (k_is_place : PySem.W.keepIn K (.ref fB) = true) (b_is_place : Binds K fdB ["thing"] []) (z_type : mg "type" = none) (z_str : mg "str" = none) : FnOk P w K mg base CX0 4 f fd ["text"] (spReads (dueOf 0)) := by
  refine F.ok sc_read_place (fun vs H Q E h => ?_) (fun cdv A outer s H vs Q E hr h => ?_)
  · obtain ⟨t, rfl, _⟩ := h
    rfl
  · obtain ⟨t, rfl, hl, hne, qy⟩ := h
    have hu1 := hu_of hr
    refine ⟨_, (pss_cons (ps_if (pt_cmpR (op_neTy hu1) (pe_callTy call_type1 (by rfl) z_type (by decide +kernel) (pa_cons (pv 0) pa_nil)) (pe_bltn (v := .ty "str") (by rfl) z_str (by decide +kernel) rfl) (nomark _)) pss_never pss_nil)
  (pss_cons (ps_set (i := 1) sc_read_place.nd rfl (Or.inl rfl) (pe_call G_place_in (hr.mono (by decide)) (by rfl) g_place_in k_place_in b_place_in .nil pass0 (pa_cons (pv 0) pa_nil)))
  (pss_cons (ps_if (pt_not (pt_val (pe_call G_is_place (hr.mono (by decide)) (by rfl) g_is_place k_is_place b_is_place .nil pass0 (pa_cons (pv 1) pa_nil)))) pss_never pss_nil)
  (pss_one (ps_ret (pv 1)))))), ?_⟩
    obtain ⟨ht, hk⟩ := tyb_of (K := K) (show Da H (.str t) (.str t) from .str t)
    refine ⟨_, rfl, _, "str", rfl, ht, "str", "str", rfl, rfl, .str, .str, _, rfl, ?_⟩
    refine itF (by decide) ?_
    refine ⟨_, rfl, t, rfl, hl, fun v H1 g1 d1 => ?_⟩
    have hwt := w_plP t
    refine ⟨_, rfl, v, plP t, rfl, d1, by omega, ⟨_, rfl, ?_⟩⟩
    by_cases hp : placeD (plP t) = true
    · refine itN (by rw [hp]; decide) ?_
      have e : dueOf 0 t = plP t := if_pos hp
      rw [e] at qy
      exact ⟨_, rfl, qy v H1 g1 d1 (fr_plP d1)⟩
    · have e : dueOf 0 t = .none := if_neg hp
      refine itY (by simpa using hp) ?_
      exact absurd e hne
theorem ok_read_letter {f fA fB fC : Addr} {fd fdA fdB fdC : FuncData} (F : Fun K "read_letter" "read_letter" s_read_letter f fd) (G_words_of : FnOk P w K mg base CX0 1 fA fdA ["text"] spWordsP) (g_words_of : mg "words_of" = some (.ref fA)) (k_words_of : PySem.W.keepIn K (.ref fA) = true) (b_words_of : Binds K fdA ["text"] [])
    (G_letter_in : FnOk P w K mg base CX0 2 fB fdB ["words"] spLetterIn) (g_letter_in : mg "letter_in" = some (.ref fB)) (k_letter_in : PySem.W.keepIn K (.ref fB) = true) (b_letter_in : Binds K fdB ["words"] [])
    (G_is_letter : FnOk P w K mg base CX0 3 fC fdC ["thing"] spLetter) (g_is_letter : mg "is_letter" = some (.ref fC)) (k_is_letter : PySem.W.keepIn K (.ref fC) = true) (b_is_letter : Binds K fdC ["thing"] []) : FnOk P w K mg base CX0 4 f fd ["text"] (spReads (dueOf 2)) := by
  refine F.ok sc_read_letter (fun vs H Q E h => ?_) (fun cdv A outer s H vs Q E hr h => ?_)
  · obtain ⟨t, rfl, _⟩ := h
    rfl
  · obtain ⟨t, rfl, hl, hne, qy⟩ := h
    refine ⟨_, (pss_cons (ps_set (i := 1) sc_read_letter.nd rfl (Or.inl rfl) (pe_call G_letter_in (hr.mono (by decide)) (by rfl) g_letter_in k_letter_in b_letter_in .nil pass0 (pa_cons (pe_call G_words_of (hr.mono (by decide)) (by rfl) g_words_of k_words_of b_words_of .nil pass0 (pa_cons (pv 0) pa_nil)) pa_nil)))
  (pss_cons (ps_if (pt_not (pt_val (pe_call G_is_letter (hr.mono (by decide)) (by rfl) g_is_letter k_is_letter b_is_letter .nil pass0 (pa_cons (pv 1) pa_nil)))) pss_never pss_nil)
  (pss_one (ps_ret (pv 1))))), ?_⟩
    refine ⟨_, rfl, t, rfl, hl, fun p H1 g1 hp1 => ?_⟩
    refine ⟨p, wds t, rfl, hp1, fun v H2 g2 d2 => ?_⟩
    have hwt := w_letterP hp1.2
    refine ⟨_, rfl, v, letterP (wds t), rfl, d2, by omega, fun H3 g3 => ⟨_, rfl, ?_⟩⟩
    by_cases hp : letterD (letterP (wds t)) = true
    · refine itN (by rw [hp]; decide) ?_
      have e : dueOf 2 t = letterP (wds t) := if_pos hp
      rw [e] at qy
      exact ⟨_, rfl, qy v H3 (Same.trans g1 (Same.trans g2 g3)) (Same.da g3 d2) (fr_letP (Same.da g3 d2))⟩
    · have e : dueOf 2 t = .none := if_neg hp
      refine itY (by simpa using hp) ?_
      exact absurd e hne
theorem ok_read_what {f fA fB fC : Addr} {fd fdA fdB fdC : FuncData} (F : Fun K "read_what" "read_what" s_read_what f fd) (G_words_of : FnOk P w K mg base CX0 1 fA fdA ["text"] spWordsP) (g_words_of : mg "words_of" = some (.ref fA)) (k_words_of : PySem.W.keepIn K (.ref fA) = true) (b_words_of : Binds K fdA ["text"] [])
    (G_what_in : FnOk P w K mg base CX0 3 fB fdB ["words"] spWhatIn) (g_what_in : mg "what_in" = some (.ref fB)) (k_what_in : PySem.W.keepIn K (.ref fB) = true) (b_what_in : Binds K fdB ["words"] [])
    (G_is_what : FnOk P w K mg base CX0 9 fC fdC ["thing"] spWhatP) (g_is_what : mg "is_what" = some (.ref fC)) (k_is_what : PySem.W.keepIn K (.ref fC) = true) (b_is_what : Binds K fdC ["thing"] []) : FnOk P w K mg base CX0 10 f fd ["text"] (spReads (dueOf 3)) := by
  refine F.ok sc_read_what (fun vs H Q E h => ?_) (fun cdv A outer s H vs Q E hr h => ?_)
  · obtain ⟨t, rfl, _⟩ := h
    rfl
  · obtain ⟨t, rfl, hl, hne, qy⟩ := h
    refine ⟨_, (pss_cons (ps_set (i := 1) sc_read_what.nd rfl (Or.inl rfl) (pe_call G_what_in (hr.mono (by decide)) (by rfl) g_what_in k_what_in b_what_in .nil pass0 (pa_cons (pe_call G_words_of (hr.mono (by decide)) (by rfl) g_words_of k_words_of b_words_of .nil pass0 (pa_cons (pv 0) pa_nil)) pa_nil)))
  (pss_cons (ps_if (pt_not (pt_val (pe_call G_is_what (hr.mono (by decide)) (by rfl) g_is_what k_is_what b_is_what .nil pass0 (pa_cons (pv 1) pa_nil)))) pss_never pss_nil)
  (pss_one (ps_ret (pv 1))))), ?_⟩
    refine ⟨_, rfl, t, rfl, hl, fun p H1 g1 hp1 => ?_⟩
    obtain ⟨w0, r, hr0⟩ : ∃ w0 r, wds t = w0 :: r := List.exists_cons_of_ne_nil (cut_ne blank_tl blank_ok t)
    rw [hr0] at hp1
    refine ⟨p, w0, r, rfl, hp1, fun v H2 g2 d2 fr2 => ?_⟩
    have hwt := w_whatP hp1.2
    refine ⟨_, rfl, v, whatP (w0 :: r), rfl, d2, by omega, fun H3 g3 => ⟨_, rfl, ?_⟩⟩
    have e0 : dueOf 3 t = if whatD (whatP (wds t)) = true then whatP (wds t) else .none := rfl
    rw [hr0] at e0
    by_cases hp : whatD (whatP (w0 :: r)) = true
    · refine itN (by rw [hp]; decide) ?_
      rw [e0, if_pos hp] at qy
      exact ⟨_, rfl, qy v H3 (Same.trans g1 (Same.trans g2 g3)) (Same.da g3 d2) ((fr2.back g1).keep d2 g3)⟩
    · refine itY (by simpa using hp) ?_
      exact absurd (by rw [e0, if_neg hp]) hne
theorem ok_read_rule {f fA fB : Addr} {fd fdA fdB : FuncData} (F : Fun K "read_rule" "read_rule" s_read_rule f fd) (G_words_of : FnOk P w K mg base CX0 1 fA fdA ["text"] spWordsP) (g_words_of : mg "words_of" = some (.ref fA)) (k_words_of : PySem.W.keepIn K (.ref fA) = true) (b_words_of : Binds K fdA ["text"] [])
    (G_rule_in : FnOk P w K mg base CX0 9 fB fdB ["words"] spRuleIn) (g_rule_in : mg "rule_in" = some (.ref fB)) (k_rule_in : PySem.W.keepIn K (.ref fB) = true) (b_rule_in : Binds K fdB ["words"] []) : FnOk P w K mg base CX0 10 f fd ["text"] (spReads (dueOf 1)) := by
  refine F.ok sc_read_rule (fun vs H Q E h => ?_) (fun cdv A outer s H vs Q E hr h => ?_)
  · obtain ⟨t, rfl, _⟩ := h
    rfl
  · obtain ⟨t, rfl, hl, hne, qy⟩ := h
    refine ⟨_, (pss_cons (ps_set (i := 1) sc_read_rule.nd rfl (Or.inl rfl) (pe_call G_rule_in (hr.mono (by decide)) (by rfl) g_rule_in k_rule_in b_rule_in .nil pass0 (pa_cons (pe_call G_words_of (hr.mono (by decide)) (by rfl) g_words_of k_words_of b_words_of .nil pass0 (pa_cons (pv 0) pa_nil)) pa_nil)))
  (pss_cons (ps_if (pt_cmpR op_isN (pv 1) pe_non (nomark _)) pss_never pss_nil)
  (pss_one (ps_ret (pv 1))))), ?_⟩
    refine ⟨_, rfl, t, rfl, hl, fun p H1 g1 hp1 => ?_⟩
    refine ⟨p, wds t, rfl, hp1, fun v H2 g2 d2 fr2 => ?_⟩
    have g := Same.trans g1 g2
    by_cases hd : dueR (wds t) = .none
    · rw [hd] at d2
      cases d2
      refine ⟨_, rfl, rfl, _, rfl, ?_⟩
      refine itT (by simp) ?_
      exact absurd hd hne
    · have hv : v ≠ .non := fun z => by
        subst z
        cases hx : dueR (wds t) <;> rw [hx] at d2 hd <;> first | exact hd rfl | cases d2
      refine ⟨_, rfl, rfl, _, rfl, ?_⟩
      refine itF (by simpa using hv) ?_
      exact ⟨_, rfl, qy v H2 g d2 (fr2.back g1)⟩
end
end K65
set_option Elab.async false
set_option linter.all false
set_option maxRecDepth 100000
set_option maxHeartbeats 4000000
namespace K65
open PySem L2 Ld GxR Gx
/-! the texts of things, and what they write -/
def nm (x : Str) : Prop := nameD (.str x) = true
theorem nm_of {d : PyData} (h : nameD d = true) : ∃ n : Str, d = .str n ∧ nm n := by
  cases d with
  | str n => exact ⟨n, rfl, h⟩
  | _ => cases h
theorem nm_parts {x : Str} (h : nm x) : 1 ≤ x.length ∧ x.length ≤ 8 ∧ ∀ c ∈ x.cps.toList, 97 ≤ c ∧ c ≤ 122 := by
  have h : (decide (1 ≤ x.length ∧ x.length ≤ 8) && x.cps.toList.all signB) = true := h
  rw [Bool.and_eq_true, decide_eq_true_eq] at h
  exact ⟨h.1.1, h.1.2, fun c hc => (signB_iff c).mp (List.all_eq_true.mp h.2 c hc)⟩
theorem nm_no {x : Str} (h : nm x) {s : Nat} (hs : s < 97) : s ∉ TL.tl x := fun hc => by
  have := (nm_parts h).2.2 s hc
  omega
inductive LetX : PyData → Prop
  | two (t n : Str) : (t = "open" ∨ t = "heard") → nm n → LetX (.tuple [.str t, .str n])
  | hold (n : Str) (i : Int) : nm n → 0 ≤ i → LetX (.tuple [.str "holds", .str n, .int i])
theorem letX {d : PyData} (h : letterD d = true) : LetX d := by
  unfold letterD at h
  split at h
  · rename_i t n i
    simp only [Bool.and_eq_true, decide_eq_true_eq] at h
    obtain ⟨h1, rfl, h3⟩ := h
    obtain ⟨x, rfl, hx⟩ := nm_of h1
    exact .hold x i hx h3
  · rename_i t n
    simp only [Bool.and_eq_true, Bool.or_eq_true, decide_eq_true_eq] at h
    obtain ⟨h1, h2⟩ := h
    obtain ⟨x, rfl, hx⟩ := nm_of h1
    exact .two t x h2 hx
  · cases h
inductive RuleX : PyData → Prop
  | mk (x y : Str) (i : Int) (ps : List PyData) : nm x → nm y → 1 ≤ i → (∀ e ∈ ps, placeD e = true) → 1 ≤ ps.length → ps.length ≤ 8 → RuleX (.tuple [.str x, .str y, .int i, .list ps])
theorem ruleX {d : PyData} (h : ruleD d = true) : RuleX d := by
  obtain ⟨a, b, i, ps, rfl, ha, hb, hi, hp, hl⟩ := ruleD_parts h
  obtain ⟨x, y, j, qs, e, _, _, _, h8⟩ := rule_of h
  obtain ⟨x', rfl, hx⟩ := nm_of ha
  obtain ⟨y', rfl, hy⟩ := nm_of hb
  cases e
  exact .mk _ _ _ _ hx hy hi hp hl h8
inductive WhatX : PyData → Prop
  | four (t n : Str) : t ∈ fourW → nm n → WhatX (.tuple [.str t, .str n])
  | drop (i : Int) : 0 ≤ i → WhatX (.tuple [.str "drop", .int i])
  | hear (n : Str) (l : PyData) : nm n → letterD l = true → WhatX (.tuple [.str "hear", .str n, l])
  | lean (n : Str) (i : Int) (ps : List PyData) : nm n → 1 ≤ i → (∀ e ∈ ps, placeD e = true) → 1 ≤ ps.length → ps.length ≤ 8 → WhatX (.tuple [.str "lean", .str n, .int i, .list ps])
theorem whatX {d : PyData} (h : whatD d = true) : WhatX d := by
  unfold whatD at h
  split at h
  · rename_i t r
    unfold whatR at h
    split at h
    · rename_i ht
      unfold just1 at h
      split at h
      · obtain ⟨n, rfl, hn⟩ := nm_of h
        exact .four t n ht hn
      · cases h
    · split at h
      · rename_i ht
        subst ht
        unfold just1 at h
        split at h
        · rename_i a
          cases a with
          | int i => exact .drop i (of_decide_eq_true h)
          | _ => cases h
        · cases h
      · split at h
        · rename_i ht
          subst ht
          unfold just2 at h
          split at h
          · rw [Bool.and_eq_true] at h
            obtain ⟨n, rfl, hn⟩ := nm_of h.1
            exact .hear n _ hn h.2
          · cases h
        · rw [Bool.and_eq_true, decide_eq_true_eq] at h
          obtain ⟨rfl, h⟩ := h
          unfold just3 at h
          split at h
          · rename_i a b c
            generalize hd : PyData.tuple [.str "an", a, b, c] = d at h
            cases ruleX h with
            | mk x y i ps hx hy hi hp h1 h8 =>
              cases hd
              exact .lean y i ps hy hi hp h1 h8
          · cases h
  · cases h
def plT : PyData → Str
  | .tuple [.str x, .str y] => placeT x y
  | _ => ""
def letW : PyData → List Str
  | .tuple [.str t, .str n] => [t, n]
  | .tuple [.str t, .str n, .int i] => [t, n, strI i.toNat]
  | _ => []
def ruleW : PyData → List Str
  | .tuple [.str x, .str y, .int i, .list ps] => placeT x y :: "=" :: strI i.toNat :: ps.map plT
  | _ => []
def whatW : PyData → List Str
  | .tuple [.str t, .str n] => [t, n]
  | .tuple [.str t, .int i] => [t, strI i.toNat]
  | .tuple [.str t, .str n, .int i, .list ps] => t :: n :: strI i.toNat :: ps.map plT
  | .tuple [.str t, .str n, l] => t :: n :: letW l
  | _ => []
def txtOf : Nat → PyData → Str
  | 0, d => plT d
  | 1, d => Txt.join blank (ruleW d)
  | 2, d => Txt.join blank (letW d)
  | _, d => Txt.join blank (whatW d)
def okOf : Nat → PyData → Bool
  | 0, d => placeD d
  | 1, d => ruleD d
  | 2, d => letterD d
  | _, d => whatD d
/-- a word: no blank in it -/
def Cl (x : Str) : Prop := 32 ∉ TL.tl x
theorem cl_nm {x : Str} (h : nm x) : Cl x := nm_no h (by decide)
theorem cl_strI (n : Nat) : Cl (strI n) := fun hc => by
  have hc : 32 ∈ (strI n).cps.toList := hc
  rw [strI_tl] at hc
  exact TL.numL_free (.inl (by decide)) hc
theorem tjn (sep : Str) (ys : List Str) : Txt.join sep ys = Str.join sep ys := by
  have := PyProof.Rows.join_plain_closes sep ys
  simpa using this
theorem placeT_eq (x y : Str) : placeT x y = x ++ "." ++ y := by
  unfold placeT
  rw [tjn]
  rfl
theorem cl_place {x y : Str} (hx : nm x) (hy : nm y) : Cl (placeT x y) := fun hc => by
  rw [placeT_eq, TL.tl_append, TL.tl_append] at hc
  rcases List.mem_append.mp hc with hc | hc
  · rcases List.mem_append.mp hc with hc | hc
    · exact cl_nm hx hc
    · exact absurd hc (by decide +kernel)
  · exact cl_nm hy hc
theorem place_cut {x y : Str} (hx : nm x) (hy : nm y) : plP (placeT x y) = .tuple [.str x, .str y] := by
  have h := cut_back point_tl point_ok (ps := [x, y]) (by simp) (fun p hp => by
    simp only [List.mem_cons, List.not_mem_nil, or_false] at hp
    rcases hp with rfl | rfl
    · exact nm_no hx (by decide)
    · exact nm_no hy (by decide))
  show PyData.tuple (stL (Txt.split (Txt.join point [x, y]) point)) = _
  rw [h]
  rfl
theorem wds_join {ws : List Str} (hne : ws ≠ []) (h : ∀ w ∈ ws, Cl w) : wds (Txt.join blank ws) = ws := cut_back blank_tl blank_ok hne h
theorem numP_strI {i : Int} (h : 0 ≤ i) : numP (strI i.toNat) = .int i := by
  obtain ⟨h1, h2⟩ := strI_num i.toNat
  unfold numP
  rw [if_pos h1, h2]
  congr 1
  omega
theorem plT_back {d : PyData} (h : placeD d = true) : plP (plT d) = d ∧ Cl (plT d) ∧ (plT d).length ≤ 17 := by
  obtain ⟨x, y, rfl, h1, h2⟩ := place_of_true h
  refine ⟨place_cut h1 h2, cl_place h1 h2, ?_⟩
  have l1 := (nm_parts h1).2.1
  have l2 := (nm_parts h2).2.1
  have h3 : ("." : Str).length = 1 := by decide +kernel
  show (placeT x y).length ≤ 17
  rw [placeT_eq, Str.length_append, Str.length_append]
  omega
theorem plTs_back : ∀ {ps : List PyData}, (∀ e ∈ ps, placeD e = true) → (ps.map plT).map plP = ps ∧ ∀ w ∈ ps.map plT, Cl w
  | [], _ => ⟨rfl, fun w hw => by cases hw⟩
  | e :: ps, h => by
    obtain ⟨h1, h2⟩ := plTs_back (ps := ps) fun x hx => h x (List.mem_cons_of_mem _ hx)
    obtain ⟨h3, h4, _⟩ := plT_back (h e List.mem_cons_self)
    refine ⟨by rw [List.map_cons, List.map_cons, h1, h3], fun w hw => ?_⟩
    rcases List.mem_cons.mp hw with rfl | hw
    · exact h4
    · exact h2 w hw
theorem let_back {d : PyData} (h : letterD d = true) : letterP (letW d) = d ∧ (∀ w ∈ letW d, Cl w) ∧ letW d ≠ [] := by
  cases letX h with
  | two t n ht hn =>
    refine ⟨rfl, fun w hw => ?_, by simp [letW]⟩
    have hw : w ∈ [t, n] := hw
    simp only [List.mem_cons, List.not_mem_nil, or_false] at hw
    rcases hw with rfl | rfl
    · rcases ht with rfl | rfl
      · exact (by decide +kernel : 32 ∉ TL.tl ("open" : Str))
      · exact (by decide +kernel : 32 ∉ TL.tl ("heard" : Str))
    · exact cl_nm hn
  | hold n i hn hi =>
    refine ⟨?_, fun w hw => ?_, by simp [letW]⟩
    · show PyData.tuple [.str "holds", .str n, numP (strI i.toNat)] = _
      rw [numP_strI hi]
    · have hw : w ∈ [("holds" : Str), n, strI i.toNat] := hw
      simp only [List.mem_cons, List.not_mem_nil, or_false] at hw
      rcases hw with rfl | rfl | rfl
      · exact (by decide +kernel : 32 ∉ TL.tl ("holds" : Str))
      · exact cl_nm hn
      · exact cl_strI _
theorem rule_back {d : PyData} (h : ruleD d = true) : dueR (ruleW d) = d ∧ (∀ w ∈ ruleW d, Cl w) ∧ ruleW d ≠ [] := by
  cases ruleX h with
  | mk x y i ps hx hy hi hp h1 h8 =>
    obtain ⟨e1, e2⟩ := plTs_back hp
    refine ⟨?_, fun w hw => ?_, by simp [ruleW]⟩
    · match ps, h1 with
      | p :: ps, _ =>
        have er : ruleP (placeT x y) (strI i.toNat) ((p :: ps).map plT) = .tuple [.str x, .str y, .int i, .list (p :: ps)] := by
          have h0 : stL (Txt.split (placeT x y) point) = [.str x, .str y] := by
            have := place_cut hx hy
            exact PyData.tuple.inj this
          unfold ruleP
          rw [h0, numP_strI (by omega), e1]
          rfl
        show (if ("=" : Str) = "=" ∧ ruleD (ruleP (placeT x y) (strI i.toNat) ((p :: ps).map plT)) = true then ruleP (placeT x y) (strI i.toNat) ((p :: ps).map plT) else .none) = _
        rw [er, if_pos ⟨rfl, h⟩]
    · have hw : w ∈ placeT x y :: ("=" : Str) :: strI i.toNat :: ps.map plT := hw
      simp only [List.mem_cons] at hw
      rcases hw with rfl | rfl | rfl | hw
      · exact cl_place hx hy
      · exact (by decide +kernel : 32 ∉ TL.tl ("=" : Str))
      · exact cl_strI _
      · exact e2 w hw
theorem what_back {d : PyData} (h : whatD d = true) : whatP (whatW d) = d ∧ (∀ w ∈ whatW d, Cl w) ∧ whatW d ≠ [] := by
  cases whatX h with
  | four t n ht hn =>
    simp only [fourW, List.mem_cons, List.not_mem_nil, or_false] at ht
    refine ⟨?_, fun w hw => ?_, by simp [whatW]⟩
    · rcases ht with rfl | rfl | rfl | rfl <;> rfl
    · have hw : w ∈ [t, n] := hw
      simp only [List.mem_cons, List.not_mem_nil, or_false] at hw
      rcases hw with rfl | rfl
      · rcases ht with rfl | rfl | rfl | rfl
        · exact (by decide +kernel : 32 ∉ TL.tl ("vouch" : Str))
        · exact (by decide +kernel : 32 ∉ TL.tl ("withdraw" : Str))
        · exact (by decide +kernel : 32 ∉ TL.tl ("join" : Str))
        · exact (by decide +kernel : 32 ∉ TL.tl ("part" : Str))
      · exact cl_nm hn
  | drop i hi =>
    refine ⟨?_, fun w hw => ?_, by simp [whatW]⟩
    · show PyData.tuple [.str "drop", numP (strI i.toNat)] = _
      rw [numP_strI hi]
    · have hw : w ∈ [("drop" : Str), strI i.toNat] := hw
      simp only [List.mem_cons, List.not_mem_nil, or_false] at hw
      rcases hw with rfl | rfl
      · exact (by decide +kernel : 32 ∉ TL.tl ("drop" : Str))
      · exact cl_strI _
  | hear n l hn hl =>
    obtain ⟨h1, h2, h3⟩ := let_back hl
    have e : whatW (.tuple [.str "hear", .str n, l]) = ("hear" : Str) :: n :: letW l := by
      cases letX hl <;> rfl
    rw [e]
    refine ⟨?_, fun w hw => ?_, by simp⟩
    · show PyData.tuple (stL [("hear" : Str), n] ++ [letterP (letW l)]) = _
      rw [h1]
      rfl
    · simp only [List.mem_cons] at hw
      rcases hw with rfl | rfl | hw
      · exact (by decide +kernel : 32 ∉ TL.tl ("hear" : Str))
      · exact cl_nm hn
      · exact h2 w hw
  | lean n i ps hn hi hp h1 h8 =>
    obtain ⟨e1, e2⟩ := plTs_back hp
    have e : whatW (.tuple [.str "lean", .str n, .int i, .list ps]) = ("lean" : Str) :: n :: strI i.toNat :: ps.map plT := rfl
    rw [e]
    refine ⟨?_, fun w hw => ?_, by simp⟩
    · rw [whatP_cons, if_neg (by decide), if_pos ⟨rfl, by simp⟩]
      show PyData.tuple [.str "lean", .str n, numP (strI i.toNat), .list ((ps.map plT).map plP)] = _
      rw [numP_strI (by omega), e1]
    · simp only [List.mem_cons] at hw
      rcases hw with rfl | rfl | rfl | hw
      · exact (by decide +kernel : 32 ∉ TL.tl ("lean" : Str))
      · exact cl_nm hn
      · exact cl_strI _
      · exact e2 w hw
/-- what a thing's text writes is the thing -/
theorem back {i : Nat} (hi : i < 4) {d : PyData} (h : okOf i d = true) : dueOf i (txtOf i d) = d := by
  obtain rfl | rfl | rfl | rfl : i = 0 ∨ i = 1 ∨ i = 2 ∨ i = 3 := by omega
  · obtain ⟨h1, _⟩ := plT_back h
    show (if placeD (plP (plT d)) = true then plP (plT d) else .none) = d
    rw [h1]
    exact if_pos h
  · obtain ⟨h1, h2, h3⟩ := rule_back h
    show dueR (wds (Txt.join blank (ruleW d))) = d
    rw [wds_join h3 h2, h1]
  · obtain ⟨h1, h2, h3⟩ := let_back h
    show (if letterD (letterP (wds (Txt.join blank (letW d)))) = true then letterP (wds (Txt.join blank (letW d))) else .none) = d
    rw [wds_join h3 h2, h1]
    exact if_pos h
  · obtain ⟨h1, h2, h3⟩ := what_back h
    show (if whatD (whatP (wds (Txt.join blank (whatW d)))) = true then whatP (wds (Txt.join blank (whatW d))) else .none) = d
    rw [wds_join h3 h2, h1]
    exact if_pos h
end K65
set_option Elab.async false
set_option linter.all false
set_option maxRecDepth 100000
set_option maxHeartbeats 4000000
namespace K65
open PySem L2 Ld GxR Gx
/-! the shows: a thing's own text -/
abbrev s_letter_words : Stmt := topS 28
abbrev N_letter_words : List Str := ["letter"]
theorem sc_letter_words : FnScope N_letter_words ["letter"] (defScope s_letter_words) := ⟨rfl, rfl, rfl, by decide +kernel, rfl, by decide +kernel, by decide +kernel⟩
abbrev s_show_place : Stmt := topS 29
abbrev N_show_place : List Str := ["place"]
theorem sc_show_place : FnScope N_show_place ["place"] (defScope s_show_place) := ⟨rfl, rfl, rfl, by decide +kernel, rfl, by decide +kernel, by decide +kernel⟩
abbrev s_show_letter : Stmt := topS 31
abbrev N_show_letter : List Str := ["letter"]
theorem sc_show_letter : FnScope N_show_letter ["letter"] (defScope s_show_letter) := ⟨rfl, rfl, rfl, by decide +kernel, rfl, by decide +kernel, by decide +kernel⟩
def huge : Nat := 10 ^ 1919
def spShowT (i : Nat) : Sp := fun vs H Q _ => ∃ (v : V) (d : PyData), vs = [v] ∧ Da H v d ∧ d.weight + 10 ≤ 20000 ∧ lf huge d = true ∧ okOf i d = true ∧ ∀ H', Same H H' → Q (.str (txtOf i d)) H'
def spLWT : Sp := fun vs H Q _ => ∃ (v : V) (d : PyData), vs = [v] ∧ Da H v d ∧ lf huge d = true ∧ letterD d = true ∧ ∀ (p : Addr) (H' : Hp), Same H H' → H' p = some (.lst ((letW d).map V.str)) → Q (.ref p) H'
theorem huge_int {i : Int} (h : lf huge (.int i) = true) (h0 : 0 ≤ i) : ∃ m : Nat, i = (m : Int) ∧ m < 10 ^ 1920 := by
  have h1 : i.natAbs ≤ huge := of_decide_eq_true h
  refine ⟨i.toNat, by omega, ?_⟩
  have h2 : huge < 10 ^ 1920 := by decide +kernel
  omega
theorem strI_len {n : Nat} (h : n < 10 ^ 1920) : (strI n).length ≤ 1920 := by
  rw [len_cps, strI_tl]
  exact TL.numL_len (by decide) h
theorem join_big {sep : Str} {ys : List Str} (h1 : sep.length ≤ 4) (h2 : ys.length ≤ 1000) (h3 : ∀ y ∈ ys, y.length ≤ 1920) : (ys.map (·.length)).sum + ys.length * sep.length ≤ 16777216 := by
  have e1 := sum_len h3
  have e2 : ys.length * sep.length ≤ 1000 * 4 := Nat.mul_le_mul h2 h1
  have e3 : 1920 * ys.length ≤ 1920 * 1000 := Nat.mul_le_mul_left _ h2
  omega
theorem let_lens {d : PyData} (h : letterD d = true) (hl : lf huge d = true) : (letW d).length ≤ 3 ∧ ∀ w ∈ letW d, w.length ≤ 1920 := by
  cases letX h with
  | two t n ht hn =>
    refine ⟨by simp [letW], fun w hw => ?_⟩
    have hw : w ∈ [t, n] := hw
    simp only [List.mem_cons, List.not_mem_nil, or_false] at hw
    rcases hw with rfl | rfl
    · rcases ht with rfl | rfl <;> decide +kernel
    · exact Nat.le_trans (nm_parts hn).2.1 (by decide)
  | hold n i hn hi =>
    obtain ⟨m, rfl, hm⟩ := huge_int (lfAll_iff.mp hl (.int i) (by simp)) hi
    refine ⟨by simp [letW], fun w hw => ?_⟩
    have hw : w ∈ [("holds" : Str), n, strI m] := hw
    simp only [List.mem_cons, List.not_mem_nil, or_false] at hw
    rcases hw with rfl | rfl | rfl
    · decide +kernel
    · exact Nat.le_trans (nm_parts hn).2.1 (by decide)
    · exact strI_len hm
section
variable {P : Program} {w : World} {K : PySem.W.Frag} {mg : Str → Option Value} {base : Heap}
theorem ok_letter_words {f fG : Addr} {fd fdG : FuncData} (F : Fun K "letter_words" "letter_words" s_letter_words f fd) (G_figures_of : FnOk P w K mg base CX0 1 fG fdG ["number"] spFigs) (g_figures_of : mg "figures_of" = some (.ref fG)) (k_figures_of : PySem.W.keepIn K (.ref fG) = true) (b_figures_of : Binds K fdG ["number"] [])
    (z_list : mg "list" = none) : FnOk P w K mg base CX0 2 f fd ["letter"] spLWT := by
  refine F.ok sc_letter_words (fun vs H Q E h => ?_) (fun cdv A outer s H vs Q E hr h => ?_)
  · obtain ⟨v, d, rfl, _⟩ := h
    rfl
  · obtain ⟨v, d, rfl, hd, hlf, hl, q⟩ := h
    refine ⟨_, (pss_one (ps_ret (pe_ifExp (pt_cmpR op_eq (pe_ix ix_tup (pv 0) pe_int (fun _ _ => rfl)) pe_str (nomark _)) (pe_lst (StX.pa_star (pe_slice sl_tupA (pv 0) po_none (po_some pe_int)) (pa_cons (pe_call G_figures_of (hr.mono (by decide)) (by rfl) g_figures_of k_figures_of b_figures_of .nil pass0 (pa_cons (pe_ix ix_tup (pv 0) pe_int (fun _ _ => rfl)) pa_nil)) pa_nil))) (pe_callTy call_list_of (by rfl) z_list (by decide +kernel) (pa_cons (pv 0) pa_nil))))), ?_⟩
    cases letX hl with
    | two t n ht hn =>
      have hne : t ≠ "holds" := by rcases ht with rfl | rfl <;> decide
      cases hd with
      | @tup r xs _ er hall =>
      cases hall with
      | cons d0 hall =>
      cases d0
      cases hall with
      | cons d0 hall =>
      cases d0
      cases hall
      refine ⟨_, rfl, r, [.str t, .str n], 0, .str t, rfl, rfl, .inl (.inl er), rfl, rfl, _, rfl, ?_⟩
      refine itN (by simpa using hne) ?_
      refine ⟨_, rfl, r, _, rfl, .inr (.inl (.inl er)), fun p1 n1 => ?_⟩
      obtain ⟨H1, g1, e1, hq1⟩ := newH n1 (o := _)
      rw [hq1]
      exact q p1 H1 g1 e1
    | hold n i hn hi =>
      obtain ⟨m, rfl, hm⟩ := huge_int (lfAll_iff.mp hlf (.int i) (by simp)) hi
      cases hd with
      | @tup r xs _ er hall =>
      cases hall with
      | cons d0 hall =>
      cases d0
      cases hall with
      | cons d0 hall =>
      cases d0
      cases hall with
      | cons d0 hall =>
      cases d0
      cases hall
      refine ⟨_, rfl, r, [.str "holds", .str n, .int (m : Int)], 0, .str "holds", rfl, rfl, .inl (.inl er), rfl, rfl, _, rfl, ?_⟩
      refine itY (by simp) ?_
      refine ⟨_, rfl, 2, rfl, slT_any er fun p1 H1 g1 e1 => ?_⟩
      rw [show cutV [V.str "holds", .str n, .int (m : Int)] none (some 2) = [V.str "holds", .str n] from sub_take (i := 2) (by simp)] at e1
      refine ⟨p1, [.str "holds", .str n], rfl, .inl (.inl (.inl e1)), ?_⟩
      refine ⟨_, rfl, r, [.str "holds", .str n, .int (m : Int)], 2, .int (m : Int), rfl, rfl, .inl (.inl (g1 _ _ er)), rfl, m, rfl, hm, fun H2 g2 => ?_⟩
      refine ⟨small20 (Nat.le_of_ble_eq_true rfl), fun p3 n3 => ?_⟩
      obtain ⟨H3, g3, e3, hq3⟩ := newH n3 (o := _)
      rw [hq3]
      exact q p3 H3 (Same.trans g1 (Same.trans g2 g3)) e3
theorem ok_show_place {f fA fB : Addr} {fd fdA fdB : FuncData} (F : Fun K "show_place" "show_place" s_show_place f fd) (G_is_place : FnOk P w K mg base CX0 3 fA fdA ["thing"] spPlaceP) (g_is_place : mg "is_place" = some (.ref fA)) (k_is_place : PySem.W.keepIn K (.ref fA) = true) (b_is_place : Binds K fdA ["thing"] [])
    (G_place_words : FnOk P w K mg base CX0 1 fB fdB ["place"] spWords) (g_place_words : mg "place_words" = some (.ref fB)) (k_place_words : PySem.W.keepIn K (.ref fB) = true) (b_place_words : Binds K fdB ["place"] []) : FnOk P w K mg base CX0 4 f fd ["place"] (spShowT 0) := by
  refine F.ok sc_show_place (fun vs H Q E h => ?_) (fun cdv A outer s H vs Q E hr h => ?_)
  · obtain ⟨v, d, rfl, _⟩ := h
    rfl
  · obtain ⟨v, d, rfl, hd, hw, hlf, hp, qy⟩ := h
    refine ⟨_, (pss_cons (ps_if (pt_not (pt_val (pe_call G_is_place (hr.mono (by decide)) (by rfl) g_is_place k_is_place b_is_place .nil pass0 (pa_cons (pv 0) pa_nil)))) pss_never pss_nil)
  (pss_one (ps_ret (pe_call G_place_words (hr.mono (by decide)) (by rfl) g_place_words k_place_words b_place_words .nil pass0 (pa_cons (pv 0) pa_nil))))), ?_⟩
    refine ⟨_, rfl, v, d, rfl, hd, by omega, ⟨_, rfl, ?_⟩⟩
    have hp : placeD d = true := hp
    refine itN (by rw [hp]; decide) ?_
    obtain ⟨x, y, rfl, h1, h2⟩ := place_of_true hp
    obtain ⟨r, x', y', rfl, er, h1, h2⟩ := place_at hd hp
    cases hd with
    | tup er' hall =>
    rw [er] at er'
    cases er'
    cases hall with
    | cons d0 hall =>
    cases d0
    cases hall with
    | cons d0 hall =>
    cases d0
    exact ⟨_, rfl, r, _, _, rfl, er, h1, h2, qy H (Same.refl H)⟩
theorem ok_show_letter {f fA fB : Addr} {fd fdA fdB : FuncData} (F : Fun K "show_letter" "show_letter" s_show_letter f fd) (G_is_letter : FnOk P w K mg base CX0 3 fA fdA ["thing"] spLetter) (g_is_letter : mg "is_letter" = some (.ref fA)) (k_is_letter : PySem.W.keepIn K (.ref fA) = true) (b_is_letter : Binds K fdA ["thing"] [])
    (G_letter_words : FnOk P w K mg base CX0 2 fB fdB ["letter"] spLWT) (g_letter_words : mg "letter_words" = some (.ref fB)) (k_letter_words : PySem.W.keepIn K (.ref fB) = true) (b_letter_words : Binds K fdB ["letter"] []) : FnOk P w K mg base CX0 4 f fd ["letter"] (spShowT 2) := by
  refine F.ok sc_show_letter (fun vs H Q E h => ?_) (fun cdv A outer s H vs Q E hr h => ?_)
  · obtain ⟨v, d, rfl, _⟩ := h
    rfl
  · obtain ⟨v, d, rfl, hd, hw, hlf, hp, qy⟩ := h
    refine ⟨_, (pss_cons (ps_if (pt_not (pt_val (pe_call G_is_letter (hr.mono (by decide)) (by rfl) g_is_letter k_is_letter b_is_letter .nil pass0 (pa_cons (pv 0) pa_nil)))) pss_never pss_nil)
  (pss_one (ps_ret (pe_join pe_str (pe_call G_letter_words (hr.mono (by decide)) (by rfl) g_letter_words k_letter_words b_letter_words .nil pass0 (pa_cons (pv 0) pa_nil)))))), ?_⟩
    refine ⟨_, rfl, v, d, rfl, hd, by omega, fun H1 g1 => ⟨_, rfl, ?_⟩⟩
    have hp : letterD d = true := hp
    refine itN (by rw [hp]; decide) ?_
    obtain ⟨l1, l2⟩ := let_lens hp hlf
    exact ⟨⟨_, rfl⟩, _, rfl, v, d, rfl, Same.da g1 hd, hlf, hp, fun p H2 g2 e2 => ⟨_, p, letW d, rfl, rfl, .inl (.inl (.inl e2)), join_big (by decide +kernel) (by omega) l2, qy H2 (Same.trans g1 g2)⟩⟩
end
end K65
set_option Elab.async false
set_option linter.all false
set_option maxRecDepth 100000
set_option maxHeartbeats 4000000
namespace K65
open PySem L2 Ld GxR Gx
/-! the shows of rules and whats -/
abbrev s_show_rule : Stmt := topS 30
abbrev N_show_rule : List Str := ["rule", "premises", "premise"]
theorem sc_show_rule : FnScope N_show_rule ["rule"] (defScope s_show_rule) := ⟨rfl, rfl, rfl, by decide +kernel, rfl, by decide +kernel, by decide +kernel⟩
theorem cut2 (a b c d : V) : cutV [a, b, c, d] none (some 2) = [a, b] := sub_take (i := 2) (by simp)
theorem cut2' (a b c : V) : cutV [a, b, c] none (some 2) = [a, b] := sub_take (i := 2) (by simp)
/-- these texts stand in the list -/
def Wx (H : Hp) (D : Addr) (ws : List Str) (H' : Hp) : Prop := H' D = some (.lst (ws.map V.str)) ∧ ∀ b o, b ≠ D → H b = some o → H' b = some o
theorem Wx.start {H : Hp} {D : Addr} : Wx H D [] (upd H D (.lst [])) := ⟨upd_same, fun b o n e => by rw [upd_ne n]; exact e⟩
theorem Wx.keep {H H' : Hp} {D : Addr} {ws : List Str} (hD : H D = none) (h : Wx H D ws H') : Same H H' := fun b o e => h.2 b o (ne_of_none e hD) e
theorem Wx.next {H H' : Hp} {D : Addr} {ws : List Str} (h : Wx H D ws H') (hj : ws.length ≤ 1000) (z : Str) : ∃ acc, H' D = some (.lst acc) ∧ acc.length < sizeLine ∧ Wx H D (ws ++ [z]) (upd H' D (.lst (acc ++ [.str z]))) := by
  refine ⟨_, h.1, Nat.lt_of_le_of_lt (show _ ≤ 1000 by rw [List.length_map]; omega) (by decide), ?_, fun b o n e => ?_⟩
  · rw [upd_same, List.map_append]
    rfl
  · rw [upd_ne n]
    exact h.2 b o n e
theorem placesX_at {H : Hp} {xs : List V} {ps : List PyData} (h : DaAll H xs ps) (hp : ∀ e ∈ ps, placeD e = true) {j : Nat} {v : V} (hv : xs[j]? = some v) : ∃ (r : Addr) (x y : Str), v = .ref r ∧ H r = some (.tup [.str x, .str y]) ∧ x.length ≤ 8 ∧ y.length ≤ 8 ∧ ps[j]? = some (.tuple [.str x, .str y]) := by
  have hl := h.len
  have hj := (List.getElem?_eq_some_iff.mp hv).1
  obtain ⟨v', d', h1, h2, h3⟩ := DaAll.some h (i := j) (by omega)
  rw [hv] at h1
  cases h1
  obtain ⟨x, y, rfl, k1, k2⟩ := place_of_true (hp d' (List.mem_of_getElem? h2))
  obtain ⟨r, x', y', rfl, er, l1, l2⟩ := place_at h3 (hp _ (List.mem_of_getElem? h2))
  cases h3 with
  | tup er' hall =>
  rw [er] at er'
  cases er'
  cases hall with
  | cons d0 hall =>
  cases d0
  cases hall with
  | cons d0 hall =>
  cases d0
  exact ⟨r, _, _, rfl, er, l1, l2, h2⟩
theorem take_plT {ps : List PyData} {j : Nat} {d : PyData} (h : ps[j]? = some d) : (ps.take (j + 1)).map plT = (ps.take j).map plT ++ [plT d] := by
  rw [List.take_add_one, h, Option.toList_some, List.map_append]
  rfl
theorem plT_lens {ps : List PyData} (h : ∀ e ∈ ps, placeD e = true) : ∀ w ∈ ps.map plT, w.length ≤ 17 := fun w hw => by
  obtain ⟨e, he, rfl⟩ := List.mem_map.mp hw
  exact (plT_back (h e he)).2.2
section
variable {P : Program} {w : World} {K : PySem.W.Frag} {mg : Str → Option Value} {base : Heap}
theorem ok_show_rule {f fA fB fC : Addr} {fd fdA fdB fdC : FuncData} (F : Fun K "show_rule" "show_rule" s_show_rule f fd) (G_is_rule : FnOk P w K mg base CX0 8 fA fdA ["thing"] spRuleP) (g_is_rule : mg "is_rule" = some (.ref fA)) (k_is_rule : PySem.W.keepIn K (.ref fA) = true) (b_is_rule : Binds K fdA ["thing"] [])
    (G_place_words : FnOk P w K mg base CX0 1 fB fdB ["place"] spWords) (g_place_words : mg "place_words" = some (.ref fB)) (k_place_words : PySem.W.keepIn K (.ref fB) = true) (b_place_words : Binds K fdB ["place"] [])
    (G_figures_of : FnOk P w K mg base CX0 1 fC fdC ["number"] spFigs) (g_figures_of : mg "figures_of" = some (.ref fC)) (k_figures_of : PySem.W.keepIn K (.ref fC) = true) (b_figures_of : Binds K fdC ["number"] []) : FnOk P w K mg base CX0 9 f fd ["rule"] (spShowT 1) := by
  refine F.ok sc_show_rule (fun vs H Q E h => ?_) (fun cdv A outer s H vs Q E hr h => ?_)
  · obtain ⟨v, d, rfl, _⟩ := h
    rfl
  · obtain ⟨v, d, rfl, hd, hw, hlf, hp, qy⟩ := h
    refine ⟨_, (pss_cons (ps_if (pt_not (pt_val (pe_call G_is_rule (hr.mono (by decide)) (by rfl) g_is_rule k_is_rule b_is_rule .nil pass0 (pa_cons (pv 0) pa_nil)))) pss_never pss_nil)
  (pss_cons (ps_setLc (i := 1) (own := [("premise", 2)]) (g := gName 2) rfl sc_show_rule.nd rfl rfl (sw_true rfl rfl rfl (by decide +kernel)) (pi_list (pe_ix ix_tup (pv 0) pe_int (fun _ _ => rfl))) (blkOk_by (own := [("premise", 2)]) (N := N_show_rule) (sc := defScope s_show_rule) (by decide +kernel)) (fun _ _ _ _ _ => pg_name (i := 2) sc_show_rule.nd rfl (Or.inl rfl)) (fun _ _ _ _ _ => pts_nil) (fun _ _ _ _ _ => (pe_call G_place_words (hr.mono (by decide)) (by rfl) g_place_words k_place_words b_place_words .nil pass0 (pa_cons (pv 2) pa_nil))))
  (pss_one (ps_ret (pe_join pe_str (pe_lst (pa_cons (pe_call G_place_words (hr.mono (by decide)) (by rfl) g_place_words k_place_words b_place_words .nil pass0 (pa_cons (pe_slice sl_tupA (pv 0) po_none (po_some pe_int)) pa_nil)) (pa_cons pe_str (pa_cons (pe_call G_figures_of (hr.mono (by decide)) (by rfl) g_figures_of k_figures_of b_figures_of .nil pass0 (pa_cons (pe_ix ix_tup (pv 0) pe_int (fun _ _ => rfl)) pa_nil)) (StX.pa_star (pv 1) pa_nil)))))))))), ?_⟩
    refine ⟨_, rfl, v, d, rfl, hd, by omega, fun H1 g1 => ⟨_, rfl, ?_⟩⟩
    have hp : ruleD d = true := hp
    refine itN (by rw [hp]; decide) ?_
    cases ruleX hp with
    | mk x y i ps nx ny hi1 hps hl1 hl =>
      obtain ⟨m, rfl, hm⟩ := huge_int (lfAll_iff.mp hlf (.int i) (by simp)) (by omega)
      have hx := (nm_parts nx).2.1
      have hy := (nm_parts ny).2.1
      cases hd with
      | @tup r xs _ er hall =>
      cases hall with
      | cons d0 hall =>
      cases d0
      cases hall with
      | cons d0 hall =>
      cases d0
      cases hall with
      | cons d0 hall =>
      cases d0
      cases hall with
      | cons d0 hall =>
      cases hall
      cases d0 with
      | @lst rp xp _ ep hap =>
      have er1 := g1 _ _ er
      have ep1 := g1 _ _ ep
      have hap1 := hap.keep fun b o e _ => g1 b o e
      have hxl : xp.length = ps.length := hap1.len
      refine ⟨_, rfl, r, _, 3, .ref rp, rfl, rfl, .inl (.inl er1), rfl, rp, rfl, ⟨_, .inl (.inl ep1)⟩, fun D nD => ?_⟩
      refine lc_list (K := K) (a := rp) (xs := xp) (fun j H'' => Wx H1 D ((ps.take j).map plT) H'') Wx.start (fun j H2 _ hP => .inl (.inl (hP.keep nD _ _ ep1))) (fun j u H2 hu hP => ?_) fun H2 hP => ?_
      · obtain ⟨r5, x5, y5, rfl, e5, l5, l6, hj5⟩ := placesX_at hap1 hps hu
        refine ⟨rfl, yes ?_⟩
        refine ⟨_, rfl, r5, x5, y5, rfl, hP.keep nD _ _ e5, l5, l6, ?_⟩
        rw [take_plT hj5]
        exact hP.next (by rw [List.length_map, List.length_take]; omega) (placeT x5 y5)
      · have g2 : Same H1 H2 := hP.keep nD
        have y3 := hP.1
        rw [hxl, List.take_length] at y3
        refine ⟨⟨_, rfl⟩, ?_⟩
        refine ⟨_, rfl, 2, rfl, slT_any (g2 _ _ er1) fun p3 H3 g3 e3 => ?_⟩
        rw [cut2] at e3
        refine ⟨p3, x, y, rfl, e3, hx, hy, ?_⟩
        refine ⟨_, rfl, r, _, 2, .int (m : Int), rfl, rfl, .inl (.inl (g3 _ _ (g2 _ _ er1))), rfl, m, rfl, hm, fun H4 g4 => ?_⟩
        refine ⟨_, rfl, D, (ps.map plT).map V.str, rfl, .inr (.inl (.inl (g4 _ _ (g3 _ _ y3)))), small20 (by simp; omega), fun p5 n5 => ?_⟩
        obtain ⟨H5, g5, e5, hq5⟩ := newH n5 (o := _)
        rw [hq5]
        refine ⟨_, p5, placeT x y :: "=" :: strI m :: ps.map plT, rfl, rfl, .inl (.inl (.inl (by rw [e5]; simp))), join_big (by decide +kernel) (by simp; omega) (fun u hu => ?_), qy H5 (Same.trans g1 (Same.trans g2 (Same.trans g3 (Same.trans g4 g5))))⟩
        simp only [List.mem_cons] at hu
        rcases hu with rfl | rfl | rfl | hu
        · rw [placeT_eq, Str.length_append, Str.length_append]
          have h3 : ("." : Str).length = 1 := by decide +kernel
          omega
        · decide +kernel
        · exact strI_len hm
        · exact Nat.le_trans (plT_lens hps u hu) (by decide)
end
end K65
set_option Elab.async false
set_option linter.all false
set_option maxRecDepth 100000
set_option maxHeartbeats 4000000
namespace K65
open PySem L2 Ld GxR Gx
/-! the shows of whats -/
abbrev s_show_what : Stmt := topS 32
abbrev N_show_what : List Str := ["what", "premises", "premise"]
theorem sc_show_what : FnScope N_show_what ["what"] (defScope s_show_what) := ⟨rfl, rfl, rfl, by decide +kernel, rfl, by decide +kernel, by decide +kernel⟩
section
variable {P : Program} {w : World} {K : PySem.W.Frag} {mg : Str → Option Value} {base : Heap}
theorem ok_show_what {f fA fB fC fD : Addr} {fd fdA fdB fdC fdD : FuncData} (F : Fun K "show_what" "show_what" s_show_what f fd) (G_is_what : FnOk P w K mg base CX0 9 fA fdA ["thing"] spWhatP) (g_is_what : mg "is_what" = some (.ref fA)) (k_is_what : PySem.W.keepIn K (.ref fA) = true) (b_is_what : Binds K fdA ["thing"] [])
    (G_place_words : FnOk P w K mg base CX0 1 fB fdB ["place"] spWords) (g_place_words : mg "place_words" = some (.ref fB)) (k_place_words : PySem.W.keepIn K (.ref fB) = true) (b_place_words : Binds K fdB ["place"] [])
    (G_figures_of : FnOk P w K mg base CX0 1 fC fdC ["number"] spFigs) (g_figures_of : mg "figures_of" = some (.ref fC)) (k_figures_of : PySem.W.keepIn K (.ref fC) = true) (b_figures_of : Binds K fdC ["number"] [])
    (G_letter_words : FnOk P w K mg base CX0 2 fD fdD ["letter"] spLWT) (g_letter_words : mg "letter_words" = some (.ref fD)) (k_letter_words : PySem.W.keepIn K (.ref fD) = true) (b_letter_words : Binds K fdD ["letter"] []) : FnOk P w K mg base CX0 10 f fd ["what"] (spShowT 3) := by
  refine F.ok sc_show_what (fun vs H Q E h => ?_) (fun cdv A outer s H vs Q E hr h => ?_)
  · obtain ⟨v, d, rfl, _⟩ := h
    rfl
  · obtain ⟨v, d, rfl, hd, hw, hlf, hp, qy⟩ := h
    refine ⟨_, (pss_cons (ps_if (pt_not (pt_val (pe_call G_is_what (hr.mono (by decide)) (by rfl) g_is_what k_is_what b_is_what .nil pass0 (pa_cons (pv 0) pa_nil)))) pss_never pss_nil)
  (pss_cons (ps_if (pt_cmpR op_eq (pe_ix ix_tup (pv 0) pe_int (fun _ _ => rfl)) pe_str (nomark _)) (pss_one (ps_ret (pe_join pe_str (pe_lst (StX.pa_star (pe_slice sl_tupA (pv 0) po_none (po_some pe_int)) (StX.pa_star (pe_call G_letter_words (hr.mono (by decide)) (by rfl) g_letter_words k_letter_words b_letter_words .nil pass0 (pa_cons (pe_ix ix_tup (pv 0) pe_int (fun _ _ => rfl)) pa_nil)) pa_nil)))))) pss_nil)
  (pss_cons (ps_if (pt_cmpR op_eq (pe_ix ix_tup (pv 0) pe_int (fun _ _ => rfl)) pe_str (nomark _)) (pss_cons (ps_setLc (i := 1) (own := [("premise", 2)]) (g := gName 2) rfl sc_show_what.nd rfl rfl (sw_true rfl rfl rfl (by decide +kernel)) (pi_list (pe_ix ix_tup (pv 0) pe_int (fun _ _ => rfl))) (blkOk_by (own := [("premise", 2)]) (N := N_show_what) (sc := defScope s_show_what) (by decide +kernel)) (fun _ _ _ _ _ => pg_name (i := 2) sc_show_what.nd rfl (Or.inl rfl)) (fun _ _ _ _ _ => pts_nil) (fun _ _ _ _ _ => (pe_call G_place_words (hr.mono (by decide)) (by rfl) g_place_words k_place_words b_place_words .nil pass0 (pa_cons (pv 2) pa_nil))))
  (pss_one (ps_ret (pe_join pe_str (pe_lst (StX.pa_star (pe_slice sl_tupA (pv 0) po_none (po_some pe_int)) (pa_cons (pe_call G_figures_of (hr.mono (by decide)) (by rfl) g_figures_of k_figures_of b_figures_of .nil pass0 (pa_cons (pe_ix ix_tup (pv 0) pe_int (fun _ _ => rfl)) pa_nil)) (StX.pa_star (pv 1) pa_nil)))))))) pss_nil)
  (pss_cons (ps_if (pt_cmpR op_eq (pe_ix ix_tup (pv 0) pe_int (fun _ _ => rfl)) pe_str (nomark _)) (pss_one (ps_ret (pe_join pe_str (pe_lst (pa_cons pe_str (pa_cons (pe_call G_figures_of (hr.mono (by decide)) (by rfl) g_figures_of k_figures_of b_figures_of .nil pass0 (pa_cons (pe_ix ix_tup (pv 0) pe_int (fun _ _ => rfl)) pa_nil)) pa_nil)))))) pss_nil)
  (pss_one (ps_ret (pe_join pe_str (pv 0)))))))), ?_⟩
    refine ⟨_, rfl, v, d, rfl, hd, hw, fun H1 g1 => ⟨_, rfl, ?_⟩⟩
    have hp : whatD d = true := hp
    refine itN (by rw [hp]; decide) ?_
    cases whatX hp with
    | hear n l nn hl =>
        have hn := (nm_parts nn).2.1
        have hll : lf huge l = true := lfAll_iff.mp hlf l (by simp)
        cases hd with
        | @tup r xs _ er hall =>
        cases hall with
        | cons d0 hall =>
        cases d0
        cases hall with
        | cons d0 hall =>
        cases d0
        cases hall with
        | @cons vl _ _ _ dl hall =>
        cases hall
        have er1 := g1 _ _ er
        have dl1 := Same.da g1 dl
        refine ⟨_, rfl, r, _, 0, .str "hear", rfl, rfl, .inl (.inl er1), rfl, rfl, _, rfl, ?_⟩
        refine itY (by simp) ?_
        refine ⟨⟨_, rfl⟩, ?_⟩
        refine ⟨_, rfl, 2, rfl, slT_any er1 fun p3 H3 g3 e3 => ?_⟩
        rw [cut2'] at e3
        refine ⟨p3, _, rfl, .inl (.inl (.inl e3)), ?_⟩
        refine ⟨_, rfl, r, _, 2, vl, rfl, rfl, .inl (.inl (g3 _ _ er1)), rfl, vl, l, rfl, Same.da g3 dl1, hll, hl, fun p H4 g4 e4 => ?_⟩
        obtain ⟨l1, l2⟩ := let_lens hl hll
        refine ⟨p, _, rfl, .inr (.inl (.inl e4)), small20 (by simp; omega), fun p5 n5 => ?_⟩
        obtain ⟨H5, g5, e5, hq5⟩ := newH n5 (o := _)
        rw [hq5]
        have ew : whatW (.tuple [.str "hear", .str n, l]) = ("hear" : Str) :: n :: letW l := by cases letX hl <;> rfl
        refine ⟨_, p5, whatW (.tuple [.str "hear", .str n, l]), rfl, rfl, .inl (.inl (.inl (by rw [e5, ew]; simp))), join_big (by decide +kernel) (by rw [ew]; simp; omega) (fun u hu => ?_), qy H5 (Same.trans g1 (Same.trans g3 (Same.trans g4 g5)))⟩
        rw [ew] at hu
        simp only [List.mem_cons] at hu
        rcases hu with rfl | rfl | hu
        · decide +kernel
        · omega
        · exact l2 u hu
    | lean n i ps nn hi1 hps hl1 hl =>
        have hn := (nm_parts nn).2.1
        obtain ⟨m, rfl, hm⟩ := huge_int (lfAll_iff.mp hlf (.int i) (by simp)) (by omega)
        cases hd with
        | @tup r xs _ er hall =>
        cases hall with
        | cons d0 hall =>
        cases d0
        cases hall with
        | cons d0 hall =>
        cases d0
        cases hall with
        | cons d0 hall =>
        cases d0
        cases hall with
        | cons d0 hall =>
        cases hall
        cases d0 with
        | @lst rp xp _ ep hap =>
        have er1 := g1 _ _ er
        have ep1 := g1 _ _ ep
        have hap1 := hap.keep fun b o e _ => g1 b o e
        have hxl : xp.length = ps.length := hap1.len
        refine ⟨_, rfl, r, _, 0, .str "lean", rfl, rfl, .inl (.inl er1), rfl, rfl, _, rfl, ?_⟩
        refine itN (by decide) ?_
        refine ⟨_, rfl, r, _, 0, .str "lean", rfl, rfl, .inl (.inl er1), rfl, rfl, _, rfl, ?_⟩
        refine itY (by simp) ?_
        refine ⟨_, rfl, r, _, 3, .ref rp, rfl, rfl, .inl (.inl er1), rfl, rp, rfl, ⟨_, .inl (.inl ep1)⟩, fun D nD => ?_⟩
        refine lc_list (K := K) (a := rp) (xs := xp) (fun j H'' => Wx H1 D ((ps.take j).map plT) H'') Wx.start (fun j H2 _ hP => .inl (.inl (hP.keep nD _ _ ep1))) (fun j u H2 hu hP => ?_) fun H2 hP => ?_
        · obtain ⟨r5, x5, y5, rfl, e5, l5, l6, hj5⟩ := placesX_at hap1 hps hu
          refine ⟨rfl, yes ?_⟩
          refine ⟨_, rfl, r5, x5, y5, rfl, hP.keep nD _ _ e5, l5, l6, ?_⟩
          rw [take_plT hj5]
          exact hP.next (by rw [List.length_map, List.length_take]; omega) (placeT x5 y5)
        · have g2 : Same H1 H2 := hP.keep nD
          have y3 := hP.1
          rw [hxl, List.take_length] at y3
          refine ⟨⟨_, rfl⟩, ?_⟩
          refine ⟨_, rfl, 2, rfl, slT_any (g2 _ _ er1) fun p3 H3 g3 e3 => ?_⟩
          rw [cut2] at e3
          refine ⟨p3, _, rfl, .inl (.inl (.inl e3)), ?_⟩
          refine ⟨_, rfl, r, _, 2, .int (m : Int), rfl, rfl, .inl (.inl (g3 _ _ (g2 _ _ er1))), rfl, m, rfl, hm, fun H4 g4 => ?_⟩
          refine ⟨_, rfl, D, (ps.map plT).map V.str, rfl, .inr (.inl (.inl (g4 _ _ (g3 _ _ y3)))), small20 (by simp; omega), fun p5 n5 => ?_⟩
          obtain ⟨H5, g5, e5, hq5⟩ := newH n5 (o := _)
          rw [hq5]
          refine ⟨_, p5, "lean" :: n :: strI m :: ps.map plT, rfl, rfl, .inl (.inl (.inl (by rw [e5]; simp))), join_big (by decide +kernel) (by simp; omega) (fun u hu => ?_), qy H5 (Same.trans g1 (Same.trans g2 (Same.trans g3 (Same.trans g4 g5))))⟩
          simp only [List.mem_cons] at hu
          rcases hu with rfl | rfl | rfl | hu
          · decide +kernel
          · omega
          · exact strI_len hm
          · exact Nat.le_trans (plT_lens hps u hu) (by decide)
    | drop i hi =>
        obtain ⟨m, rfl, hm⟩ := huge_int (lfAll_iff.mp hlf (.int i) (by simp)) hi
        cases hd with
        | @tup r xs _ er hall =>
        cases hall with
        | cons d0 hall =>
        cases d0
        cases hall with
        | cons d0 hall =>
        cases d0
        cases hall
        have er1 := g1 _ _ er
        refine ⟨_, rfl, r, _, 0, .str "drop", rfl, rfl, .inl (.inl er1), rfl, rfl, _, rfl, ?_⟩
        refine itN (by decide) ?_
        refine ⟨_, rfl, r, _, 0, .str "drop", rfl, rfl, .inl (.inl er1), rfl, rfl, _, rfl, ?_⟩
        refine itN (by decide) ?_
        refine ⟨_, rfl, r, _, 0, .str "drop", rfl, rfl, .inl (.inl er1), rfl, rfl, _, rfl, ?_⟩
        refine itY (by simp) ?_
        refine ⟨⟨_, rfl⟩, ?_⟩
        refine ⟨_, rfl, r, _, 1, .int (m : Int), rfl, rfl, .inl (.inl er1), rfl, m, rfl, hm, fun H4 g4 => ?_⟩
        refine ⟨small20 (Nat.le_of_ble_eq_true rfl), fun p5 n5 => ?_⟩
        obtain ⟨H5, g5, e5, hq5⟩ := newH n5 (o := _)
        rw [hq5]
        refine ⟨_, p5, ["drop", strI m], rfl, rfl, .inl (.inl (.inl e5)), join_big (by decide +kernel) (by simp) (fun u hu => ?_), qy H5 (Same.trans g1 (Same.trans g4 g5))⟩
        simp only [List.mem_cons, List.not_mem_nil, or_false] at hu
        rcases hu with rfl | rfl
        · decide +kernel
        · exact strI_len hm
    | four t n ht nn =>
        have hn := (nm_parts nn).2.1
        have ht8 : t.length ≤ 8 := by
          simp only [fourW, List.mem_cons, List.not_mem_nil, or_false] at ht
          rcases ht with rfl | rfl | rfl | rfl <;> decide +kernel
        obtain ⟨t1, t2, t3⟩ : t ≠ "hear" ∧ t ≠ "lean" ∧ t ≠ "drop" := by
          simp only [fourW, List.mem_cons, List.not_mem_nil, or_false] at ht
          rcases ht with rfl | rfl | rfl | rfl <;> decide
        cases hd with
        | @tup r xs _ er hall =>
        cases hall with
        | cons d0 hall =>
        cases d0
        cases hall with
        | cons d0 hall =>
        cases d0
        cases hall
        have er1 := g1 _ _ er
        refine ⟨_, rfl, r, _, 0, .str t, rfl, rfl, .inl (.inl er1), rfl, rfl, _, rfl, ?_⟩
        refine itN (by simpa using t1) ?_
        refine ⟨_, rfl, r, _, 0, .str t, rfl, rfl, .inl (.inl er1), rfl, rfl, _, rfl, ?_⟩
        refine itN (by simpa using t2) ?_
        refine ⟨_, rfl, r, _, 0, .str t, rfl, rfl, .inl (.inl er1), rfl, rfl, _, rfl, ?_⟩
        refine itN (by simpa using t3) ?_
        refine ⟨⟨_, rfl⟩, _, rfl, _, r, [t, n], rfl, rfl, .inr (.inl (.inl er1)), join_big (by decide +kernel) (by simp) (fun u hu => ?_), qy H1 g1⟩
        simp only [List.mem_cons, List.not_mem_nil, or_false] at hu
        rcases hu with rfl | rfl <;> omega
end
end K65
set_option Elab.async false
set_option linter.all false
set_option maxRecDepth 100000
set_option maxHeartbeats 4000000
namespace K65
open PySem L2 Ld GxR Gx
/-! the law's own texts -/
abbrev s__law_place_text : Stmt := topS 51
abbrev N__law_place_text : List Str := ["place"]
theorem sc__law_place_text : FnScope N__law_place_text ["place"] (defScope s__law_place_text) := ⟨rfl, rfl, rfl, by decide +kernel, rfl, by decide +kernel, by decide +kernel⟩
abbrev s__law_rule_text : Stmt := topS 52
abbrev N__law_rule_text : List Str := ["rule", "words", "premise"]
theorem sc__law_rule_text : FnScope N__law_rule_text ["rule"] (defScope s__law_rule_text) := ⟨rfl, rfl, rfl, by decide +kernel, rfl, by decide +kernel, by decide +kernel⟩
abbrev s__law_words : Stmt := topS 53
abbrev N__law_words : List Str := ["things", "one"]
theorem sc__law_words : FnScope N__law_words ["things"] (defScope s__law_words) := ⟨rfl, rfl, rfl, by decide +kernel, rfl, by decide +kernel, by decide +kernel⟩
def spPTx : Sp := fun vs H Q _ => ∃ (r : Addr) (x y : Str), vs = [.ref r] ∧ H r = some (.tup [.str x, .str y]) ∧ x.length ≤ 8 ∧ y.length ≤ 8 ∧ Q (.str (placeT x y)) H
def spTx (i : Nat) : Sp := fun vs H Q _ => ∃ (v : V) (d : PyData), vs = [v] ∧ Da H v d ∧ okOf i d = true ∧ lf (10 ^ 30) d = true ∧ ∀ H' : Hp, Same H H' → Q (.str (txtOf i d)) H'
def tV : V → Str
  | .str s => s
  | .int i => Str.ofString (toString i)
  | _ => ""
def WordV (v : V) : Prop := (∃ s : Str, v = .str s ∧ s.length ≤ 1920) ∨ ∃ i : Nat, v = .int (i : Int) ∧ i ≤ 10 ^ 30
def spWdsT : Sp := fun vs H Q _ => ∃ (r : Addr) (xs : List V), vs = [.ref r] ∧ H r = some (.tup xs) ∧ xs.length ≤ 6 ∧ (∀ v ∈ xs, WordV v) ∧ ∀ H' : Hp, Same H H' → Q (.str (Txt.join blank (xs.map tV))) H'
theorem word_len {v : V} (h : WordV v) : (tV v).length ≤ 1920 := by
  rcases h with ⟨s, rfl, h⟩ | ⟨i, rfl, h⟩
  · exact h
  · exact strI_len (Nat.lt_of_le_of_lt h (by decide +kernel))
theorem small_log {i : Nat} (h : i ≤ 10 ^ 30) : ((i : Int)).natAbs.log2 < 1920 := by
  rw [Int.natAbs_natCast]
  exact Nat.lt_trans (PySem.Flt.log2_lt_of (k := 100) (by decide) (Nat.lt_of_le_of_lt h (by decide +kernel))) (by decide)
theorem lf_int {i : Int} (h : lf (10 ^ 30) (.int i) = true) (h0 : 0 ≤ i) : ∃ m : Nat, i = (m : Int) ∧ m ≤ 10 ^ 30 := by
  have h1 : i.natAbs ≤ 10 ^ 30 := of_decide_eq_true h
  exact ⟨i.toNat, by omega, by omega⟩
section
variable {P : Program} {w : World} {K : PySem.W.Frag} {mg : Str → Option Value} {base : Heap}
theorem ok__law_place_text {f : Addr} {fd : FuncData} (F : Fun K "_law_place_text" "_law_place_text" s__law_place_text f fd) : FnOk P w K mg base CX0 1 f fd ["place"] spPTx := by
  refine F.ok sc__law_place_text (fun vs H Q E h => ?_) (fun cdv A outer s H vs Q E hr h => ?_)
  · obtain ⟨r, x, y, rfl, _⟩ := h
    rfl
  · obtain ⟨r, x, y, rfl, er, l1, l2, q⟩ := h
    refine ⟨_, (pss_one (ps_ret (pe_op op_add_str (pe_op op_add_str (pe_ix ix_tup (pv 0) pe_int (fun _ _ => rfl)) pe_str) (pe_ix ix_tup (pv 0) pe_int (fun _ _ => rfl))))), ?_⟩
    have lp : ("." : Str).length = 1 := by decide +kernel
    refine ⟨_, rfl, r, _, 0, .str x, rfl, rfl, .inl (.inl er), rfl, _, _, rfl, rfl, small20 (by rw [lp]; omega), ?_⟩
    refine ⟨_, rfl, r, _, 1, .str y, rfl, rfl, .inl (.inl er), rfl, _, _, rfl, rfl, small20 (by rw [Str.length_append]; omega), ?_⟩
    rw [placeT_eq] at q
    exact q
theorem ok__law_rule_text {f fA : Addr} {fd fdA : FuncData} (F : Fun K "_law_rule_text" "_law_rule_text" s__law_rule_text f fd) (G__law_place_text : FnOk P w K mg base CX0 1 fA fdA ["place"] spPTx) (g__law_place_text : mg "_law_place_text" = some (.ref fA)) (k__law_place_text : PySem.W.keepIn K (.ref fA) = true) (b__law_place_text : Binds K fdA ["place"] []) (z_str : mg "str" = none) : FnOk P w K mg base CX0 2 f fd ["rule"] (spTx 1) := by
  refine F.ok sc__law_rule_text (fun vs H Q E h => ?_) (fun cdv A outer s H vs Q E hr h => ?_)
  · obtain ⟨v, d, rfl, _⟩ := h
    rfl
  · obtain ⟨v, d, rfl, hd, hs, hlf, q⟩ := h
    refine ⟨_, (pss_cons (ps_set (i := 1) sc__law_rule_text.nd rfl (Or.inl rfl) (pe_lst (pa_cons (pe_call G__law_place_text (hr.mono (by decide)) (by rfl) g__law_place_text k__law_place_text b__law_place_text .nil pass0 (pa_cons (pe_slice sl_tupA (pv 0) po_none (po_some pe_int)) pa_nil)) (pa_cons pe_str (pa_cons (pe_callTy call_str_int (by rfl) z_str (by decide +kernel) (pa_cons (pe_ix ix_tup (pv 0) pe_int (fun _ _ => rfl)) pa_nil)) pa_nil)))))
  (pss_one (ps_ret (pe_join pe_str (pe_op op_cat (pv 1) (pe_lc (own := [("premise", 2)]) (g := gName 2) rfl sc__law_rule_text.nd (pi_list (pe_ix ix_tup (pv 0) pe_int (fun _ _ => rfl))) (blkOk_by (own := [("premise", 2)]) (N := N__law_rule_text) (sc := defScope s__law_rule_text) (by decide +kernel)) (fun _ _ _ _ _ => pg_name (i := 2) sc__law_rule_text.nd rfl (Or.inl rfl)) (fun _ _ _ _ _ => pts_nil) (fun _ _ _ _ _ => (pe_call G__law_place_text (hr.mono (by decide)) (by rfl) g__law_place_text k__law_place_text b__law_place_text .nil pass0 (pa_cons (pv 2) pa_nil))))))))), ?_⟩
    have hs : ruleD d = true := hs
    cases ruleX hs with
    | mk x y i ps nx ny hi1 hps hl1 hl =>
      obtain ⟨m, rfl, hm⟩ := lf_int (lfAll_iff.mp hlf (.int i) (by simp)) (by omega)
      have hx := (nm_parts nx).2.1
      have hy := (nm_parts ny).2.1
      cases hd with
      | @tup r xs _ er hall =>
      cases hall with
      | cons d0 hall =>
      cases d0
      cases hall with
      | cons d0 hall =>
      cases d0
      cases hall with
      | cons d0 hall =>
      cases d0
      cases hall with
      | cons d0 hall =>
      cases hall
      cases d0 with
      | @lst rp xp _ ep hap =>
      have hxl : xp.length = ps.length := hap.len
      refine ⟨_, rfl, 2, rfl, slT_any er fun p1 H1 g1 e1 => ?_⟩
      rw [cut2] at e1
      refine ⟨p1, x, y, rfl, e1, hx, hy, ?_⟩
      refine ⟨_, rfl, r, _, 2, .int (m : Int), rfl, rfl, .inl (.inl (g1 _ _ er)), rfl, (m : Int), rfl, small_log hm, ?_⟩
      refine ⟨small20 (Nat.le_of_ble_eq_true rfl), fun p2 n2 => ?_⟩
      obtain ⟨H2, g2, e2, hq2⟩ := newH n2 (o := _)
      rw [hq2]
      have g12 := Same.trans g1 g2
      refine ⟨⟨_, rfl⟩, ?_⟩
      refine ⟨_, rfl, _, rfl, r, _, 3, .ref rp, rfl, rfl, .inl (.inl (g12 _ _ er)), rfl, rp, rfl, ⟨_, .inl (.inl (g12 _ _ ep))⟩, fun D nD => ?_⟩
      have hap2 := hap.keep fun b o e _ => g12 b o e
      refine lc_list (K := K) (a := rp) (xs := xp) (fun j H'' => Wx H2 D ((ps.take j).map plT) H'') Wx.start (fun j H3 _ hP => .inl (.inl (hP.keep nD _ _ (g12 _ _ ep)))) (fun j u H3 hu hP => ?_) fun H3 hP => ?_
      · obtain ⟨r5, x5, y5, rfl, e5, l5, l6, hj5⟩ := placesX_at hap2 hps hu
        refine ⟨rfl, yes ?_⟩
        refine ⟨_, rfl, r5, x5, y5, rfl, hP.keep nD _ _ e5, l5, l6, ?_⟩
        rw [take_plT hj5]
        exact hP.next (by rw [List.length_map, List.length_take]; omega) (placeT x5 y5)
      · have g23 : Same H2 H3 := hP.keep nD
        have y3 := hP.1
        rw [hxl, List.take_length] at y3
        refine ⟨p2, D, _, _, rfl, rfl, g23 _ _ e2, y3, small20 (by simp; omega), fun p5 n5 => ?_⟩
        obtain ⟨H5, g5, e5, hq5⟩ := newH n5 (o := _)
        rw [hq5]
        refine ⟨_, p5, placeT x y :: "=" :: strI m :: ps.map plT, rfl, rfl, .inl (.inl (.inl (by rw [e5]; rfl))), join_big (by decide +kernel) (by simp; omega) (fun u hu => ?_), q H5 (Same.trans g12 (Same.trans g23 g5))⟩
        simp only [List.mem_cons] at hu
        rcases hu with rfl | rfl | rfl | hu
        · rw [placeT_eq, Str.length_append, Str.length_append]
          have h3 : ("." : Str).length = 1 := by decide +kernel
          omega
        · decide +kernel
        · exact strI_len (Nat.lt_of_le_of_lt hm (by decide +kernel))
        · exact Nat.le_trans (plT_lens hps u hu) (by decide)
theorem ok__law_words {f : Addr} {fd : FuncData} (F : Fun K "_law_words" "_law_words" s__law_words f fd) (z_str : mg "str" = none) : FnOk P w K mg base CX0 1 f fd ["things"] spWdsT := by
  refine F.ok sc__law_words (fun vs H Q E h => ?_) (fun cdv A outer s H vs Q E hr h => ?_)
  · obtain ⟨r, xs, rfl, _⟩ := h
    rfl
  · obtain ⟨r, xs, rfl, er, hl, hw, q⟩ := h
    refine ⟨_, (pss_one (ps_ret (pe_join pe_str (pe_lc (own := [("one", 1)]) (g := gName 1) rfl sc__law_words.nd (pi_tup (pv 0)) (blkOk_by (own := [("one", 1)]) (N := N__law_words) (sc := defScope s__law_words) (by decide +kernel)) (fun _ _ _ _ _ => pg_name (i := 1) sc__law_words.nd rfl (Or.inl rfl)) (fun _ _ _ _ _ => pts_nil) (fun _ _ _ _ _ => pe_callTy (CallR.or call_str_int SkE.call_str_str) (by rfl) z_str (by decide +kernel) (pa_cons (pv 1) pa_nil)))))), ?_⟩
    refine ⟨⟨_, rfl⟩, _, rfl, r, rfl, ⟨_, .inl (.inl er)⟩, fun D nD => ?_⟩
    refine lc_tup (K := K) (a := r) (xs := xs) (fun j H'' => Wx H D ((xs.take j).map tV) H'') Wx.start (fun j H3 _ hP => .inl (.inl (hP.keep nD _ _ er))) (fun j u H3 hu hP => ?_) fun H3 hP => ?_
    · refine ⟨rfl, yes ?_⟩
      have e : (xs.take (j + 1)).map tV = (xs.take j).map tV ++ [tV u] := by
        rw [List.take_add_one, hu, Option.toList_some, List.map_append]
        rfl
      rw [e]
      rcases hw u (List.mem_of_getElem? hu) with ⟨x, rfl, hx⟩ | ⟨i, rfl, hi⟩
      · exact ⟨_, rfl, .inr ⟨x, rfl, hP.next (by rw [List.length_map, List.length_take]; omega) x⟩⟩
      · exact ⟨_, rfl, .inl ⟨(i : Int), rfl, small_log hi, hP.next (by rw [List.length_map, List.length_take]; omega) _⟩⟩
    · have s3 : Same H H3 := hP.keep nD
      have y3 := hP.1
      rw [List.take_length] at y3
      refine ⟨_, D, xs.map tV, rfl, rfl, .inl (.inl (.inl y3)), join_big (by decide +kernel) (by simp; omega) (fun u hu => ?_), q H3 s3⟩
      obtain ⟨v, hv, rfl⟩ := List.mem_map.mp hu
      exact word_len (hw v hv)
end
end K65
set_option Elab.async false
set_option linter.all false
set_option maxRecDepth 100000
set_option maxHeartbeats 4000000
namespace K65
open PySem L2 Ld GxR Gx
/-! the law's text of a what -/
abbrev s__law_what_text : Stmt := topS 54
abbrev N__law_what_text : List Str := ["what", "premise"]
theorem sc__law_what_text : FnScope N__law_what_text ["what"] (defScope s__law_what_text) := ⟨rfl, rfl, rfl, by decide +kernel, rfl, by decide +kernel, by decide +kernel⟩
theorem join_join (s a b c : Str) (r : List Str) : Txt.join s (Txt.join s [a, b, c] :: r) = Txt.join s (a :: b :: c :: r) := by
  rw [tjn, tjn, tjn]
  cases r with
  | nil => rfl
  | cons y r =>
    rw [PyProof.Rows.join_cons_cons, PyProof.Rows.join_cons_cons, PyProof.Rows.join_cons_cons, PyProof.Rows.join_one, PyProof.Rows.join_cons_cons, PyProof.Rows.join_cons_cons, PyProof.Rows.join_cons_cons]
    simp only [Str.append_assoc]
theorem word_nm {n : Str} (h : nm n) : WordV (.str n) := .inl ⟨n, rfl, Nat.le_trans (nm_parts h).2.1 (by decide)⟩
theorem word_lit {s : Str} (h : s.length ≤ 1920) : WordV (.str s) := .inl ⟨s, rfl, h⟩
theorem let_at {H : Hp} {v : V} {d : PyData} (hd : Da H v d) (h : letterD d = true) (hlf : lf (10 ^ 30) d = true) : ∃ (r : Addr) (xs : List V), v = .ref r ∧ H r = some (.tup xs) ∧ (∀ u ∈ xs, WordV u) ∧ xs.length ≤ 3 ∧ xs.map tV = letW d := by
  cases letX h with
  | two t n ht hn =>
    cases hd with
    | @tup r xs _ er hall =>
    cases hall with
    | cons d0 hall =>
    cases d0
    cases hall with
    | cons d0 hall =>
    cases d0
    cases hall
    refine ⟨r, _, rfl, er, fun u hu => ?_, by simp, rfl⟩
    simp only [List.mem_cons, List.not_mem_nil, or_false] at hu
    rcases hu with rfl | rfl
    · rcases ht with rfl | rfl <;> exact word_lit (by decide +kernel)
    · exact word_nm hn
  | hold n i hn hi =>
    obtain ⟨m, rfl, hm⟩ := lf_int (lfAll_iff.mp hlf (.int i) (by simp)) hi
    cases hd with
    | @tup r xs _ er hall =>
    cases hall with
    | cons d0 hall =>
    cases d0
    cases hall with
    | cons d0 hall =>
    cases d0
    cases hall with
    | cons d0 hall =>
    cases d0
    cases hall
    refine ⟨r, _, rfl, er, fun u hu => ?_, by simp, rfl⟩
    simp only [List.mem_cons, List.not_mem_nil, or_false] at hu
    rcases hu with rfl | rfl | rfl
    · exact word_lit (by decide +kernel)
    · exact word_nm hn
    · exact .inr ⟨m, rfl, hm⟩
section
variable {P : Program} {w : World} {K : PySem.W.Frag} {mg : Str → Option Value} {base : Heap}
theorem ok__law_what_text {f fA fB : Addr} {fd fdA fdB : FuncData} (F : Fun K "_law_what_text" "_law_what_text" s__law_what_text f fd) (G__law_place_text : FnOk P w K mg base CX0 1 fA fdA ["place"] spPTx) (g__law_place_text : mg "_law_place_text" = some (.ref fA)) (k__law_place_text : PySem.W.keepIn K (.ref fA) = true) (b__law_place_text : Binds K fdA ["place"] [])
    (G__law_words : FnOk P w K mg base CX0 1 fB fdB ["things"] spWdsT) (g__law_words : mg "_law_words" = some (.ref fB)) (k__law_words : PySem.W.keepIn K (.ref fB) = true) (b__law_words : Binds K fdB ["things"] []) : FnOk P w K mg base CX0 2 f fd ["what"] (spTx 3) := by
  refine F.ok sc__law_what_text (fun vs H Q E h => ?_) (fun cdv A outer s H vs Q E hr h => ?_)
  · obtain ⟨v, d, rfl, _⟩ := h
    rfl
  · obtain ⟨v, d, rfl, hd, hs, hlf, q⟩ := h
    refine ⟨_, (pss_cons (ps_if (pt_cmpR op_eq (pe_ix ix_tup (pv 0) pe_int (fun _ _ => rfl)) pe_str (nomark _)) (pss_one (ps_ret (pe_join pe_str (pe_op op_cat (pe_lst (pa_cons (pe_call G__law_words (hr.mono (by decide)) (by rfl) g__law_words k__law_words b__law_words .nil pass0 (pa_cons (pe_slice sl_tupA (pv 0) po_none (po_some pe_int)) pa_nil)) pa_nil)) (pe_lc (own := [("premise", 1)]) (g := gName 1) rfl sc__law_what_text.nd (pi_list (pe_ix ix_tup (pv 0) pe_int (fun _ _ => rfl))) (blkOk_by (own := [("premise", 1)]) (N := N__law_what_text) (sc := defScope s__law_what_text) (by decide +kernel)) (fun _ _ _ _ _ => pg_name (i := 1) sc__law_what_text.nd rfl (Or.inl rfl)) (fun _ _ _ _ _ => pts_nil) (fun _ _ _ _ _ => (pe_call G__law_place_text (hr.mono (by decide)) (by rfl) g__law_place_text k__law_place_text b__law_place_text .nil pass0 (pa_cons (pv 1) pa_nil)))))))) pss_nil)
  (pss_one (ps_ret (pe_ifExp (pt_cmpR op_eq (pe_ix ix_tup (pv 0) pe_int (fun _ _ => rfl)) pe_str (nomark _)) (pe_call G__law_words (hr.mono (by decide)) (by rfl) g__law_words k__law_words b__law_words .nil pass0 (pa_cons (pe_op op_catA (pe_slice sl_tupA (pv 0) po_none (po_some pe_int)) (pe_ix ix_tup (pv 0) pe_int (fun _ _ => rfl))) pa_nil)) (pe_call G__law_words (hr.mono (by decide)) (by rfl) g__law_words k__law_words b__law_words .nil pass0 (pa_cons (pv 0) pa_nil)))))), ?_⟩
    have hs : whatD d = true := hs
    cases whatX hs with
    | four t n ht nn =>
      have ht8 : t.length ≤ 8 := by
        simp only [fourW, List.mem_cons, List.not_mem_nil, or_false] at ht
        rcases ht with rfl | rfl | rfl | rfl <;> decide +kernel
      obtain ⟨t1, t2⟩ : t ≠ "hear" ∧ t ≠ "lean" := by
        simp only [fourW, List.mem_cons, List.not_mem_nil, or_false] at ht
        rcases ht with rfl | rfl | rfl | rfl <;> decide
      cases hd with
      | @tup r xs _ er hall =>
      cases hall with
      | cons d0 hall =>
      cases d0
      cases hall with
      | cons d0 hall =>
      cases d0
      cases hall
      refine ⟨_, rfl, r, _, 0, .str t, rfl, rfl, .inl (.inl er), rfl, rfl, _, rfl, ?_⟩
      refine itN (by simpa using t2) ?_
      refine ⟨_, rfl, r, _, 0, .str t, rfl, rfl, .inl (.inl er), rfl, rfl, _, rfl, ?_⟩
      refine itN (by simpa using t1) ?_
      refine ⟨_, rfl, r, _, rfl, er, by simp, fun u hu => ?_, fun H' g => q H' g⟩
      simp only [List.mem_cons, List.not_mem_nil, or_false] at hu
      rcases hu with rfl | rfl
      · exact word_lit (Nat.le_trans ht8 (by decide))
      · exact word_nm nn
    | drop i hi =>
      obtain ⟨m, rfl, hm⟩ := lf_int (lfAll_iff.mp hlf (.int i) (by simp)) hi
      cases hd with
      | @tup r xs _ er hall =>
      cases hall with
      | cons d0 hall =>
      cases d0
      cases hall with
      | cons d0 hall =>
      cases d0
      cases hall
      refine ⟨_, rfl, r, _, 0, .str "drop", rfl, rfl, .inl (.inl er), rfl, rfl, _, rfl, ?_⟩
      refine itN (by decide) ?_
      refine ⟨_, rfl, r, _, 0, .str "drop", rfl, rfl, .inl (.inl er), rfl, rfl, _, rfl, ?_⟩
      refine itN (by decide) ?_
      refine ⟨_, rfl, r, _, rfl, er, by simp, fun u hu => ?_, fun H' g => q H' g⟩
      simp only [List.mem_cons, List.not_mem_nil, or_false] at hu
      rcases hu with rfl | rfl
      · exact word_lit (by decide +kernel)
      · exact .inr ⟨m, rfl, hm⟩
    | hear n l nn hl =>
      have ew : whatW (.tuple [.str "hear", .str n, l]) = ("hear" : Str) :: n :: letW l := by cases letX hl <;> rfl
      have hll : lf (10 ^ 30) l = true := lfAll_iff.mp hlf l (by simp)
      cases hd with
      | @tup r xs _ er hall =>
      cases hall with
      | cons d0 hall =>
      cases d0
      cases hall with
      | cons d0 hall =>
      cases d0
      cases hall with
      | @cons vl _ _ _ dl hall =>
      cases hall
      obtain ⟨rl, xl, rfl, el, wl, ll, etv⟩ := let_at dl hl hll
      refine ⟨_, rfl, r, _, 0, .str "hear", rfl, rfl, .inl (.inl er), rfl, rfl, _, rfl, ?_⟩
      refine itN (by decide) ?_
      refine ⟨_, rfl, r, _, 0, .str "hear", rfl, rfl, .inl (.inl er), rfl, rfl, _, rfl, ?_⟩
      refine itY (by simp) ?_
      refine ⟨_, rfl, 2, rfl, slT_any er fun p1 H1 g1 e1 => ?_⟩
      rw [cut2'] at e1
      refine ⟨_, rfl, r, _, 2, .ref rl, rfl, rfl, .inl (.inl (g1 _ _ er)), rfl, ?_⟩
      refine catT_any e1 (g1 _ _ el) (by simp; omega) fun p2 H2 g2 e2 => ?_
      refine ⟨p2, _, rfl, e2, by simp; omega, fun u hu => ?_, fun H' g => ?_⟩
      · simp only [List.mem_append, List.mem_cons, List.not_mem_nil, or_false] at hu
        rcases hu with (rfl | rfl) | hu
        · exact word_lit (by decide +kernel)
        · exact word_nm nn
        · exact wl u hu
      · have q := q H' (Same.trans g1 (Same.trans g2 g))
        rw [List.map_append, etv]
        rw [show txtOf 3 (.tuple [.str "hear", .str n, l]) = Txt.join blank (whatW (.tuple [.str "hear", .str n, l])) from rfl, ew] at q
        exact q
    | lean n i ps nn hi1 hps hl1 hl =>
      obtain ⟨m, rfl, hm⟩ := lf_int (lfAll_iff.mp hlf (.int i) (by simp)) (by omega)
      cases hd with
      | @tup r xs _ er hall =>
      cases hall with
      | cons d0 hall =>
      cases d0
      cases hall with
      | cons d0 hall =>
      cases d0
      cases hall with
      | cons d0 hall =>
      cases d0
      cases hall with
      | cons d0 hall =>
      cases hall
      cases d0 with
      | @lst rp xp _ ep hap =>
      have hxl : xp.length = ps.length := hap.len
      refine ⟨_, rfl, r, _, 0, .str "lean", rfl, rfl, .inl (.inl er), rfl, rfl, _, rfl, ?_⟩
      refine itY (by simp) ?_
      refine ⟨⟨_, rfl⟩, ?_⟩
      refine ⟨_, rfl, 3, rfl, slT_any er fun p1 H1 g1 e1 => ?_⟩
      rw [show cutV [V.str "lean", .str n, .int (m : Int), .ref rp] none (some 3) = [V.str "lean", .str n, .int (m : Int)] from sub_take (i := 3) (by simp)] at e1
      refine ⟨p1, _, rfl, e1, by simp, fun u hu => ?_, fun H2 g2 => ?_⟩
      · simp only [List.mem_cons, List.not_mem_nil, or_false] at hu
        rcases hu with rfl | rfl | rfl
        · exact word_lit (by decide +kernel)
        · exact word_nm nn
        · exact .inr ⟨m, rfl, hm⟩
      refine ⟨small20 (Nat.le_of_ble_eq_true rfl), fun p3 n3 => ?_⟩
      obtain ⟨H3, g3, e3, hq3⟩ := newH n3 (o := _)
      rw [hq3]
      have g13 := Same.trans g1 (Same.trans g2 g3)
      refine ⟨_, rfl, r, _, 3, .ref rp, rfl, rfl, .inl (.inl (g13 _ _ er)), rfl, rp, rfl, ⟨_, .inl (.inl (g13 _ _ ep))⟩, fun D nD => ?_⟩
      have hap3 := hap.keep fun b o e _ => g13 b o e
      refine lc_list (K := K) (a := rp) (xs := xp) (fun j H'' => Wx H3 D ((ps.take j).map plT) H'') Wx.start (fun j H4 _ hP => .inl (.inl (hP.keep nD _ _ (g13 _ _ ep)))) (fun j u H4 hu hP => ?_) fun H4 hP => ?_
      · obtain ⟨r5, x5, y5, rfl, e5, l5, l6, hj5⟩ := placesX_at hap3 hps hu
        refine ⟨rfl, yes ?_⟩
        refine ⟨_, rfl, r5, x5, y5, rfl, hP.keep nD _ _ e5, l5, l6, ?_⟩
        rw [take_plT hj5]
        exact hP.next (by rw [List.length_map, List.length_take]; omega) (placeT x5 y5)
      · have g34 : Same H3 H4 := hP.keep nD
        have y3 := hP.1
        rw [hxl, List.take_length] at y3
        refine ⟨p3, D, _, _, rfl, rfl, g34 _ _ e3, y3, small20 (by simp; omega), fun p5 n5 => ?_⟩
        obtain ⟨H5, g5, e5, hq5⟩ := newH n5 (o := _)
        rw [hq5]
        have l3 : (Txt.join blank [("lean" : Str), n, strI m]).length ≤ 1920 := by
          rw [tjn]
          have h1 := StrLaws.join_length_le blank [("lean" : Str), n, strI m]
          have h2 := (nm_parts nn).2.1
          have h3 : (strI m).length ≤ 31 := by
            rw [len_cps, strI_tl]
            exact TL.numL_len (by decide) (Nat.lt_of_le_of_lt hm (by decide +kernel))
          have h4 : ("lean" : Str).length = 4 := by decide +kernel
          have h5 : blank.length = 1 := by decide +kernel
          simp only [List.map_cons, List.map_nil, List.sum_cons, List.sum_nil, List.length_cons, List.length_nil] at h1
          omega
        refine ⟨_, p5, Txt.join blank [("lean" : Str), n, strI m] :: ps.map plT, rfl, rfl, .inl (.inl (.inl (by rw [e5]; rfl))), join_big (by decide +kernel) (by simp; omega) (fun u hu => ?_), ?_⟩
        · rcases List.mem_cons.mp hu with rfl | hu
          · exact l3
          · exact Nat.le_trans (plT_lens hps u hu) (by decide)
        · rw [join_join]
          exact q H5 (Same.trans g13 (Same.trans g34 g5))
end
end K65
set_option Elab.async false
set_option linter.all false
set_option maxRecDepth 100000
set_option maxHeartbeats 4000000
namespace K65
open PySem L2 Ld GxR Gx Sg
/-! the law's side: rules that are drawn -/
abbrev s__law_rule : Stmt := topS 56
abbrev N__law_rule : List Str := ["pot", "places", "price"]
theorem sc__law_rule : FnScope N__law_rule ["pot"] (defScope s__law_rule) := ⟨rfl, rfl, rfl, by decide +kernel, rfl, by decide +kernel, by decide +kernel⟩
def spRuleG : Sp := fun vs H Q _ => ∃ (a : Addr) (x b c : Int), vs = [.ref a] ∧ Pot H a x b c ∧ (0 ≤ b ∧ b < 2 ^ 200) ∧ (0 ≤ c ∧ c < 2 ^ 56) ∧
  ∀ (v : V) (d : PyData) (H' : Hp) (x' c' : Int), Da (hid a H') v d → Gd (10 ^ 30) 246 3 d → ruleD d = true → (∀ (x y : Str) (i : Int) (ps : List PyData), d = .tuple [.str x, .str y, .int i, .list ps] → x ≠ "lean") → Pot H' a x' b c' → c ≤ c' → c' ≤ c + 150 → Ka a H H' → Q v H'
def UR : List (Str × Str) := prodP ["an", "open", "zzzzzzzz"] ["lean", "holds", "abcdefgh"]
theorem UR_ok : UR.Nodup ∧ UR.all nameP = true ∧ UR.length = 9 := by decide +kernel
theorem UR_lean : ∀ p ∈ UR, p.1 ≠ "lean" := by
  have h : (UR.all fun p => decide (p.1 ≠ "lean")) = true := by decide +kernel
  exact fun p hp => of_decide_eq_true (List.all_eq_true.mp h p hp)
theorem nm_short {x : Str} (h : nameD (.str x) = true) : Short x := by
  have h : (decide (1 ≤ x.length ∧ x.length ≤ 8) && x.cps.toList.all signB) = true := h
  rw [Bool.and_eq_true, decide_eq_true_eq] at h
  exact ⟨h.1.2, fun c hc => by
    have := (signB_iff c).mp (List.all_eq_true.mp h.2 c hc)
    omega⟩
section
variable {P : Program} {w : World} {K : PySem.W.Frag} {mg : Str → Option Value} {base : Heap}
theorem ok__law_rule {f fN fA fQ : Addr} {fd fdN fdA fdQ : FuncData} (F : Fun K "_law_rule" "_law_rule" s__law_rule f fd) (G__law_dip : FnOk P w K mg base CX0 1 fN fdN ["pot", "many"] spDip) (g__law_dip : mg "_law_dip" = some (.ref fN)) (k__law_dip : PySem.W.keepIn K (.ref fN) = true) (b__law_dip : Binds K fdN ["pot", "many"] [])
    (G__law_pairs : FnOk P w K mg base CX0 1 fA fdA ["ones", "others"] (spPairsX K)) (g__law_pairs : mg "_law_pairs" = some (.ref fA)) (k__law_pairs : PySem.W.keepIn K (.ref fA) = true) (b__law_pairs : Binds K fdA ["ones", "others"] [])
    (G__law_premises : FnOk P w K mg base CX0 3 fQ fdQ ["pot", "places"] (spPrem K)) (g__law_premises : mg "_law_premises" = some (.ref fQ)) (k__law_premises : PySem.W.keepIn K (.ref fQ) = true) (b__law_premises : Binds K fdQ ["pot", "places"] []) : FnOk P w K mg base CX0 4 f fd ["pot"] spRuleG := by
  refine F.ok sc__law_rule (fun vs H Q E h => ?_) (fun cdv A outer s H vs Q E hr h => ?_)
  · obtain ⟨a, x, b, c, rfl, _⟩ := h
    rfl
  · obtain ⟨a, x, b, c, rfl, hp, hb, ⟨hc0, hc1⟩, q⟩ := h
    refine ⟨_, (pss_cons (ps_set (i := 1) sc__law_rule.nd rfl (Or.inl rfl) (pe_call G__law_pairs (hr.mono (by decide)) (by rfl) g__law_pairs k__law_pairs b__law_pairs .nil pass0 (pa_cons (pe_lst (pa_cons pe_str (pa_cons pe_str (pa_cons pe_str pa_nil)))) (pa_cons (pe_lst (pa_cons pe_str (pa_cons pe_str (pa_cons pe_str pa_nil)))) pa_nil))))
  (pss_cons (ps_set (i := 2) sc__law_rule.nd rfl (Or.inl rfl) (pe_ix ix_list (pe_lst (pa_cons pe_int (pa_cons (pe_op op_add pe_int (pe_call G__law_dip (hr.mono (by decide)) (by rfl) g__law_dip k__law_dip b__law_dip .nil pass0 (pa_cons (pv 0) (pa_cons pe_int pa_nil)))) (pa_cons pe_int (pa_cons pe_int pa_nil))))) (pe_call G__law_dip (hr.mono (by decide)) (by rfl) g__law_dip k__law_dip b__law_dip .nil pass0 (pa_cons (pv 0) (pa_cons pe_int pa_nil))) (fun _ _ => rfl)))
  (pss_one (ps_ret (pe_op op_catA (pe_ix ix_list (pv 1) (pe_call G__law_dip (hr.mono (by decide)) (by rfl) g__law_dip k__law_dip b__law_dip .nil pass0 (pa_cons (pv 0) (pa_cons pe_int pa_nil))) (fun _ _ => rfl)) (pe_tup (pa_cons (pv 2) (pa_cons (pe_call G__law_premises (hr.mono (by decide)) (by rfl) g__law_premises k__law_premises b__law_premises .nil pass0 (pa_cons (pv 0) (pa_cons (pv 1) pa_nil))) pa_nil)))))))), ?_⟩
    -- places
    refine ⟨show 3 ≤ sizeLine by decide, fun p2 n2 => ?_⟩
    obtain ⟨H2, g2, e2, hq2⟩ := newH n2 (o := _)
    rw [hq2]
    refine ⟨show 3 ≤ sizeLine by decide, fun p3 n3 => ?_⟩
    obtain ⟨H3, g3, e3, hq3⟩ := newH n3 (o := _)
    rw [hq3]
    have q3 := Same.pot (g2.trans g3) hp
    refine ⟨p2, p3, ["an", "open", "zzzzzzzz"], ["lean", "holds", "abcdefgh"], rfl, .inl (.inl (g3 _ _ e2)), .inl (.inl e3), by decide, by decide, fun L M H4 hM nL eL hPI g4 => ?_⟩
    have hM : M.map (·.2) = UR := hM
    have q4 : Pot H4 a x b c := Same.pot g4 q3
    have aL : L ≠ a := pot_ne q3 nL
    have k04 : Ka a H H4 := Ka.of ((g2.trans g3).trans g4)
    have hvl9 : (M.map fun q => V.ref q.1).length = 9 := by
      have := congrArg List.length hM
      rw [List.length_map] at this ⊢
      rw [this]
      exact UR_ok.2.2
    -- price
    refine ⟨_, rfl, a, x, b, c, 999999999, rfl, q4, hb, ⟨by omega, by omega⟩, ⟨by decide, by decide⟩, fun x5 c5 r5 u1 u2 u3 u4 => ?_⟩
    obtain ⟨H5, q5, k5, hq5⟩ := potH (a := a) x5 b c5 (H := H4)
    rw [hq5]
    refine ⟨_, _, rfl, rfl, show 4 ≤ sizeLine by decide, fun p6 n6 => ?_⟩
    have a6 : p6 ≠ a := pot_ne q5 n6
    obtain ⟨H6, g6, e6, hq6⟩ := newH n6 (o := _)
    rw [hq6]
    refine ⟨_, rfl, a, x5, b, c5, 4, rfl, Same.pot g6 q5, hb, ⟨by omega, by omega⟩, ⟨by decide, by decide⟩, fun x7 c7 r7 v1 v2 v3 v4 => ?_⟩
    obtain ⟨H7, q7, k7, hq7⟩ := potH (a := a) x7 b c7 (H := H6)
    rw [hq7]
    have k47 : Ka a H4 H7 := (k5.trans (Ka.of g6)).trans k7
    obtain ⟨pr, hpr, hpr0, hpr1⟩ : ∃ h : Int, atI [V.int 1, .int (1 + r5), .int 999999999, .int 10] r7 = some (.int h) ∧ h.natAbs ≤ 10 ^ 9 ∧ 1 ≤ h := by
      obtain h | h | h | h : r7 = 0 ∨ r7 = 1 ∨ r7 = 2 ∨ r7 = 3 := by omega
      all_goals subst h
      · exact ⟨1, rfl, by decide, by decide⟩
      · exact ⟨1 + r5, rfl, by omega, by omega⟩
      · exact ⟨999999999, rfl, by decide, by decide⟩
      · exact ⟨10, rfl, by decide, by decide⟩
    refine ⟨p6, _, r7, .int pr, rfl, rfl, .inl (.inl (k7 _ _ a6 e6)), hpr, ?_⟩
    -- places[dip(9)]
    refine ⟨_, rfl, _, rfl, a, x7, b, c7, 9, rfl, q7, hb, ⟨by omega, by omega⟩, ⟨by decide, by decide⟩, fun x8 c8 r8 w1 w2 w3 w4 => ?_⟩
    obtain ⟨H8, q8, k8, hq8⟩ := potH (a := a) x8 b c8 (H := H7)
    rw [hq8]
    obtain ⟨n8, rfl⟩ : ∃ n : Nat, r8 = (n : Int) := ⟨r8.toNat, by omega⟩
    have k48 := k47.trans k8
    have hP8 := hPI.ka q4 k48
    have hMl : M.length = 9 := by rw [List.length_map] at hvl9; exact hvl9
    obtain ⟨hd, hhd⟩ : ∃ q, M[n8]? = some q := ⟨_, List.getElem?_eq_getElem (show n8 < M.length by omega)⟩
    have hhm := List.mem_of_getElem? hhd
    have hd2 : hd.2 ∈ UR := by
      rw [← hM]
      exact List.mem_map_of_mem hhm
    refine ⟨L, _, _, _, rfl, rfl, .inl (.inl (k48 _ _ aL eL)), atI_nat (by rw [List.getElem?_map, hhd]; rfl), ?_⟩
    have ehd := hP8 hd hhm
    -- premises
    refine ⟨_, rfl, _, rfl, _, rfl, a, L, x8, b, c8, M.map (fun q => V.ref q.1), rfl, q8, hb, ⟨by omega, by omega⟩, .inl (.inl (k48 _ _ aL eL)), aL, by omega, by omega, fun D ys zs H9 x9 c9 hpm l1 l2 nD eD q9 h9 h9' k9 => ?_⟩
    have aD : D ≠ a := fun e => by
      have q9' : H9 a = some _ := q9
      rw [e, q9'] at eD
      have := Option.some.inj eD
      rw [e, show H8 a = some _ from q8] at nD
      cases nD
    obtain ⟨N, rfl, hNn, hNM, hNU⟩ := prem_of hM UR_ok.1 hpm
    have hPN : PairsIn H9 N := fun q hq => (hP8.ka q8 k9) q (hNM q hq)
    have hpd := hPN.da q9
    have hNa : (N.map (·.2)).all nameP = true := List.all_eq_true.mpr fun p hp => List.all_eq_true.mp UR_ok.2.1 p (hNU p hp)
    have hNl : (N.map (·.2)).length = N.length := List.length_map _
    rw [List.length_map] at l1 l2
    have hpg : ∀ e ∈ (N.map (·.2)).map pairOf, Gd (10 ^ 30) 18 1 e := fun e he => by
      obtain ⟨p, hp, rfl⟩ := List.mem_map.mp he
      exact gd_pairP (List.all_eq_true.mp hNa p hp)
    have hpl : ((N.map (·.2)).map pairOf).length ≤ 8 := by rw [List.length_map, hNl]; exact l2
    refine ⟨show 2 ≤ sizeLine by decide, fun p10 n10 => ?_⟩
    obtain ⟨H10, g10, e10, hq10⟩ := newH n10 (o := _)
    rw [hq10]
    have ehd9 := k9 _ _ (hP8.ne q8 hd hhm) ehd
    refine catT_any (g10 _ _ ehd9) e10 (by simp) fun p11 H11 g11 e11 => ?_
    have q11 := Same.pot (g10.trans g11) q9
    have a11 : p11 ≠ a := fun e => by
      have q11' : H11 a = some _ := q11
      rw [e, q11'] at e11
      cases e11
    have hn := List.all_eq_true.mp UR_ok.2.1 hd.2 hd2
    have hn : (nameD (.str hd.2.1) && nameD (.str hd.2.2)) = true := hn
    rw [Bool.and_eq_true] at hn
    have dd : Da (hid a H11) (.ref p11) (.tuple [.str hd.2.1, .str hd.2.2, .int pr, .list ((N.map (·.2)).map pairOf)]) := .tup (hid_of e11 a11) (.cons (.str _) (.cons (.str _) (.cons (.int _) (.cons (.lst (hid_of (g11 _ _ (g10 _ _ eD)) aD) (hallS (g10.trans g11) hpd)) .nil))))
    exact q _ _ H11 x9 c9 dd (gd_lean (nm_short hn.1) (nm_short hn.2) hpr0 hpl hpg) (rule_ok hn.1 hn.2 hpr1 hNn hNa (by omega) (by omega)) (fun x y i ps e => by cases e; exact UR_lean _ hd2) q11 (by omega) (by omega) (((k04.trans k48).trans k9).trans (Ka.of (g10.trans g11)))
end
end K65
set_option Elab.async false
set_option linter.all false
namespace L2
open PySem PyProof.Rows
/-! a call of what stands in a list: [f, g, ..][k](x) -/
theorem arm_eval_Call_Sub (o ix : Expr) (p : Pos) (args : List Expr) (keywords : List Keyword) (pos : Pos) (env : Env) : eval (.Call (.Subscript o ix p) args keywords pos) env = (do
    callWith pos (← eval (.Subscript o ix p) env) [] (backTo pos (starEach args env)) (backToKw pos (keywordEach keywords env))) := rfl
section
variable {X : Cx} {CX : CXT} {n : Nat} {k : Nat → Nat} {f : Nat → Addr} {fd : Nat → FuncData} {ps : Nat → List Str} {sp : Nat → Sp} {E : St → XK} {p pos : Pos} {o ix e : Expr} {es : List Expr} {tf : TE} {t : TA}
def tCallIx (n : Nat) (f : Nat → Addr) (sp : Nat → Sp) (E : St → XK) (tf : TE) (t : TA) : TE := fun σ H Q => tf σ H fun v H1 => ∃ i, i < n ∧ v = .ref (f i) ∧ t σ H1 fun vs H2 => sp i vs H2 Q (E σ)
theorem pe_callIx (F : ∀ i, i < n → FnOk X.prog X.w X.K X.mg X.base CX (k i) (f i) (fd i) (ps i) (sp i)) (hr : ∀ i, i < n → Room (k i) X.A) (hk : ∀ i, i < n → PySem.W.keepIn X.K (.ref (f i)) = true) (hb : ∀ i, i < n → Binds X.K (fd i) (ps i) []) (hx : ∀ σ, PassesAt CX X σ (E σ))
    (hf : PE X (.Subscript o ix p) tf) (ha : PA X (e :: es) t) (he : starEach (e :: es) X.env = (false, eval e X.env) :: starEach es X.env := by rfl) (hpl : (backTo pos (starEach es X.env)).any (·.1) = false := by rfl) :
    PE X (.Call (.Subscript o ix p) (e :: es) [] pos) (tCallIx n f sp E tf t) := by
  refine ⟨fun pins s σ H Q I h => ?_⟩
  rw [arm_eval_Call_Sub]
  refine wpAny_bind (thn (hf.run pins s σ H _ I h) fun v s1 ⟨y, H1, I1, ry, i, hi, ey, q⟩ => ?_)
  subst ey
  obtain rfl : v = Value.ref (f i) := ry
  refine PySem.W.callWith_K (h₀ := X.base) I1.ok.mod.kin (hk i hi) (thn (ha.run pos pins s1 σ H1 _ I1 q) fun us s2 ⟨vs, H2, I2, r, q2⟩ => ⟨I2.kIn, ?_⟩) he hpl
  exact run_fnS (F i hi) (hr i hi) (hb i hi) (hx σ) I2 r q2
end
end L2
set_option Elab.async false
set_option linter.all false
set_option maxRecDepth 100000
set_option maxHeartbeats 4000000
/-! defs that are called where nothing is being shown (repr's guards are none): they may call repr -/
namespace Gu
open PySem PySem.Spec PyProof.Rows L2
structure FnG (P : Program) (w : World) (K : PySem.W.Frag) (mg : Str → Option Value) (base : Heap) (CX : CXT) (k : Nat) (f : Addr) (fd : FuncData) (ps : List Str) (sp : Sp) : Prop where
  len : ∀ vs H Q E, sp vs H Q E → vs.length = ps.length
  run : ∀ (A : Around) (outer : List Env) (s : Shared) (H : Hp) (args : Args) (us : List Value) (vs : List V) (Q : VK) (E : XK), A.guards = some [] → Room k A → Env0 P w K mg base A outer s H → BindsTo s fd args (ps.zip us) → Vals vs us → sp vs H Q E →
    codeAny (model P w) A (.call (.ref f) args) (CR CX outer P w H s Q E) s
theorem FnG.of {P : Program} {w : World} {K : PySem.W.Frag} {mg : Str → Option Value} {base : Heap} {CX : CXT} {k : Nat} {f : Addr} {fd : FuncData} {ps : List Str} {sp : Sp} (F : FnOk P w K mg base CX k f fd ps sp) : FnG P w K mg base CX k f fd ps sp :=
  ⟨F.len, fun A outer s H args us vs Q E _ => F.run A outer s H args us vs Q E⟩
section
variable {P : Program} {w : World} {K : PySem.W.Frag} {mg : Str → Option Value} {base : Heap}
theorem okG {x qual : Str} {st : Stmt} {f : Addr} {fd : FuncData} {N ps : List Str} {k : Nat} {sp : Sp} (F : Fun K x qual st f fd) (S : FnScope N ps (defScope st)) (len : ∀ vs H Q E, sp vs H Q E → vs.length = ps.length)
    (hbody : ∀ (cdv : Value) (A : Around) (outer : List Env) (s : Shared) (H : Hp) (vs : List V) (Q : VK) (E : XK), A.guards = some [] → Room k (A.deeper (envOfC qual (defScope st) s.heap.objs.size f cdv)) → sp vs H Q E →
      ∃ t, PSs (cxOf CX0 P w K mg base N qual (defScope st) f cdv A outer s H E).nox (defBody st) t ∧ t { nx := fun _ H' => Q .non H', rt := Q } (start N vs) H) : FnG P w K mg base CX0 (k + 1) f fd ps sp := by
  obtain ⟨oc, od, kV, doc, pm, an, cdv, ct, osl, rfl, lk, hcd⟩ := F.ex
  refine ⟨len, fun A outer s H args us vs Q E hga hr e0 hb r hsp => ?_⟩
  refine LamX.run_ofS lk hcd S hr e0 hb r (len _ _ _ _ hsp) fun hr2 => ?_
  obtain ⟨t, h, q⟩ := hbody cdv A outer s H vs Q E hga hr2 hsp
  exact ⟨t, h.nox, q⟩
end
section
variable {X : Cx} {CX : CXT} {k : Nat} {f : Addr} {fd : FuncData} {ps : List Str} {sp : Sp} {ds : List Value} {dvs : List V} {E : XK}
theorem run_fnG {pins : List (Addr × Obj)} {σ : L2.St} {H : Hp} {s : Shared} {Q : VK} {us : List Value} {vs : List V} (F : FnG X.prog X.w X.K X.mg X.base CX k f fd ps sp) (hga : X.A.guards = some []) (hr : Room k X.A) (hb : Binds X.K fd ps ds) (hd : Vals dvs ds) (hx : Passes CX X E)
    (I : Inv X pins σ H s) (r : Vals vs us) (h : sp (vs ++ dvs) H Q E) : wpAny (model X.prog X.w) X.A (call (.ref f) us) (EP X pins σ Q) X.xe s := by
  have r2 : Vals (vs ++ dvs) (us ++ ds) := r.append hd
  refine wpAny_call (codeAny_mono (F.run X.A X.stack s H ⟨us, []⟩ (us ++ ds) (vs ++ dvs) Q E hga hr I.env0 (hb s us I.kIn (by rw [← r2.length]; exact F.len _ _ _ _ h)) r2 h) fun r s' hq => ?_)
  cases r with
  | error e => exact hx pins σ H s e s' I hq
  | ok fl =>
    cases fl with
    | ret u => exact I.after hq
    | next => exact False.elim hq
    | brk => exact False.elim hq
    | cont => exact False.elim hq
variable {x : Str} {e : Expr} {es : List Expr} {p pos : Pos} {t : TA}
/-- f(e, ..) of such a def -/
theorem pe_callG (F : FnG X.prog X.w X.K X.mg X.base CX k f fd ps sp) (hga : X.A.guards = some []) (hr : Room k X.A) (hg : Gl X x) (hm : X.mg x = some (.ref f)) (hk : PySem.W.keepIn X.K (.ref f) = true) (hb : Binds X.K fd ps ds) (hd : Vals dvs ds) (hx : Passes CX X E)
    (ha : PA X (e :: es) t) (hdb : (x == ("__debug__" : Str)) = false := by decide) (he : starEach (e :: es) X.env = (false, eval e X.env) :: starEach es X.env := by rfl) (hpl : (backTo pos (starEach es X.env)).any (·.1) = false := by rfl) :
    PE X (.Call (.Name x p) (e :: es) [] pos) (tCall sp dvs E t) := by
  refine ⟨fun pins s σ H Q I h => ?_⟩
  refine wpAny_Call_Name_kw (ld_glob I hg hm ?_ hdb)
  refine PySem.W.callWith_K (h₀ := X.base) I.ok.mod.kin hk (thn (ha.run pos pins s σ H _ I h) fun us s1 ⟨vs, H1, I1, r, q⟩ => ⟨I1.kIn, ?_⟩) he hpl
  exact run_fnG F hga hr hb hd hx I1 r q
end
end Gu
set_option Elab.async false
set_option linter.all false
set_option maxRecDepth 100000
set_option maxHeartbeats 4000000
namespace K65
open PySem L2 Ld GxR Gx Gu
/-! read back -/
abbrev s__law_same : Stmt := topS 55
abbrev N__law_same : List Str := ["found", "due"]
theorem sc__law_same : FnScope N__law_same ["found", "due"] (defScope s__law_same) := ⟨rfl, rfl, rfl, by decide +kernel, rfl, by decide +kernel, by decide +kernel⟩
abbrev s__law_back_right : Stmt := topS 57
abbrev N__law_back_right : List Str := ["text", "thing", "way", "turn", "found"]
theorem sc__law_back_right : FnScope N__law_back_right ["text", "thing", "way"] (defScope s__law_back_right) := ⟨rfl, rfl, rfl, by decide +kernel, rfl, by decide +kernel, by decide +kernel⟩
def spSame : Sp := fun vs H Q _ => ∃ (v1 v2 : V) (d : PyData), vs = [v1, v2] ∧ Da H v1 d ∧ Da H v2 d ∧ Sm d = true ∧ Q (.bl true) H
def notLean (d : PyData) : Prop := ∀ x y : Str, d = .tuple [.str x, .str y] → x ≠ "lean"
def spBack : Sp := fun vs H Q _ => ∃ (i : Nat) (v : V) (d : PyData), vs = [.str (txtOf i d), v, .int (i : Int)] ∧ i < 4 ∧ Da H v d ∧ okOf i d = true ∧ Sm d = true ∧ (txtOf i d).length ≤ 2000 ∧ notLean d ∧ ∀ H', Same H H' → Q (.bl true) H'
def pick4 {α : Type} (a b c d : α) : Nat → α
  | 0 => a
  | 1 => b
  | 2 => c
  | _ => d
theorem four_ref (f : Nat → Addr) {i : Nat} (hi : i < 4) : [V.ref (f 0), .ref (f 1), .ref (f 2), .ref (f 3)][i]? = some (.ref (f i)) := by
  obtain rfl | rfl | rfl | rfl : i = 0 ∨ i = 1 ∨ i = 2 ∨ i = 3 := by omega
  all_goals rfl
/-- a thing's first part; who leans has four, the last a list -/
theorem first_at {H : Hp} {v : V} {d : PyData} {i : Nat} (hi : i < 4) (hd : Da H v d) (h : okOf i d = true) (hn : notLean d) : ∃ (r : Addr) (xs : List V) (t : Str), v = .ref r ∧ H r = some (.tup xs) ∧ xs[0]? = some (.str t) ∧
    (i = 1 ∨ t = "lean" → ∃ (x y : Str) (j : Int) (ps : List PyData), d = .tuple [.str x, .str y, .int j, .list ps]) ∧ (t = "lean" → i = 1 ∨ ∃ (y : Str) (j : Int) (ps : List PyData), d = .tuple [.str "lean", .str y, .int j, .list ps]) := by
  obtain rfl | rfl | rfl | rfl : i = 0 ∨ i = 1 ∨ i = 2 ∨ i = 3 := by omega
  · obtain ⟨x, y, rfl, _⟩ := place_of_true h
    have := hn x y rfl
    cases hd with
    | tup e hall =>
    cases hall with
    | cons d0 hall =>
    cases d0
    exact ⟨_, _, x, rfl, e, rfl, fun z => by rcases z with z | z; exact absurd z (by decide); exact absurd z this, fun z => absurd z this⟩
  · cases ruleX h with
    | mk x y i ps =>
    cases hd with
    | tup e hall =>
    cases hall with
    | cons d0 hall =>
    cases d0
    exact ⟨_, _, x, rfl, e, rfl, fun _ => ⟨_, _, _, _, rfl⟩, fun _ => .inl rfl⟩
  · cases letX h with
    | two t n ht hn =>
      have : t ≠ "lean" := by rcases ht with rfl | rfl <;> decide
      cases hd with
      | tup e hall =>
      cases hall with
      | cons d0 hall =>
      cases d0
      exact ⟨_, _, t, rfl, e, rfl, fun z => by rcases z with z | z; exact absurd z (by decide); exact absurd z this, fun z => absurd z this⟩
    | hold n i hn hi =>
      cases hd with
      | tup e hall =>
      cases hall with
      | cons d0 hall =>
      cases d0
      exact ⟨_, _, "holds", rfl, e, rfl, fun z => by rcases z with z | z; exact absurd z (by decide); exact absurd z (by decide), fun z => absurd z (by decide)⟩
  · cases whatX h with
    | four t n ht hn =>
      have : t ≠ "lean" := by
        simp only [fourW, List.mem_cons, List.not_mem_nil, or_false] at ht
        rcases ht with rfl | rfl | rfl | rfl <;> decide
      cases hd with
      | tup e hall =>
      cases hall with
      | cons d0 hall =>
      cases d0
      exact ⟨_, _, t, rfl, e, rfl, fun z => by rcases z with z | z; exact absurd z (by decide); exact absurd z this, fun z => absurd z this⟩
    | drop i hi =>
      cases hd with
      | tup e hall =>
      cases hall with
      | cons d0 hall =>
      cases d0
      exact ⟨_, _, "drop", rfl, e, rfl, fun z => by rcases z with z | z; exact absurd z (by decide); exact absurd z (by decide), fun z => absurd z (by decide)⟩
    | hear n l hn hl =>
      cases hd with
      | tup e hall =>
      cases hall with
      | cons d0 hall =>
      cases d0
      exact ⟨_, _, "hear", rfl, e, rfl, fun z => by rcases z with z | z; exact absurd z (by decide); exact absurd z (by decide), fun z => absurd z (by decide)⟩
    | lean n i ps =>
      cases hd with
      | tup e hall =>
      cases hall with
      | cons d0 hall =>
      cases d0
      exact ⟨_, _, "lean", rfl, e, rfl, fun _ => ⟨_, _, _, _, rfl⟩, fun _ => .inr ⟨_, _, _, rfl⟩⟩
section
variable {P : Program} {w : World} {K : PySem.W.Frag} {mg : Str → Option Value} {base : Heap}
theorem ok__law_same {f : Addr} {fd : FuncData} (F : Fun K "_law_same" "_law_same" s__law_same f fd) (z_repr : mg "repr" = none) : FnG P w K mg base CX0 1 f fd ["found", "due"] spSame := by
  refine okG F sc__law_same (fun vs H Q E h => ?_) (fun cdv A outer s H vs Q E hgA hr h => ?_)
  · obtain ⟨v1, v2, d, rfl, _⟩ := h
    rfl
  · obtain ⟨v1, v2, d, rfl, h1, h2, sm, q⟩ := h
    have hu64 : (A.deeper (PyProof.Rows.envOfC "_law_same" (defScope s__law_same) s.heap.objs.size f cdv)).units + 64 < cLine := hr.units
    have hgd : (A.deeper (PyProof.Rows.envOfC "_law_same" (defScope s__law_same) s.heap.objs.size f cdv)).guards = some [] := hgA
    refine ⟨_, (pss_one (ps_ret (pe_cmpR op_eq (pe_callB (call_repr hu64 hgd) (by rfl) z_repr (by decide +kernel) (pa_cons (pv 0) pa_nil)) (pe_callB (call_repr hu64 hgd) (by rfl) z_repr (by decide +kernel) (pa_cons (pv 1) pa_nil)) (nomark _)))), ?_⟩
    refine ⟨_, rfl, v1, d, rfl, h1, sm, _, rfl, v2, d, rfl, h2, sm, rfl, ?_⟩
    simpa using q
theorem ok__law_back_right {f fS : Addr} {fd fdS : FuncData} {fR : Nat → Addr} {fdR : Nat → FuncData} {nR : Nat → Nat} (F : Fun K "_law_back_right" "_law_back_right" s__law_back_right f fd)
    (hnR : ∀ i, i < 4 → nR i ≤ 10) (GR : ∀ i, i < 4 → FnOk P w K mg base CX0 (nR i) (fR i) (fdR i) ["text"] (spReads (dueOf i))) (kR : ∀ i, i < 4 → PySem.W.keepIn K (.ref (fR i)) = true) (bR : ∀ i, i < 4 → Binds K (fdR i) ["text"] [])
    (g_read_place : mg "read_place" = some (.ref (fR 0))) (g_read_rule : mg "read_rule" = some (.ref (fR 1))) (g_read_letter : mg "read_letter" = some (.ref (fR 2))) (g_read_what : mg "read_what" = some (.ref (fR 3)))
    (G__law_same : FnG P w K mg base CX0 1 fS fdS ["found", "due"] spSame) (g__law_same : mg "_law_same" = some (.ref fS)) (k__law_same : PySem.W.keepIn K (.ref fS) = true) (b__law_same : Binds K fdS ["found", "due"] []) (z_range : mg "range" = none) :
    FnG P w K mg base CX0 11 f fd ["text", "thing", "way"] spBack := by
  refine okG F sc__law_back_right (fun vs H Q E h => ?_) (fun cdv A outer s H vs Q E hgA hr h => ?_)
  · obtain ⟨i, v, d, rfl, _⟩ := h
    rfl
  · have hgd : (A.deeper (PyProof.Rows.envOfC "_law_back_right" (defScope s__law_back_right) s.heap.objs.size f cdv)).guards = some [] := hgA
    refine ⟨_, (pss_cons (ps_for PassesOwn.never rfl (pi_range1 (by rfl) z_range (pa_cons pe_int pa_nil)) (pg_name (i := 3) sc__law_back_right.nd rfl (Or.inl rfl))
  (pss_cons (ps_set (i := 4) sc__law_back_right.nd rfl (Or.inl rfl) (pe_callIx (n := 4) (k := nR) (f := fR) (fd := fdR) (ps := fun _ => ["text"]) (sp := fun i => spReads (dueOf i)) (E := fun _ => fun _ _ _ => False) GR (fun i hi => hr.mono (hnR i hi)) kR bR (fun _ _ _ _ _ _ _ h => h.elim) (pe_ix ix_list (pe_lst (pa_cons (pe_glob (v := .ref (fR 0)) (by rfl) g_read_place rfl) (pa_cons (pe_glob (v := .ref (fR 1)) (by rfl) g_read_rule rfl) (pa_cons (pe_glob (v := .ref (fR 2)) (by rfl) g_read_letter rfl) (pa_cons (pe_glob (v := .ref (fR 3)) (by rfl) g_read_what rfl) pa_nil))))) (pv 2) (fun _ _ => rfl)) (pa_cons (pv 0) pa_nil)))
  (pss_cons (ps_if (pt_not (pt_val (pe_callG G__law_same hgd (hr.mono (by decide)) (by rfl) g__law_same k__law_same b__law_same .nil pass0 (pa_cons (pv 4) (pa_cons (pv 1) pa_nil))))) pss_never pss_nil)
  (pss_one (ps_if (PW.pt (pw_or (pt_cmpR op_eq (pv 2) pe_int (nomark _)) (pw_or1 (pt_cmpR op_eq (pe_ix ix_tup (pv 1) pe_int (fun _ _ => rfl)) pe_str (nomark _))))) (pss_one (ps_expr (pe_bm0 PySem.F.plainAttrs_list PySem.F.slot_list_clear PySem.F.type_list_clear mt_clear (pe_ix ix_tup (pv 4) pe_int (fun _ _ => rfl))))) pss_nil)))))
  (pss_one (ps_ret pe_bl))), ?_⟩
    obtain ⟨i, v, d, rfl, hi, hd, hok, sm, hl, hn, q⟩ := h
    have hbk := back hi hok
    have hne : dueOf i (txtOf i d) ≠ .none := by
      rw [hbk]
      intro z
      rw [z] at hok
      obtain rfl | rfl | rfl | rfl : i = 0 ∨ i = 1 ∨ i = 2 ∨ i = 3 := by omega
      all_goals exact absurd hok (by decide)
    obtain ⟨r, xs, t0, rfl, er, h0, hfour, hlean⟩ := first_at hi hd hok hn
    refine ⟨2, rfl, by decide, by decide, ?_⟩
    refine for_range (lo := 0) (n := 2) (fun j σ H' => ∃ (s3 s4 : Option V), σ = [some (.str (txtOf i d)), some (.ref r), some (.int (i : Int)), s3, s4] ∧ Same H H') ⟨none, none, rfl, Same.refl H⟩ ?_ ?_
    · rintro j σ H1 hj ⟨s3, s4, rfl, g⟩
      refine ⟨small20 (Nat.le_of_ble_eq_true rfl), fun p1 n1 => ?_⟩
      obtain ⟨H2, g2, e2, hq2⟩ := newH n1 (o := _)
      rw [hq2]
      refine ⟨_, rfl, p1, [V.ref (fR 0), .ref (fR 1), .ref (fR 2), .ref (fR 3)], (i : Int), .ref (fR i), rfl, rfl, .inl (.inl e2), atI_nat (four_ref fR hi), i, hi, rfl, ?_⟩
      refine ⟨_, rfl, txtOf i d, rfl, hl, hne, fun v' H3 g3 d3 fr3 => ?_⟩
      rw [hbk] at d3
      have g03 : Same H H3 := g.trans (g2.trans g3)
      refine ⟨_, rfl, _, rfl, v', .ref r, d, rfl, d3, Same.da g03 hd, sm, ⟨_, rfl, ?_⟩⟩
      refine itN (by decide) ?_
      have done : ∀ v', ∃ (s3 s4 : Option V), [some (V.str (txtOf i d)), some (V.ref r), some (V.int (i : Int)), some (V.int (0 + (j : Int))), some v'] = [some (V.str (txtOf i d)), some (V.ref r), some (V.int (i : Int)), s3, s4] ∧ Same H H3 := fun v' => ⟨_, _, rfl, g03⟩
      have clear : (∃ (x y : Str) (j : Int) (ps : List PyData), d = .tuple [.str x, .str y, .int j, .list ps]) → ∃ (r' q' : Addr) (xs' ys' : List V), v' = .ref r' ∧ H3 r' = some (.tup xs') ∧ atI xs' 3 = some (.ref q') ∧ H3 q' = some (.lst ys') ∧ H q' = none := by
        rintro ⟨x, y, j, ps, rfl⟩
        cases d3 with
        | @tup r' xs' _ er' hall =>
        cases hall with
        | cons d0 hall =>
        cases hall with
        | cons d1 hall =>
        cases hall with
        | cons d2 hall =>
        cases hall with
        | cons d4 hall =>
        cases hall
        cases d4 with
        | @lst q' ys' _ eq' _ =>
          exact ⟨r', q', _, ys', rfl, er', rfl, eq', Same.free (g.trans g2) (fr3 _ _ q' rfl er' rfl)⟩
      refine' by_one (Cont := _) (Pre := ∃ (r' q' : Addr) (xs' ys' : List V), v' = .ref r' ∧ H3 r' = some (.tup xs') ∧ atI xs' 3 = some (.ref q') ∧ H3 q' = some (.lst ys') ∧ H q' = none) (fun go => ?_) ?_
      rotate_left
      · refine ⟨_, rfl, rfl, _, rfl, ?_⟩
        by_cases h1 : i = 1
        · refine itY (by simp [h1]) ?_
          exact go (clear (hfour (.inl h1)))
        · refine itN (by simp; omega) ?_
          refine ⟨_, rfl, r, xs, 0, .str t0, rfl, rfl, .inl (.inl (g03 _ _ er)), atI_nat (j := 0) h0, rfl, _, rfl, ?_⟩
          by_cases ht : t0 = "lean"
          · refine itY (by simpa using ht) ?_
            exact go (clear (hfour (.inr ht)))
          · refine itN (by simpa using ht) ?_
            exact done v'
      · rintro ⟨r', q', xs', ys', rfl, er', h3, eq', nq⟩
        refine ⟨_, rfl, r', xs', 3, .ref q', rfl, rfl, .inl (.inl er'), h3, .inl ⟨rfl, _, .inl (.inl eq')⟩, q', ys', rfl, rfl, eq', ?_⟩
        refine ⟨_, _, rfl, fun b o e => ?_⟩
        rw [upd_ne (ne_of_none e nq)]
        exact g03 _ _ e
    · rintro σ H1 ⟨s3, s4, rfl, g⟩
      exact q H1 g
end
end K65
set_option Elab.async false
set_option linter.all false
set_option maxRecDepth 100000
/-! int(text) of up to 4300 figures, where the limit is not touched -/
namespace Ld
open PySem PySem.Calls PySem.NumText PyProof.Rows
theorem wp_digits {M : Model} {A : Around} {E : Value → Shared → Prop} {s : Shared} {Q : Nat → Shared → Prop} (hn : s.heap.NoDigits) (h : Q 4300 s) : wpAny M A Builtin.intMaxStrDigits Q E s := by
  obtain ⟨mc, hns, hnone⟩ := hn
  unfold Builtin.intMaxStrDigits
  refine wpAny_bind (wpAny_nsGet hns ?_)
  rw [hnone]
  exact wpAny_pure h
theorem wp_textN {M : Model} {A : Around} {E : Value → Shared → Prop} {s : Shared} {Q : Value → Shared → Prop} {v : Value} {text : List Nat} {n : Int} (hnd : s.heap.NoDigits)
    (hs : ¬ (text.takeWhile (· != 0)).length ≤ 640) (hr : (int_private% "readNumeral") 4300 10 (text.takeWhile (· != 0)) = (int_private% "Numeral.value") n)
    (ha : ((text.takeWhile (· != 0)).length == text.length) = true) (h : Q (.int n s.toks) { s with toks := s.toks + 1 }) :
    wpAny M A ((int_private% "intFromText") v text 10) Q E s := by
  obtain ⟨hp, g, d, tk, os⟩ := s
  repeat (any_goals (first
    | assumption
    | (with_reducible refine wpAny_ite_false (decide_eq_false hs) ?_)
    | (with_reducible refine wpAny_ite_true (decide_eq_true ha) ?_)
    | ((with_reducible show wpAny _ _ Builtin.intMaxStrDigits _ _ _); refine wp_digits hnd ?_)
    | wp_step))
  all_goals (try rw [hr])
  all_goals (try dsimp only)
  repeat (any_goals (first
    | assumption
    | (with_reducible refine wpAny_ite_true (decide_eq_true ha) ?_)
    | wp_step))
theorem meets_textN {x : PySem.Str} {u : Tok} {n : Int} (hl : ¬ (numSeenOf x).length ≤ 640) (hx : x.length ≤ sizeLine) (hn : PySem.intText? x = some n) :
    Meets (Builtin.«int.__new__» ⟨[.type "int", .str x u], []⟩) (fun A R s => s.heap.NoDigits ∧ R (.ok (.ret (.int n s.toks))) { s with toks := s.toks + 1 }) :=
  .of_wp fun prog w A R s h => by
    obtain ⟨hp, g, d, tk, os⟩ := s
    obtain ⟨hnd, h⟩ := h
    have f1 := F.conv_sub_int
    have f2 := F.madeHere_int
    have f3 := PySem.W.KIN.str_int
    have f4 := PySem.W.KIN.str_idx
    have f5 := PySem.W.KIN.str_trunc
    have f6 : typeOf (.str x u) = pure (.type "str") := rfl
    have hr : (int_private% "readNumeral") 4300 10 (numSeenOf x) = (int_private% "Numeral.value") n ∧ ((numSeenOf x).length == (numTextOf x).length) = true := by
      rcases read4300 x hx with ⟨m, h1, h2, h3⟩ | ⟨h1, _⟩
      · rw [hn] at h1
        injection h1 with h1
        subst h1
        exact ⟨h3, h2⟩
      · rw [hn] at h1
        cases h1
    have hk := PySem.W.KIN.Hid.mk (And.intro hl hr)
    clear hl hr hn hx
    repeat (any_goals (first
      | assumption
      | ((with_reducible show wpAny _ _ ((int_private% "intFromText") _ _ _) _ _ _); refine wp_textN hnd hk.out.1 hk.out.2.1 hk.out.2.2 ?_)
      | wp_step))
    all_goals first | exact ⟨_, rfl, h⟩ | skip
end Ld
namespace Ld
open PySem PySem.NumText PyProof.Rows L2
/-- int of a text of figures, at most 4300 of them -/
theorem call_int_strN {X : Cx} (hND : X.base.NoDigits) : CallR X (.type "int") (fun xs H Q => ∃ a n, xs = [.str a] ∧ AllDigits a.cps.toList ∧ PySem.intText? a = some n ∧ a.length ≤ 4300 ∧ Q (.int n) H) := by
  intro pins s σ H xs us Q I rs h
  obtain ⟨a, n, rfl, hd, hn, hl, h⟩ := h
  cases rs with
  | cons r1 rs =>
    cases rs
    obtain ⟨t, rfl⟩ := r1
    by_cases h6 : a.length ≤ 640
    · exact PySem.W.KIN.call_text hn h6 ⟨.int n, H, I.tok _, ⟨_, rfl⟩, h⟩
    · have e := (numText_signs (x := a) fun c hc => .inr (hd c hc)).2
      have e2 : (numSeenOf a).length = a.length := by
        rw [e]
        exact Array.length_toList
      refine call_int_1 (meets_textN (n := n) (by rw [e2]; exact h6) (Nat.le_trans hl (by decide)) hn) ⟨hND.keeps I.bk, ?_⟩
      exact ⟨rfl, .int n, H, I.tok _, ⟨_, rfl⟩, h⟩
end Ld
set_option Elab.async false
set_option linter.all false
set_option maxRecDepth 100000
set_option maxHeartbeats 4000000
namespace K65
open PySem L2 Ld GxR Gx
/-! long numbers written and read -/
def sevens (k : Nat) : Str := ⟨(List.replicate k ("7" : Str).cps).foldl (· ++ ·) #[]⟩
theorem fold_rep (a : Array Nat) : ∀ (k : Nat) (acc : Array Nat), ((List.replicate k a).foldl (· ++ ·) acc).toList = acc.toList ++ (List.replicate k a.toList).flatten
  | 0, acc => by simp
  | k + 1, acc => by
    rw [List.replicate_succ, List.foldl_cons, fold_rep a k, Array.toList_append, List.replicate_succ, List.flatten_cons, List.append_assoc]
theorem sevens_tl (k : Nat) : (sevens k).cps.toList = List.replicate k 55 := by
  show ((List.replicate k ("7" : Str).cps).foldl (· ++ ·) #[]).toList = _
  rw [fold_rep, show ("7" : Str).cps.toList = [55] by decide]
  induction k with
  | zero => rfl
  | succ k ih => 
    rw [List.replicate_succ, List.flatten_cons, List.replicate_succ]
    simp only [List.nil_append] at ih ⊢
    rw [ih]
    rfl
def rSevens : R2 := fun x y H Q => ∃ k : Nat, x = .str "7" ∧ y = .int (k : Int) ∧ 2 ≤ k ∧ k ≤ 2000 ∧ Q (.str (sevens k)) H
theorem op_sevens {X : Cx} : OpR X (binaryOp .Mult) rSevens := by
  intro pins s σ H x y v u Q I rx ry h
  obtain ⟨k, rfl, rfl, h2, h3, q⟩ := h
  obtain ⟨t, rfl⟩ := rx
  obtain ⟨t', rfl⟩ := ry
  have hl : ("7" : Str).length = 1 := by decide +kernel
  have hz : 20000 ≤ sizeLine := by decide
  refine PySem.P.mul_str ?_ (fun _ _ => ?_) (fun _ _ => ?_) ?_
  · rw [decide_eq_false (by omega), decide_eq_false (by omega)]
    rfl
  · rw [hl]
    have : (1 : Int) ≤ (2 ^ 63 - 1) / (k : Int) := by
      refine Int.le_ediv_of_mul_le (by omega) ?_
      omega
    have e : ((1 : Nat) : Int) = 1 := rfl
    rw [e]
    omega
  · rw [hl]
    show decide (1 * ((k : Int)).toNat > sizeLine) = false
    refine decide_eq_false ?_
    rw [Int.toNat_natCast]
    omega
  · rw [if_neg (by omega)]
    rw [if_neg (by
      rw [Bool.or_eq_true]
      rintro (z | z)
      · have := of_decide_eq_true (p := (k : Int) = 1) z
        omega
      · rw [hl] at z
        cases z)]
    rw [Int.toNat_natCast]
    refine ⟨?_, .str (sevens k), H, I.tok _, ⟨_, rfl⟩, q⟩
    show (sevens k).length ≤ sizeLine
    rw [len_cps, sevens_tl, List.length_replicate]
    omega
/-- figures of a number that is not nought -/
def Lg (L : Nat) (f : Str) : Prop := NumText.AllDigits f.cps.toList ∧ (∃ c r, f.cps.toList = c :: r ∧ 49 ≤ c) ∧ f.length ≤ L
theorem Lg.app {L m : Nat} {f g : Str} (h : Lg L f) (hg : NumText.AllDigits g.cps.toList) (hl : g.length ≤ m) : Lg (L + m) (f ++ g) := by
  obtain ⟨h1, ⟨c, r, h2, h3⟩, h4⟩ := h
  have e : (f ++ g).cps.toList = f.cps.toList ++ g.cps.toList := by rw [Str.cps_append, Array.toList_append]
  refine ⟨fun c hc => ?_, ⟨c, r ++ g.cps.toList, ?_, h3⟩, ?_⟩
  · rw [e] at hc
    exact (List.mem_append.mp hc).elim (h1 c) (hg c)
  · rw [e, h2]
    rfl
  · rw [Str.length_append]
    omega
theorem Lg.num {L : Nat} {f : Str} (h : Lg L f) : ∃ m : Nat, f = strI m ∧ numV f = (m : Int) ∧ 1 ≤ m ∧ m < 10 ^ L := by
  obtain ⟨h1, ⟨c, r, h2, h3⟩, h4⟩ := h
  have hn : isNum f = true := by
    unfold isNum isFig
    rw [Bool.and_eq_true, Bool.and_eq_true]
    refine ⟨⟨?_, List.all_eq_true.mpr fun c hc => ?_⟩, ?_⟩
    · rw [len_cps, h2]
      simp
    · have := h1 c hc
      unfold figB
      rw [Bool.and_eq_true]
      exact ⟨decide_eq_true this.1, decide_eq_true this.2⟩
    · have : lead0 f = false := by
        unfold lead0
        rw [h2, List.head?_cons]
        exact decide_eq_false fun z => by cases z; omega
      rw [this]
      simp
  refine ⟨NumText.digitsVal f.cps.toList, (num_strI hn).symm, rfl, ?_, ?_⟩
  · rw [h2]
    exact NumText.digitsVal_pos h3
  · refine Nat.lt_of_lt_of_le (val_lt _ h1) (Nat.pow_le_pow_right (by decide) ?_)
    rw [← len_cps]
    exact h4
abbrev dL (m : Nat) : PyData := .tuple [.str "holds", .str "wet", .int (m : Int)]
abbrev dW (m : Nat) : PyData := .tuple [.str "hear", .str "bo", .tuple [.str "holds", .str "a", .int (m : Int)]]
abbrev dR (m : Nat) : PyData := .tuple [.str "an", .str "a", .int (m : Int), .list [.tuple [.str "bo", .str "b"]]]
theorem okL (m : Nat) : letterD (dL m) = true := by
  show (nameD (.str "wet") && (decide (("holds" : Str) = "holds") && decide (0 ≤ (m : Int)))) = true
  rw [decide_eq_true (show 0 ≤ (m : Int) by omega)]
  rfl
theorem okW (m : Nat) : whatD (dW m) = true := whS_hear (by decide) (by
  show (nameD (.str "a") && (decide (("holds" : Str) = "holds") && decide (0 ≤ (m : Int)))) = true
  rw [decide_eq_true (show 0 ≤ (m : Int) by omega)]
  rfl)
theorem okR {m : Nat} (h : 1 ≤ m) : ruleD (dR m) = true := rule_ok (ps := [("bo", "b")]) (by decide) (by decide) (by omega) (by decide) (by decide) (by decide) (by decide)
theorem txtL (m : Nat) : ("holds wet " : Str) ++ strI m = txtOf 2 (dL m) := by
  show _ = Txt.join blank [("holds" : Str), "wet", strI m]
  rw [tjn, PyProof.Rows.join_cons_cons, PyProof.Rows.join_cons_cons, PyProof.Rows.join_one, show ("holds wet " : Str) = "holds" ++ blank ++ ("wet" ++ blank) by decide +kernel]
  simp only [Str.append_assoc]
theorem txtW (m : Nat) : ("hear bo holds a " : Str) ++ strI m = txtOf 3 (dW m) := by
  show _ = Txt.join blank [("hear" : Str), "bo", "holds", "a", strI m]
  rw [tjn, PyProof.Rows.join_cons_cons, PyProof.Rows.join_cons_cons, PyProof.Rows.join_cons_cons, PyProof.Rows.join_cons_cons, PyProof.Rows.join_one, show ("hear bo holds a " : Str) = "hear" ++ blank ++ ("bo" ++ blank ++ ("holds" ++ blank ++ ("a" ++ blank))) by decide +kernel]
  simp only [Str.append_assoc]
theorem txtR (m : Nat) : ("an.a = " : Str) ++ strI m ++ " bo.b" = txtOf 1 (dR m) := by
  show _ = Txt.join blank [placeT "an" "a", "=", strI m, placeT "bo" "b"]
  rw [tjn, PyProof.Rows.join_cons_cons, PyProof.Rows.join_cons_cons, PyProof.Rows.join_cons_cons, PyProof.Rows.join_one, show ("an.a = " : Str) = placeT "an" "a" ++ blank ++ ("=" ++ blank) by decide +kernel, show (" bo.b" : Str) = blank ++ placeT "bo" "b" by decide +kernel]
  simp only [Str.append_assoc]
theorem w_big {m : Nat} (h : m < 10 ^ 1900) : (PyData.int (m : Int)).weight ≤ 6400 := by
  show (if ((m : Int)) == 0 then 0 else ((m : Int)).natAbs.log2 + 1) ≤ 6400
  have h1 : ((m : Int)).natAbs.log2 < 6399 := by
    rw [Int.natAbs_natCast]
    exact PySem.Flt.log2_lt_of (k := 6399) (by decide) (Nat.lt_trans h (by decide +kernel))
  split <;> omega
theorem lf_big {m : Nat} (h : m < 10 ^ 1900) : lf huge (.int (m : Int)) = true := by
  refine decide_eq_true ?_
  rw [Int.natAbs_natCast]
  exact Nat.le_of_lt (Nat.lt_trans h (by decide +kernel))
theorem factL {m : Nat} (h : m < 10 ^ 1900) : (dL m).weight + 10 ≤ 20000 ∧ lf huge (dL m) = true := by
  have hw := w_big h
  refine ⟨?_, ?_⟩
  · have e : (dL m).weight = ("holds" : Str).cps.size + 1 + (("wet" : Str).cps.size + 1 + ((PyData.int (m : Int)).weight + 1 + 0)) := rfl
    have e1 : ("holds" : Str).cps.size = 5 := by decide +kernel
    have e2 : ("wet" : Str).cps.size = 3 := by decide +kernel
    omega
  · show (lf huge (.str "holds") && (lf huge (.str "wet") && (lf huge (.int (m : Int)) && true))) = true
    rw [lf_big h]
    rfl
theorem factW {m : Nat} (h : m < 10 ^ 1900) : (dW m).weight + 10 ≤ 20000 ∧ lf huge (dW m) = true := by
  have hw := w_big h
  refine ⟨?_, ?_⟩
  · have e : (dW m).weight = ("hear" : Str).cps.size + 1 + (("bo" : Str).cps.size + 1 + ((("holds" : Str).cps.size + 1 + (("a" : Str).cps.size + 1 + ((PyData.int (m : Int)).weight + 1 + 0))) + 1 + 0)) := rfl
    have e1 : ("hear" : Str).cps.size = 4 := by decide +kernel
    have e2 : ("bo" : Str).cps.size = 2 := by decide +kernel
    have e3 : ("holds" : Str).cps.size = 5 := by decide +kernel
    have e4 : ("a" : Str).cps.size = 1 := by decide +kernel
    omega
  · show (lf huge (.str "hear") && (lf huge (.str "bo") && ((lf huge (.str "holds") && (lf huge (.str "a") && (lf huge (.int (m : Int)) && true))) && true))) = true
    rw [lf_big h]
    rfl
theorem factR {m : Nat} (h : m < 10 ^ 1900) : (dR m).weight + 10 ≤ 20000 ∧ lf huge (dR m) = true := by
  have hw := w_big h
  refine ⟨?_, ?_⟩
  · have e : (dR m).weight = ("an" : Str).cps.size + 1 + (("a" : Str).cps.size + 1 + ((PyData.int (m : Int)).weight + 1 + ((("bo" : Str).cps.size + 1 + (("b" : Str).cps.size + 1 + 0)) + 1 + 0 + 1 + 0))) := rfl
    have e1 : ("an" : Str).cps.size = 2 := by decide +kernel
    have e2 : ("a" : Str).cps.size = 1 := by decide +kernel
    have e3 : ("bo" : Str).cps.size = 2 := by decide +kernel
    have e4 : ("b" : Str).cps.size = 1 := by decide +kernel
    omega
  · show (lf huge (.str "an") && (lf huge (.str "a") && (lf huge (.int (m : Int)) && (lf huge (.list [.tuple [.str "bo", .str "b"]]) && true)))) = true
    rw [lf_big h]
    rfl
theorem dpW {K : PySem.W.Frag} {H : Hp} {v : V} {m : Nat} (h : Da H v (dW m)) : Dp K H v (dW m) := by
  cases h with
  | tup e hall =>
  cases hall with
  | cons d0 hall =>
  cases d0
  cases hall with
  | cons d0 hall =>
  cases d0
  cases hall with
  | cons d0 hall =>
  cases hall
  cases d0 with
  | tup e2 hall =>
  cases hall with
  | cons d0 hall =>
  cases d0
  cases hall with
  | cons d0 hall =>
  cases d0
  cases hall with
  | cons d0 hall =>
  cases d0
  cases hall
  exact .tup (.inl (.inl e)) (.cons (.str _) (.cons (.str _) (.cons (.tup (.inl (.inl e2)) (.cons (.str _) (.cons (.str _) (.cons (.int _) .nil)))) .nil)))
theorem shW (m : Nat) : SeqAt.shaped (dW m) = true := by kernel_rfl
theorem eqW (m : Nat) : PyData.eqv (dW m) (dW m) = true := PySem.SeqAt.eqv_refl _ (by kernel_rfl)
end K65
set_option Elab.async false
set_option linter.all false
set_option maxRecDepth 100000
set_option maxHeartbeats 4000000
namespace K65
open PySem L2 Ld GxR Gx
abbrev s__law_long_right : Stmt := topS 58
abbrev N__law_long_right : List Str := ["pot", "figures", "k", "number", "text"]
theorem sc__law_long_right : FnScope N__law_long_right ["pot"] (defScope s__law_long_right) := ⟨rfl, rfl, rfl, by decide +kernel, rfl, by decide +kernel, by decide +kernel⟩
def spLong : Sp := fun vs H Q _ => ∃ (a : Addr) (x b c : Int), vs = [.ref a] ∧ Pot H a x b c ∧ (0 ≤ b ∧ b < 2 ^ 200) ∧ (0 ≤ c ∧ c < 2 ^ 56) ∧ ∀ (H' : Hp) (x' c' : Int), Pot H' a x' b c' → c ≤ c' → c' ≤ c + 60 → Ka a H H' → Q (.bl true) H'
theorem by_bothU {G : Prop} {Cont Pre : V → Hp → Prop} (use : (∀ v H, Pre v H → Cont v H) → G) (rest : ∀ v H, Pre v H → Cont v H) : G := use rest
theorem nines_ok : ("123456789" : Str).cps.toList = [49, 50, 51, 52, 53, 54, 55, 56, 57] := by decide +kernel
section
variable {P : Program} {w : World} {K : PySem.W.Frag} {mg : Str → Option Value} {base : Heap}
theorem ok__law_long_right {f f__law_dip f_read_rule f_read_letter f_read_what f_show_rule f_show_letter f_show_what : Addr} {fd fd__law_dip fd_read_rule fd_read_letter fd_read_what fd_show_rule fd_show_letter fd_show_what : FuncData} (F : Fun K "_law_long_right" "_law_long_right" s__law_long_right f fd) (hND : base.NoDigits)
    (G__law_dip : FnOk P w K mg base CX0 1 f__law_dip fd__law_dip ["pot", "many"] spDip) (g__law_dip : mg "_law_dip" = some (.ref f__law_dip)) (k__law_dip : PySem.W.keepIn K (.ref f__law_dip) = true) (b__law_dip : Binds K fd__law_dip ["pot", "many"] [])
    (G_read_rule : FnOk P w K mg base CX0 10 f_read_rule fd_read_rule ["text"] (spReads (dueOf 1))) (g_read_rule : mg "read_rule" = some (.ref f_read_rule)) (k_read_rule : PySem.W.keepIn K (.ref f_read_rule) = true) (b_read_rule : Binds K fd_read_rule ["text"] [])
    (G_read_letter : FnOk P w K mg base CX0 4 f_read_letter fd_read_letter ["text"] (spReads (dueOf 2))) (g_read_letter : mg "read_letter" = some (.ref f_read_letter)) (k_read_letter : PySem.W.keepIn K (.ref f_read_letter) = true) (b_read_letter : Binds K fd_read_letter ["text"] [])
    (G_read_what : FnOk P w K mg base CX0 10 f_read_what fd_read_what ["text"] (spReads (dueOf 3))) (g_read_what : mg "read_what" = some (.ref f_read_what)) (k_read_what : PySem.W.keepIn K (.ref f_read_what) = true) (b_read_what : Binds K fd_read_what ["text"] [])
    (G_show_rule : FnOk P w K mg base CX0 9 f_show_rule fd_show_rule ["rule"] (spShowT 1)) (g_show_rule : mg "show_rule" = some (.ref f_show_rule)) (k_show_rule : PySem.W.keepIn K (.ref f_show_rule) = true) (b_show_rule : Binds K fd_show_rule ["rule"] [])
    (G_show_letter : FnOk P w K mg base CX0 4 f_show_letter fd_show_letter ["letter"] (spShowT 2)) (g_show_letter : mg "show_letter" = some (.ref f_show_letter)) (k_show_letter : PySem.W.keepIn K (.ref f_show_letter) = true) (b_show_letter : Binds K fd_show_letter ["letter"] [])
    (G_show_what : FnOk P w K mg base CX0 10 f_show_what fd_show_what ["what"] (spShowT 3)) (g_show_what : mg "show_what" = some (.ref f_show_what)) (k_show_what : PySem.W.keepIn K (.ref f_show_what) = true) (b_show_what : Binds K fd_show_what ["what"] [])
    (z_len : mg "len" = none) (z_int : mg "int" = none) (z_str : mg "str" = none) (z_range : mg "range" = none) : FnOk P w K mg base CX0 11 f fd ["pot"] spLong := by
  refine F.ok sc__law_long_right (fun vs H Q E h => ?_) (fun cdv A outer s H vs Q E hr h => ?_)
  · obtain ⟨a, x, b, c, rfl, _⟩ := h
    rfl
  · obtain ⟨a, x, b, c, rfl, hp, hb, ⟨hc0, hc1⟩, q⟩ := h
    have hu64 : (A.deeper (PyProof.Rows.envOfC "_law_long_right" (defScope s__law_long_right) s.heap.objs.size f cdv)).units + 64 < cLine := hr.units
    refine ⟨_, (pss_cons (ps_set (i := 1) sc__law_long_right.nd rfl (Or.inl rfl) (pe_ix (r := rIxS) ix_str pe_str (pe_call G__law_dip (hr.mono (by decide)) (by rfl) g__law_dip k__law_dip b__law_dip .nil pass0 (pa_cons (pv 0) (pa_cons pe_int pa_nil))) (fun _ _ => rfl)))
  (pss_cons (ps_for PassesOwn.never rfl (pi_range1 (by rfl) z_range (pa_cons (pe_call G__law_dip (hr.mono (by decide)) (by rfl) g__law_dip k__law_dip b__law_dip .nil pass0 (pa_cons (pv 0) (pa_cons pe_int pa_nil))) pa_nil)) (pg_name (i := 2) sc__law_long_right.nd rfl (Or.inl rfl))
  (pss_one (ps_set (i := 1) sc__law_long_right.nd rfl (Or.inl rfl) (pe_op op_add_str (pv 1) (pe_callTy call_str_int (by rfl) z_str (by decide +kernel) (pa_cons (pe_call G__law_dip (hr.mono (by decide)) (by rfl) g__law_dip k__law_dip b__law_dip .nil pass0 (pa_cons (pv 0) (pa_cons pe_int pa_nil))) pa_nil))))))
  (pss_cons (ps_if (pt_cmpR op_eq (pe_call G__law_dip (hr.mono (by decide)) (by rfl) g__law_dip k__law_dip b__law_dip .nil pass0 (pa_cons (pv 0) (pa_cons pe_int pa_nil))) pe_int (nomark _)) (pss_one (ps_set (i := 1) sc__law_long_right.nd rfl (Or.inl rfl) (pe_op op_add_str (pv 1) (pe_op op_sevens pe_str (pe_op op_sub pe_int (pe_callB (call_len_str) (by rfl) z_len (by decide +kernel) (pa_cons (pv 1) pa_nil))))))) pss_nil)
  (pss_cons (ps_set (i := 3) sc__law_long_right.nd rfl (Or.inl rfl) (pe_callTy (call_int_strN hND) (by rfl) z_int (by decide +kernel) (pa_cons (pv 1) pa_nil)))
  (pss_cons (ps_if (pt_cmpR op_ne (pe_call G_show_letter (hr.mono (by decide)) (by rfl) g_show_letter k_show_letter b_show_letter .nil pass0 (pa_cons (pe_call G_read_letter (hr.mono (by decide)) (by rfl) g_read_letter k_read_letter b_read_letter .nil pass0 (pa_cons (pe_op op_add_str pe_str (pv 1)) pa_nil)) pa_nil)) (pe_op op_add_str pe_str (pv 1)) (nomark _)) pss_never pss_nil)
  (pss_cons (ps_set (i := 4) sc__law_long_right.nd rfl (Or.inl rfl) (pe_op op_add_str pe_str (pv 1)))
  (pss_cons (ps_if (PW.pt (pw_or (pt_cmpR (op_neD hu64) (pe_call G_read_what (hr.mono (by decide)) (by rfl) g_read_what k_read_what b_read_what .nil pass0 (pa_cons (pv 4) pa_nil)) (pe_tup (pa_cons pe_str (pa_cons pe_str (pa_cons (pe_tup (pa_cons pe_str (pa_cons pe_str (pa_cons (pv 3) pa_nil)))) pa_nil)))) (nomark _)) (pw_or1 (pt_cmpR op_ne (pe_call G_show_what (hr.mono (by decide)) (by rfl) g_show_what k_show_what b_show_what .nil pass0 (pa_cons (pe_call G_read_what (hr.mono (by decide)) (by rfl) g_read_what k_read_what b_read_what .nil pass0 (pa_cons (pv 4) pa_nil)) pa_nil)) (pv 4) (nomark _))))) pss_never pss_nil)
  (pss_cons (ps_set (i := 4) sc__law_long_right.nd rfl (Or.inl rfl) (pe_op op_add_str (pe_op op_add_str pe_str (pv 1)) pe_str))
  (pss_one (ps_ret (pe_and (pe_cmpR op_eq (pe_ix ix_tup (pe_call G_read_rule (hr.mono (by decide)) (by rfl) g_read_rule k_read_rule b_read_rule .nil pass0 (pa_cons (pv 4) pa_nil)) pe_int (fun _ _ => rfl)) (pv 3) (nomark _)) (pe_one (pe_cmpR op_eq (pe_call G_show_rule (hr.mono (by decide)) (by rfl) g_show_rule k_show_rule b_show_rule .nil pass0 (pa_cons (pe_call G_read_rule (hr.mono (by decide)) (by rfl) g_read_rule k_read_rule b_read_rule .nil pass0 (pa_cons (pv 4) pa_nil)) pa_nil)) (pv 4) (nomark _)))))))))))))), ?_⟩
    -- the first figure
    refine ⟨_, rfl, a, x, b, c, 9, rfl, hp, hb, ⟨hc0, by omega⟩, ⟨by decide, by decide⟩, fun x1 c1 r1 u1 u2 u3 u4 => ?_⟩
    obtain ⟨H1, q1, k1, hq1⟩ := potH (a := a) x1 b c1 (H := H)
    rw [hq1]
    obtain ⟨n1, rfl⟩ : ∃ n : Nat, r1 = (n : Int) := ⟨r1.toNat, by omega⟩
    have hn1 : n1 < ("123456789" : Str).cps.toList.length := by rw [nines_ok]; simp; omega
    obtain ⟨ch, hch⟩ : ∃ ch, ("123456789" : Str).cps.toList[n1]? = some ch := ⟨_, List.getElem?_eq_getElem hn1⟩
    have hch9 : 49 ≤ ch ∧ ch ≤ 57 := by
      have := List.mem_of_getElem? hch
      rw [nines_ok] at this
      simp only [List.mem_cons, List.not_mem_nil, or_false] at this
      omega
    refine ⟨_, _, ch, rfl, rfl, small20 (by decide +kernel), atI_nat hch, ?_⟩
    have L1 : Lg 1 ⟨#[ch]⟩ := ⟨fun c hc => by
      have e : c = ch := by simpa using hc
      omega, ⟨ch, [], rfl, hch9.1⟩, Nat.le_refl _⟩
    generalize (⟨#[ch]⟩ : Str) = f0 at L1
    -- more figures
    refine ⟨_, rfl, a, x1, b, c1, 40, rfl, q1, hb, ⟨by omega, by omega⟩, ⟨by decide, by decide⟩, fun x2 c2 r2 v1 v2 v3 v4 => ?_⟩
    obtain ⟨H2, q2, k2, hq2⟩ := potH (a := a) x2 b c2 (H := H1)
    rw [hq2]
    refine ⟨r2, rfl, by omega, by omega, ?_⟩
    refine for_range (lo := 0) (n := r2.toNat) (fun j σ H' => ∃ (f : Str) (s2 : Option V) (x' c' : Int), σ = [some (.ref a), some (.str f), s2, none, none] ∧ Lg (1 + j) f ∧ Pot H' a x' b c' ∧ c2 ≤ c' ∧ c' ≤ c2 + (j : Int) ∧ Ka a H H')
      ⟨f0, none, x2, c2, rfl, L1, q2, Int.le_refl _, by omega, k1.trans k2⟩ ?_ ?_
    · rintro j σ H3 hj ⟨f, s2, x3, c3, rfl, Lf, q3, w1, w2, k3⟩
      refine ⟨_, rfl, _, rfl, a, x3, b, c3, 10, rfl, q3, hb, ⟨by omega, by omega⟩, ⟨by decide, by decide⟩, fun x4 c4 r4 y1 y2 y3 y4 => ?_⟩
      obtain ⟨H4, q4, k4, hq4⟩ := potH (a := a) x4 b c4 (H := H3)
      rw [hq4]
      obtain ⟨n4, rfl⟩ : ∃ n : Nat, r4 = (n : Int) := ⟨r4.toNat, by omega⟩
      have hn4 : n4 < 10 := by omega
      refine ⟨(n4 : Int), rfl, small_log (Nat.le_trans (Nat.le_of_lt hn4) (by decide +kernel)), ?_⟩
      have hg : NumText.AllDigits (strI n4).cps.toList := by rw [strI_tl]; exact TL.numL_digits n4
      have hgl : (strI n4).length ≤ 1 := by
        rw [len_cps, strI_tl]
        exact TL.numL_len (by decide) hn4
      have hfl := Lf.2.2
      refine ⟨_, _, rfl, rfl, small20 ?_, ?_⟩
      · have hgl : (Str.ofString (toString (n4 : Int))).length ≤ 1 := hgl
        omega
      · exact ⟨f ++ strI n4, _, x4, c4, rfl, Lf.app hg hgl, q4, by omega, by omega, k3.trans k4⟩
    · rintro σ H3 ⟨f, s2, x3, c3, rfl, Lf, q3, w1, w2, k3⟩
      have hfl := Lf.2.2
      have hf40 : f.length ≤ 40 := by omega
      have hf1 : 1 ≤ f.length := by
        obtain ⟨ch, r, e, _⟩ := Lf.2.1
        rw [len_cps, e]
        simp
      -- if dip(9) == 8
      refine ⟨_, rfl, a, x3, b, c3, 9, rfl, q3, hb, ⟨by omega, by omega⟩, ⟨by decide, by decide⟩, fun x4 c4 r4 y1 y2 y3 y4 => ?_⟩
      obtain ⟨H4, q4, k4, hq4⟩ := potH (a := a) x4 b c4 (H := H3)
      rw [hq4]
      refine ⟨rfl, _, rfl, ?_⟩
      refine' by_bothU (Cont := _) (Pre := fun v H' => H' = H4 ∧ ∃ f : Str, v = .str f ∧ Lg 1900 f) (fun rest => ?_) ?_
      rotate_left
      · by_cases h8 : r4 = 8
        · refine itY (by simpa using h8) ?_
          refine ⟨_, rfl, _, rfl, f, rfl, small20 (by omega), _, _, rfl, rfl, 1900 - f.length, rfl, by rw [Int.ofNat_sub (by omega)]; rfl, by omega, by omega, ?_⟩
          have hsl : (sevens (1900 - f.length)).length = 1900 - f.length := by rw [len_cps, sevens_tl, List.length_replicate]
          refine ⟨_, _, rfl, rfl, small20 (by omega), ?_⟩
          have L9 : Lg 1900 (f ++ sevens (1900 - f.length)) := by
            obtain ⟨g1, g2, g3⟩ := Lf
            have L' : Lg f.length f := ⟨g1, g2, Nat.le_refl _⟩
            have := L'.app (g := sevens (1900 - f.length)) (m := 1900 - f.length) (fun c hc => by
              rw [sevens_tl] at hc
              rw [(List.mem_replicate.mp hc).2]
              decide) (Nat.le_of_eq hsl)
            rw [show f.length + (1900 - f.length) = 1900 by omega] at this
            exact this
          generalize hv : V.str (f ++ sevens (1900 - f.length)) = v
          exact rest v H4 ⟨rfl, _, hv.symm, L9⟩
        · refine itN (by simpa using h8) ?_
          generalize hv : V.str f = v
          exact rest v H4 ⟨rfl, _, hv.symm, Lf.1, Lf.2.1, by omega⟩
      · clear hfl hf40 hf1
        rintro v H5 ⟨rfl, f, rfl, Lf⟩
        obtain ⟨m, rfl, hm, hm1, hm2⟩ := Lf.num
        have hfl := Lf.2.2
        have hi := PySem.intText_digits Lf.1 (by obtain ⟨ch, r, e, _⟩ := Lf.2.1; rw [e]; simp) (by omega)
        -- number
        refine ⟨_, rfl, strI m, numV (strI m), rfl, Lf.1, hi, by omega, ?_⟩
        rw [hm]
        have k05 : Ka a H H5 := k3.trans k4
        have lL : ("holds wet " : Str).length = 10 := by decide +kernel
        have lW : ("hear bo holds a " : Str).length = 16 := by decide +kernel
        have lR : ("an.a = " : Str).length = 7 := by decide +kernel
        have lR2 : (" bo.b" : Str).length = 5 := by decide +kernel
        obtain ⟨wL, fL⟩ := factL hm2
        obtain ⟨wW, fW⟩ := factW hm2
        obtain ⟨wR, fR⟩ := factR hm2
        have bL : dueOf 2 (("holds wet " : Str) ++ strI m) = dL m := by rw [txtL]; exact back (i := 2) (by decide) (okL m)
        have bW : dueOf 3 (("hear bo holds a " : Str) ++ strI m) = dW m := by rw [txtW]; exact back (i := 3) (by decide) (okW m)
        have bR : dueOf 1 (("an.a = " : Str) ++ strI m ++ " bo.b") = dR m := by rw [txtR]; exact back (i := 1) (by decide) (okR hm1)
        -- show_letter(read_letter('holds wet ' + figures)) != 'holds wet ' + figures
        refine ⟨_, rfl, _, _, rfl, rfl, small20 (by omega), _, rfl, by rw [Str.length_append]; omega, (by rw [bL]; intro z; cases z), fun v6 H6 g6 d6 fr6 => ?_⟩
        rw [bL] at d6
        refine ⟨v6, dL m, rfl, d6, wL, fL, okL m, fun H7 g7 => ?_⟩
        refine ⟨_, rfl, _, _, rfl, rfl, small20 (by omega), rfl, _, rfl, ?_⟩
        refine itN (by rw [txtL]; simp) ?_
        -- text
        refine ⟨_, rfl, _, _, rfl, rfl, small20 (by omega), ?_⟩
        -- read_what(text) != (..)
        refine ⟨_, rfl, _, rfl, by rw [Str.length_append]; omega, (by rw [bW]; intro z; cases z), fun v8 H8 g8 d8 fr8 => ?_⟩
        rw [bW] at d8
        refine ⟨_, rfl, small20 (Nat.le_of_ble_eq_true rfl), fun p9 n9 => ?_⟩
        obtain ⟨H9, g9, e9, hq9⟩ := newH n9 (o := _)
        rw [hq9]
        refine ⟨small20 (Nat.le_of_ble_eq_true rfl), fun p10 n10 => ?_⟩
        obtain ⟨H10, g10, e10, hq10⟩ := newH n10 (o := _)
        rw [hq10]
        have d10 : Da H10 (.ref p10) (dW m) := .tup e10 (.cons (.str _) (.cons (.str _) (.cons (.tup (g10 _ _ e9) (.cons (.str _) (.cons (.str _) (.cons (.int _) .nil)))) .nil)))
        refine ⟨dW m, dW m, dpW (Same.da (g9.trans g10) d8), dpW d10, shW m, shW m, _, rfl, ?_⟩
        refine itF (by rw [eqW]; rfl) ?_
        -- show_what(read_what(text)) != text
        refine ⟨_, rfl, _, rfl, by rw [Str.length_append]; omega, (by rw [bW]; intro z; cases z), fun v11 H11 g11 d11 fr11 => ?_⟩
        rw [bW] at d11
        refine ⟨v11, dW m, rfl, d11, wW, fW, okW m, fun H12 g12 => ?_⟩
        refine ⟨_, rfl, rfl, _, rfl, ?_⟩
        refine itN (by rw [txtW]; simp) ?_
        -- text
        refine ⟨_, rfl, _, _, rfl, rfl, small20 (by omega), _, _, rfl, rfl, small20 (by rw [Str.length_append]; omega), ?_⟩
        -- read_rule(text)[2] == number
        refine ⟨_, rfl, _, rfl, by rw [Str.length_append, Str.length_append]; omega, (by rw [bR]; intro z; cases z), fun v13 H13 g13 d13 fr13 => ?_⟩
        rw [bR] at d13
        obtain ⟨r13, q13, rfl, e13⟩ : ∃ r q', v13 = .ref r ∧ H13 r = some (.tup [.str "an", .str "a", .int (m : Int), .ref q']) := by
          cases d13 with
          | tup e hall =>
          cases hall with
          | cons d0 hall =>
          cases d0
          cases hall with
          | cons d0 hall =>
          cases d0
          cases hall with
          | cons d0 hall =>
          cases d0
          cases hall with
          | cons d0 hall =>
          cases hall
          cases d0 with
          | lst e2 _ => exact ⟨_, _, rfl, e⟩
        refine ⟨r13, _, 2, .int (m : Int), rfl, rfl, .inl (.inl e13), rfl, _, rfl, rfl, _, rfl, ?_⟩
        refine itT (by simp) ?_
        -- show_rule(read_rule(text)) == text
        refine ⟨_, rfl, _, rfl, by rw [Str.length_append, Str.length_append]; omega, (by rw [bR]; intro z; cases z), fun v14 H14 g14 d14 fr14 => ?_⟩
        rw [bR] at d14
        refine ⟨v14, dR m, rfl, d14, wR, fR, okR hm1, fun H15 g15 => ?_⟩
        refine ⟨_, rfl, rfl, ?_⟩
        rw [txtR]
        have gg : Same H5 H15 := g6.trans (g7.trans (g8.trans (g9.trans (g10.trans (g11.trans (g12.trans (g13.trans (g14.trans g15))))))))
        have := q H15 x4 c4 (Same.pot gg q4) (by omega) (by omega) (k05.trans (Ka.of gg))
        simpa using this
end
end K65
set_option Elab.async false
set_option linter.all false
set_option maxRecDepth 100000
set_option maxHeartbeats 4000000
namespace K65
open PySem L2 Ld GxR Gx
/-! the texts are short and ascii -/
def Sw (w : Str) : Prop := w.length ≤ 31 ∧ TxOk w
theorem sw_nm {n : Str} (h : nm n) : Sw n := ⟨Nat.le_trans (nm_parts h).2.1 (by decide), fun c hc => by
  have := (nm_parts h).2.2 c hc
  omega⟩
theorem sw_strI {m : Nat} (h : m ≤ 10 ^ 30) : Sw (strI m) := ⟨by
  rw [len_cps, strI_tl]
  exact TL.numL_len (by decide) (Nat.lt_of_le_of_lt h (by decide +kernel)), fun c hc => by
  rw [strI_tl] at hc
  have := TL.numL_digits m c hc
  omega⟩
theorem sw_lit {w : Str} (h : (decide (w.length ≤ 31) && w.cps.toList.all fun c => decide (c < 128)) = true) : Sw w := by
  rw [Bool.and_eq_true, decide_eq_true_eq] at h
  exact ⟨h.1, tx_lit h.2⟩
theorem sw_plT {d : PyData} (h : placeD d = true) : Sw (plT d) := by
  refine ⟨Nat.le_trans (plT_back h).2.2 (by decide), ?_⟩
  obtain ⟨x, y, rfl, h1, h2⟩ := place_of_true h
  intro c hc
  have hc : c ∈ (placeT x y).cps.toList := hc
  rw [placeT_eq, Str.cps_append, Str.cps_append, Array.toList_append, Array.toList_append] at hc
  rcases List.mem_append.mp hc with hc | hc
  · rcases List.mem_append.mp hc with hc | hc
    · exact (sw_nm h1).2 c hc
    · have : ("." : Str).cps.toList = [46] := by decide
      rw [this, List.mem_singleton] at hc
      omega
  · exact (sw_nm h2).2 c hc
theorem sw_pls {ps : List PyData} (h : ∀ e ∈ ps, placeD e = true) : ∀ w ∈ ps.map plT, Sw w := fun w hw => by
  obtain ⟨e, he, rfl⟩ := List.mem_map.mp hw
  exact sw_plT (h e he)
theorem join_sw {ws : List Str} (hl : ws.length ≤ 12) (h : ∀ w ∈ ws, Sw w) : (Txt.join blank ws).length ≤ 400 ∧ TxOk (Txt.join blank ws) := by
  rw [tjn]
  refine ⟨?_, fun c hc => ?_⟩
  · have h1 := StrLaws.join_length_le blank ws
    have h2 := sum_len (n := 31) (ys := ws) fun w hw => (h w hw).1
    have h3 : blank.length = 1 := by decide +kernel
    rw [h3] at h1
    omega
  · rcases (PyProof.Rows.mem_join blank c ws).mp hc with ⟨x, hx, hc⟩ | ⟨_, hc⟩
    · exact (h x hx).2 c hc
    · have : blank.cps.toList = [32] := by decide +kernel
      rw [this, List.mem_singleton] at hc
      omega
theorem let_sw {d : PyData} (h : letterD d = true) (hl : lf (10 ^ 30) d = true) : (letW d).length ≤ 3 ∧ ∀ w ∈ letW d, Sw w := by
  cases letX h with
  | two t n ht hn =>
    refine ⟨by simp [letW], fun w hw => ?_⟩
    have hw : w ∈ [t, n] := hw
    simp only [List.mem_cons, List.not_mem_nil, or_false] at hw
    rcases hw with rfl | rfl
    · rcases ht with rfl | rfl <;> exact sw_lit (by decide +kernel)
    · exact sw_nm hn
  | hold n i hn hi =>
    obtain ⟨m, rfl, hm⟩ := lf_int (lfAll_iff.mp hl (.int i) (by simp)) hi
    refine ⟨by simp [letW], fun w hw => ?_⟩
    have hw : w ∈ [("holds" : Str), n, strI m] := hw
    simp only [List.mem_cons, List.not_mem_nil, or_false] at hw
    rcases hw with rfl | rfl | rfl
    · exact sw_lit (by decide +kernel)
    · exact sw_nm hn
    · exact sw_strI hm
theorem txt_sw {i : Nat} (hi : i < 4) {d : PyData} (h : okOf i d = true) (hlf : lf (10 ^ 30) d = true) : (txtOf i d).length ≤ 400 ∧ TxOk (txtOf i d) := by
  obtain rfl | rfl | rfl | rfl : i = 0 ∨ i = 1 ∨ i = 2 ∨ i = 3 := by omega
  · have := sw_plT (show placeD d = true from h)
    exact ⟨Nat.le_trans this.1 (by decide), this.2⟩
  · show (Txt.join blank (ruleW d)).length ≤ 400 ∧ TxOk (Txt.join blank (ruleW d))
    cases ruleX (show ruleD d = true from h) with
    | mk x y i ps hx hy hi hp h1 h8 =>
      obtain ⟨m, rfl, hm⟩ := lf_int (lfAll_iff.mp hlf (.int i) (by simp)) (by omega)
      have e : ruleW (.tuple [.str x, .str y, .int (m : Int), .list ps]) = placeT x y :: ("=" : Str) :: strI m :: ps.map plT := rfl
      rw [e]
      refine join_sw (by simp; omega) fun w hw => ?_
      simp only [List.mem_cons] at hw
      rcases hw with rfl | rfl | rfl | hw
      · exact sw_plT (d := .tuple [.str x, .str y]) (by show (nameD (.str x) && nameD (.str y)) = true; rw [show nameD (.str x) = true from hx, show nameD (.str y) = true from hy]; rfl)
      · exact sw_lit (by decide +kernel)
      · exact sw_strI hm
      · exact sw_pls hp w hw
  · obtain ⟨h1, h2⟩ := let_sw h hlf
    exact join_sw (by omega) h2
  · show (Txt.join blank (whatW d)).length ≤ 400 ∧ TxOk (Txt.join blank (whatW d))
    cases whatX (show whatD d = true from h) with
    | four t n ht hn =>
      have e : whatW (.tuple [.str t, .str n]) = [t, n] := rfl
      rw [e]
      refine join_sw (by simp) fun w hw => ?_
      simp only [List.mem_cons, List.not_mem_nil, or_false] at hw
      rcases hw with rfl | rfl
      · simp only [fourW, List.mem_cons, List.not_mem_nil, or_false] at ht
        rcases ht with rfl | rfl | rfl | rfl <;> exact sw_lit (by decide +kernel)
      · exact sw_nm hn
    | drop i hi =>
      obtain ⟨m, rfl, hm⟩ := lf_int (lfAll_iff.mp hlf (.int i) (by simp)) hi
      have e : whatW (.tuple [.str "drop", .int (m : Int)]) = [("drop" : Str), strI m] := rfl
      rw [e]
      refine join_sw (by simp) fun w hw => ?_
      simp only [List.mem_cons, List.not_mem_nil, or_false] at hw
      rcases hw with rfl | rfl
      · exact sw_lit (by decide +kernel)
      · exact sw_strI hm
    | hear n l hn hl =>
      have e : whatW (.tuple [.str "hear", .str n, l]) = ("hear" : Str) :: n :: letW l := by cases letX hl <;> rfl
      obtain ⟨h1, h2⟩ := let_sw hl (lfAll_iff.mp hlf l (by simp))
      rw [e]
      refine join_sw (by simp; omega) fun w hw => ?_
      simp only [List.mem_cons] at hw
      rcases hw with rfl | rfl | hw
      · exact sw_lit (by decide +kernel)
      · exact sw_nm hn
      · exact h2 w hw
    | lean n i ps hn hi hp h1 h8 =>
      obtain ⟨m, rfl, hm⟩ := lf_int (lfAll_iff.mp hlf (.int i) (by simp)) (by omega)
      have e : whatW (.tuple [.str "lean", .str n, .int (m : Int), .list ps]) = ("lean" : Str) :: n :: strI m :: ps.map plT := rfl
      rw [e]
      refine join_sw (by simp; omega) fun w hw => ?_
      simp only [List.mem_cons] at hw
      rcases hw with rfl | rfl | rfl | hw
      · exact sw_lit (by decide +kernel)
      · exact sw_nm hn
      · exact sw_strI hm
      · exact sw_pls hp w hw
theorem notLean_rule {d : PyData} (h : ruleD d = true) : notLean d := fun x y e => by
  subst e
  cases ruleX h
theorem notLean_let {d : PyData} (h : letterD d = true) : notLean d := fun x y e => by
  subst e
  cases letX h with
  | two t n ht hn => rcases ht with rfl | rfl <;> decide
theorem notLean_what {d : PyData} (h : whatD d = true) : notLean d := fun x y e => by
  subst e
  cases whatX h with
  | four t n ht hn =>
    simp only [fourW, List.mem_cons, List.not_mem_nil, or_false] at ht
    rcases ht with rfl | rfl | rfl | rfl <;> decide
/-- what is drawn can be shown -/
theorem gd_big {n k : Nat} {d : PyData} (g : Gd (10 ^ 30) n k d) : Gd big n k d := ⟨lf_mono (by decide +kernel) d g.lf, g.w, g.dp⟩
theorem sm_texts {ts : List Str} (hl : ts.length ≤ 4) (h : ∀ t ∈ ts, t.length ≤ 400 ∧ TxOk t) : Sm (.list (ts.map .str)) = true := by
  refine Gd.sm (n := 2000) (k := 1) ⟨lfAll_iff.mpr fun e he => ?_, ?_, ?_⟩ (by decide) (by decide)
  · obtain ⟨t, ht, rfl⟩ := List.mem_map.mp he
    exact (gd_str (B := big) (m := 400) (k := 0) (h t ht).2 (h t ht).1).lf
  · have : ∀ ts : List Str, (∀ t ∈ ts, t.length ≤ 400) → PyData.weightAll (ts.map .str) ≤ 401 * ts.length := fun ts => by
      induction ts with
      | nil => intro _; exact Nat.le_refl _
      | cons t ts ih =>
        intro h
        have h1 := ih fun u hu => h u (List.mem_cons_of_mem _ hu)
        have h2 := h t List.mem_cons_self
        have h2 : t.cps.size ≤ 400 := h2
        show t.cps.size + 1 + PyData.weightAll (ts.map .str) ≤ _
        rw [List.length_cons]
        omega
    have := this ts fun t ht => (h t ht).1
    show PyData.weightAll (ts.map .str) ≤ 2000
    omega
  · show PyData.depthAll (ts.map .str) + 1 ≤ 1
    have : PyData.depthAll (ts.map PyData.str) ≤ 0 := dAll_iff.mpr fun e he => by
      obtain ⟨x, _, rfl⟩ := List.mem_map.mp he
      simp [PyData.depth]
    omega
end K65
set_option Elab.async false
set_option linter.all false
set_option maxRecDepth 100000
set_option maxHeartbeats 4000000
namespace K65
open PySem L2 Ld GxR Gx Gu
/-! the law -/
abbrev s_law : Stmt := topS 59
abbrev N_law : List Str := ["script", "k", "pot", "turn", "rule", "letter", "what", "kept", "texts", "due", "things", "way"]
theorem sc_law : FnScope N_law ["script"] (defScope s_law) := ⟨rfl, rfl, rfl, by decide +kernel, rfl, by decide +kernel, by decide +kernel⟩
theorem rule_at {H : Hp} {v : V} {d : PyData} (hd : Da H v d) (h : ruleD d = true) : ∃ (r rp : Addr) (x y : Str) (i : Int) (ps : List PyData), v = .ref r ∧ d = .tuple [.str x, .str y, .int i, .list ps] ∧ H r = some (.tup [.str x, .str y, .int i, .ref rp]) ∧ nm x ∧ nm y := by
  cases ruleX h with
  | mk x y i ps hx hy =>
  cases hd with
  | tup e hall =>
  cases hall with
  | cons d0 hall =>
  cases d0
  cases hall with
  | cons d0 hall =>
  cases d0
  cases hall with
  | cons d0 hall =>
  cases d0
  cases hall with
  | cons d0 hall =>
  cases hall
  cases d0 with
  | lst e2 _ => exact ⟨_, _, x, y, i, ps, rfl, rfl, e, hx, hy⟩
theorem pair_ok {x y : Str} (hx : nm x) (hy : nm y) : placeD (.tuple [.str x, .str y]) = true := by
  show (nameD (.str x) && nameD (.str y)) = true
  rw [show nameD (.str x) = true from hx, show nameD (.str y) = true from hy]
  rfl
theorem gd_pairN {x y : Str} (hx : nm x) (hy : nm y) : Gd (10 ^ 30) 60 1 (.tuple [.str x, .str y]) := gd_pair2 (nm_short hx) (nm_short hy)
theorem lf_huge {d : PyData} (h : lf (10 ^ 30) d = true) : lf huge d = true := lf_mono (by decide +kernel) d h
section
variable {P : Program} {w : World} {K : PySem.W.Frag} {mg : Str → Option Value} {base : Heap}
theorem law_reads {f f__law_pot f__law_rule f__law_letter f__law_what f_show_place f_show_rule f_show_letter f_show_what f__law_place_text f__law_rule_text f__law_words f__law_what_text f__law_same f__law_back_right f__law_long_right sa : Addr} {cdv : Value} {fd__law_pot fd__law_rule fd__law_letter fd__law_what fd_show_place fd_show_rule fd_show_letter fd_show_what fd__law_place_text fd__law_rule_text fd__law_words fd__law_what_text fd__law_same fd__law_back_right fd__law_long_right : FuncData} {A : Around} {outer : List Env} {s : Shared} {H : Hp} {E : XK} {ns : List Int}
    (G__law_pot : FnOk P w K mg base CX0 1 f__law_pot fd__law_pot ["script", "k"] (spPot K)) (g__law_pot : mg "_law_pot" = some (.ref f__law_pot)) (k__law_pot : PySem.W.keepIn K (.ref f__law_pot) = true) (b__law_pot : Binds K fd__law_pot ["script", "k"] [])
    (G__law_rule : FnOk P w K mg base CX0 4 f__law_rule fd__law_rule ["pot"] spRuleG) (g__law_rule : mg "_law_rule" = some (.ref f__law_rule)) (k__law_rule : PySem.W.keepIn K (.ref f__law_rule) = true) (b__law_rule : Binds K fd__law_rule ["pot"] [])
    (G__law_letter : FnOk P w K mg base CX0 3 f__law_letter fd__law_letter ["pot"] spLetG) (g__law_letter : mg "_law_letter" = some (.ref f__law_letter)) (k__law_letter : PySem.W.keepIn K (.ref f__law_letter) = true) (b__law_letter : Binds K fd__law_letter ["pot"] [])
    (G__law_what : FnOk P w K mg base CX0 4 f__law_what fd__law_what ["pot"] spWhatG) (g__law_what : mg "_law_what" = some (.ref f__law_what)) (k__law_what : PySem.W.keepIn K (.ref f__law_what) = true) (b__law_what : Binds K fd__law_what ["pot"] [])
    (G_show_place : FnOk P w K mg base CX0 4 f_show_place fd_show_place ["place"] (spShowT 0)) (g_show_place : mg "show_place" = some (.ref f_show_place)) (k_show_place : PySem.W.keepIn K (.ref f_show_place) = true) (b_show_place : Binds K fd_show_place ["place"] [])
    (G_show_rule : FnOk P w K mg base CX0 9 f_show_rule fd_show_rule ["rule"] (spShowT 1)) (g_show_rule : mg "show_rule" = some (.ref f_show_rule)) (k_show_rule : PySem.W.keepIn K (.ref f_show_rule) = true) (b_show_rule : Binds K fd_show_rule ["rule"] [])
    (G_show_letter : FnOk P w K mg base CX0 4 f_show_letter fd_show_letter ["letter"] (spShowT 2)) (g_show_letter : mg "show_letter" = some (.ref f_show_letter)) (k_show_letter : PySem.W.keepIn K (.ref f_show_letter) = true) (b_show_letter : Binds K fd_show_letter ["letter"] [])
    (G_show_what : FnOk P w K mg base CX0 10 f_show_what fd_show_what ["what"] (spShowT 3)) (g_show_what : mg "show_what" = some (.ref f_show_what)) (k_show_what : PySem.W.keepIn K (.ref f_show_what) = true) (b_show_what : Binds K fd_show_what ["what"] [])
    (G__law_place_text : FnOk P w K mg base CX0 1 f__law_place_text fd__law_place_text ["place"] spPTx) (g__law_place_text : mg "_law_place_text" = some (.ref f__law_place_text)) (k__law_place_text : PySem.W.keepIn K (.ref f__law_place_text) = true) (b__law_place_text : Binds K fd__law_place_text ["place"] [])
    (G__law_rule_text : FnOk P w K mg base CX0 2 f__law_rule_text fd__law_rule_text ["rule"] (spTx 1)) (g__law_rule_text : mg "_law_rule_text" = some (.ref f__law_rule_text)) (k__law_rule_text : PySem.W.keepIn K (.ref f__law_rule_text) = true) (b__law_rule_text : Binds K fd__law_rule_text ["rule"] [])
    (G__law_words : FnOk P w K mg base CX0 1 f__law_words fd__law_words ["things"] spWdsT) (g__law_words : mg "_law_words" = some (.ref f__law_words)) (k__law_words : PySem.W.keepIn K (.ref f__law_words) = true) (b__law_words : Binds K fd__law_words ["things"] [])
    (G__law_what_text : FnOk P w K mg base CX0 2 f__law_what_text fd__law_what_text ["what"] (spTx 3)) (g__law_what_text : mg "_law_what_text" = some (.ref f__law_what_text)) (k__law_what_text : PySem.W.keepIn K (.ref f__law_what_text) = true) (b__law_what_text : Binds K fd__law_what_text ["what"] [])
    (G__law_same : FnG P w K mg base CX0 1 f__law_same fd__law_same ["found", "due"] spSame) (g__law_same : mg "_law_same" = some (.ref f__law_same)) (k__law_same : PySem.W.keepIn K (.ref f__law_same) = true) (b__law_same : Binds K fd__law_same ["found", "due"] [])
    (G__law_back_right : FnG P w K mg base CX0 11 f__law_back_right fd__law_back_right ["text", "thing", "way"] spBack) (g__law_back_right : mg "_law_back_right" = some (.ref f__law_back_right)) (k__law_back_right : PySem.W.keepIn K (.ref f__law_back_right) = true) (b__law_back_right : Binds K fd__law_back_right ["text", "thing", "way"] [])
    (G__law_long_right : FnOk P w K mg base CX0 11 f__law_long_right fd__law_long_right ["pot"] spLong) (g__law_long_right : mg "_law_long_right" = some (.ref f__law_long_right)) (k__law_long_right : PySem.W.keepIn K (.ref f__law_long_right) = true) (b__law_long_right : Binds K fd__law_long_right ["pot"] [])
    (z_range : mg "range" = none) (z_max : mg "max" = none) (z_min : mg "min" = none) (z_len : mg "len" = none) (z_repr : mg "repr" = none)
    (hr : Room 11 (A.deeper (PyProof.Rows.envOfC "law" (defScope s_law) s.heap.objs.size f cdv))) (hgA : A.guards = some []) (hS : SqL K H sa (ns.map V.int)) (hl : ns.length ≤ 63) :
    ∃ t, PSs (cxOf CX0 P w K mg base N_law "law" (defScope s_law) f cdv A outer s H E).nox (defBody s_law) t ∧ t { nx := fun _ H' => (fun (v : V) (_ : Hp) => v = .bl true) .non H', rt := fun v _ => v = .bl true } (L2.start N_law [.ref sa]) H := by
  have hu64 : (A.deeper (PyProof.Rows.envOfC "law" (defScope s_law) s.heap.objs.size f cdv)).units + 64 < cLine := hr.units
  have hgd : (A.deeper (PyProof.Rows.envOfC "law" (defScope s_law) s.heap.objs.size f cdv)).guards = some [] := hgA
  refine ⟨_, (pss_cons (ps_for PassesOwn.never rfl (pi_range1 (by rfl) z_range (pa_cons (pe_callB ((call_max2 rfl)) (by rfl) z_max (by decide +kernel) (pa_cons pe_int (pa_cons (pe_callB ((call_min2 rfl)) (by rfl) z_min (by decide +kernel) (pa_cons pe_int (pa_cons (pe_callB (call_len_seq) (by rfl) z_len (by decide +kernel) (pa_cons (pv 0) pa_nil)) pa_nil))) pa_nil))) pa_nil)) (pg_name (i := 1) sc_law.nd rfl (Or.inl rfl))
  (pss_cons (ps_set (i := 2) sc_law.nd rfl (Or.inl rfl) (pe_call G__law_pot (hr.mono (by decide)) (by rfl) g__law_pot k__law_pot b__law_pot .nil pass0 (pa_cons (pv 0) (pa_cons (pv 1) pa_nil))))
  (pss_cons (ps_for PassesOwn.never rfl (pi_range1 (by rfl) z_range (pa_cons pe_int pa_nil)) (pg_name (i := 3) sc_law.nd rfl (Or.inl rfl))
  (pss_cons (ps_set (i := 4) sc_law.nd rfl (Or.inl rfl) (pe_call G__law_rule (hr.mono (by decide)) (by rfl) g__law_rule k__law_rule b__law_rule .nil pass0 (pa_cons (pv 2) pa_nil)))
  (pss_cons (ps_set (i := 5) sc_law.nd rfl (Or.inl rfl) (pe_call G__law_letter (hr.mono (by decide)) (by rfl) g__law_letter k__law_letter b__law_letter .nil pass0 (pa_cons (pv 2) pa_nil)))
  (pss_cons (ps_set (i := 6) sc_law.nd rfl (Or.inl rfl) (pe_call G__law_what (hr.mono (by decide)) (by rfl) g__law_what k__law_what b__law_what .nil pass0 (pa_cons (pv 2) pa_nil)))
  (pss_cons (ps_set (i := 7) sc_law.nd rfl (Or.inl rfl) (pe_callB (call_repr hu64 hgd) (by rfl) z_repr (by decide +kernel) (pa_cons (pe_lst (pa_cons (pv 4) (pa_cons (pv 5) (pa_cons (pv 6) pa_nil)))) pa_nil)))
  (pss_cons (ps_set (i := 8) sc_law.nd rfl (Or.inl rfl) (pe_lst (pa_cons (pe_call G_show_place (hr.mono (by decide)) (by rfl) g_show_place k_show_place b_show_place .nil pass0 (pa_cons (pe_slice sl_tupA (pv 4) po_none (po_some pe_int)) pa_nil)) (pa_cons (pe_call G_show_rule (hr.mono (by decide)) (by rfl) g_show_rule k_show_rule b_show_rule .nil pass0 (pa_cons (pv 4) pa_nil)) pa_nil))))
  (pss_cons (ps_set (i := 8) sc_law.nd rfl (Or.inl rfl) (pe_op op_cat (pv 8) (pe_lst (pa_cons (pe_call G_show_letter (hr.mono (by decide)) (by rfl) g_show_letter k_show_letter b_show_letter .nil pass0 (pa_cons (pv 5) pa_nil)) (pa_cons (pe_call G_show_what (hr.mono (by decide)) (by rfl) g_show_what k_show_what b_show_what .nil pass0 (pa_cons (pv 6) pa_nil)) pa_nil)))))
  (pss_cons (ps_set (i := 9) sc_law.nd rfl (Or.inl rfl) (pe_lst (pa_cons (pe_call G__law_place_text (hr.mono (by decide)) (by rfl) g__law_place_text k__law_place_text b__law_place_text .nil pass0 (pa_cons (pe_slice sl_tupA (pv 4) po_none (po_some pe_int)) pa_nil)) (pa_cons (pe_call G__law_rule_text (hr.mono (by decide)) (by rfl) g__law_rule_text k__law_rule_text b__law_rule_text .nil pass0 (pa_cons (pv 4) pa_nil)) pa_nil))))
  (pss_cons (ps_expr (pe_bm PySem.F.plainAttrs_list PySem.F.slot_list_append PySem.F.type_list_append mt_append (pv 9) (pa_cons (pe_call G__law_words (hr.mono (by decide)) (by rfl) g__law_words k__law_words b__law_words .nil pass0 (pa_cons (pv 5) pa_nil)) pa_nil)))
  (pss_cons (ps_expr (pe_bm PySem.F.plainAttrs_list PySem.F.slot_list_append PySem.F.type_list_append mt_append (pv 9) (pa_cons (pe_call G__law_what_text (hr.mono (by decide)) (by rfl) g__law_what_text k__law_what_text b__law_what_text .nil pass0 (pa_cons (pv 6) pa_nil)) pa_nil)))
  (pss_cons (ps_if (PW.pt (pw_or (pt_not (pt_val (pe_callG G__law_same hgd (hr.mono (by decide)) (by rfl) g__law_same k__law_same b__law_same .nil pass0 (pa_cons (pv 8) (pa_cons (pv 9) pa_nil))))) (pw_or1 (pt_cmpR op_ne (pe_callB (call_repr hu64 hgd) (by rfl) z_repr (by decide +kernel) (pa_cons (pe_lst (pa_cons (pv 4) (pa_cons (pv 5) (pa_cons (pv 6) pa_nil)))) pa_nil)) (pv 7) (nomark _))))) pss_never pss_nil)
  (pss_cons (ps_set (i := 10) sc_law.nd rfl (Or.inl rfl) (pe_lst (pa_cons (pe_slice sl_tupA (pv 4) po_none (po_some pe_int)) (pa_cons (pv 4) (pa_cons (pv 5) (pa_cons (pv 6) pa_nil))))))
  (pss_one (ps_for PassesOwn.never rfl (pi_range1 (by rfl) z_range (pa_cons pe_int pa_nil)) (pg_name (i := 11) sc_law.nd rfl (Or.inl rfl))
  (pss_one (ps_if (pt_not (pt_val (pe_callG G__law_back_right hgd (hr.mono (by decide)) (by rfl) g__law_back_right k__law_back_right b__law_back_right .nil pass0 (pa_cons (pe_ix ix_list (pv 8) (pv 11) (fun _ _ => rfl)) (pa_cons (pe_ix ix_list (pv 10) (pv 11) (fun _ _ => rfl)) (pa_cons (pv 11) pa_nil)))))) pss_never pss_nil))))))))))))))))
  (pss_one (ps_if (pt_not (pt_val (pe_call G__law_long_right (hr.mono (by decide)) (by rfl) g__law_long_right k__law_long_right b__law_long_right .nil pass0 (pa_cons (pv 2) pa_nil)))) pss_never pss_nil)))))
  (pss_one (ps_ret pe_bl))), ?_⟩
  -- range(max(1, min(12, len(script))))
  refine ⟨_, rfl, sa, _, rfl, .inl hS, _, _, rfl, _, _, rfl, ?_⟩
  have hnb : ∀ (n : Nat), (if (if (n : Int) < 12 then (n : Int) else 12) > 1 then (if (n : Int) < 12 then (n : Int) else 12) else 1) ≤ 12 ∧ 0 ≤ (if (if (n : Int) < 12 then (n : Int) else 12) > 1 then (if (n : Int) < 12 then (n : Int) else 12) else 1) := fun n => by
    split <;> split <;> omega
  obtain ⟨m1, m2⟩ := hnb (ns.map V.int).length
  generalize hM : (if (if ((ns.map V.int).length : Int) < 12 then ((ns.map V.int).length : Int) else 12) > 1 then (if ((ns.map V.int).length : Int) < 12 then ((ns.map V.int).length : Int) else 12) else 1) = M at m1 m2
  refine ⟨M, rfl, by omega, by omega, ?_⟩
  refine for_range (lo := 0) (n := M.toNat) (fun i σ H' => ∃ s1 s2 s3 s4 s5 s6 s7 s8 s9 s10 s11 : Option V, σ = [some (.ref sa), s1, s2, s3, s4, s5, s6, s7, s8, s9, s10, s11] ∧ SqL K H' sa (ns.map V.int))
    ⟨none, none, none, none, none, none, none, none, none, none, none, rfl, hS⟩ ?_ ?_
  · rintro i σ H1 hi ⟨s1, s2, s3, s4, s5, s6, s7, s8, s9, s10, s11, rfl, hS1⟩
    -- pot = _law_pot(script, k)
    refine ⟨_, rfl, _, rfl, sa, ns, _, rfl, hS1, ⟨by omega, by omega⟩, fun a x b na hb0 hb1 => ?_⟩
    obtain ⟨H2, g2, e2, hq2⟩ := newH na (o := _)
    rw [hq2]
    have q2 : Pot H2 a x b 0 := e2
    have hb : 0 ≤ b ∧ b < 2 ^ 200 := ⟨hb0, hb1⟩
    refine ⟨4, rfl, by decide, by decide, ?_⟩
    refine for_range (lo := 0) (n := 4) (fun j σ H' => ∃ (s3 s4 s5 s6 s7 s8 s9 s10 s11 : Option V) (x' c' : Int), σ = [some (.ref sa), some (.int (0 + (i : Int))), some (.ref a), s3, s4, s5, s6, s7, s8, s9, s10, s11] ∧ Pot H' a x' b c' ∧ 0 ≤ c' ∧ c' ≤ 400 * (j : Int) ∧ Ka a H2 H')
      ⟨s3, s4, s5, s6, s7, s8, s9, s10, s11, x, 0, rfl, q2, by omega, by omega, Ka.refl _ _⟩ ?_ ?_
    · rintro j σ H3 hj ⟨s3, s4, s5, s6, s7, s8, s9, s10, s11, x3, c3, rfl, q3, hc0, hc1, k3⟩
      -- rule, letter, what
      refine ⟨_, rfl, a, x3, b, c3, rfl, q3, hb, ⟨hc0, by omega⟩, fun vr dr H4 x4 c4 ar gr okr nlr q4 h1 h2 k4 => ?_⟩
      refine ⟨_, rfl, a, x4, b, c4, rfl, q4, hb, ⟨by omega, by omega⟩, fun vl dl H5 x5 c5 al gl okl q5 h3 h4 k5 => ?_⟩
      refine ⟨_, rfl, a, x5, b, c5, rfl, q5, hb, ⟨by omega, by omega⟩, fun vw dw H6 x6 c6 aw gw okw q6 h5 h6 k6 => ?_⟩
      have Dr : Da H6 vr dr := da_hid ((k5.trans k6).da ar)
      have Dl : Da H6 vl dl := da_hid (k6.da al)
      have Dw : Da H6 vw dw := da_hid aw
      have okl : letterD dl = true := okl
      have okw : whatD dw = true := okw
      clear ar al aw
      obtain ⟨r, rp, nx, ny, pi, ps, rfl, rfl, er, hx, hy⟩ := rule_at Dr okr
      have hnl := nlr nx ny pi ps rfl
      generalize hdr : PyData.tuple [.str nx, .str ny, .int pi, .list ps] = dr at Dr gr okr
      have okp := pair_ok hx hy
      have gp := gd_pairN hx hy
      have lx := (nm_parts hx).2.1
      have ly := (nm_parts hy).2.1
      have smK : Sm (.list [dr, dl, dw]) = true := by
        refine Gd.sm (n := 600) (k := 5) ⟨?_, ?_, ?_⟩ (by decide) (by decide)
        · show (lf big dr && (lf big dl && (lf big dw && true))) = true
          rw [(gd_big gr).lf, (gd_big gl).lf, (gd_big gw).lf]
          rfl
        · have a1 := gr.w
          have a2 := gl.w
          have a3 := gw.w
          show dr.weight + 1 + (dl.weight + 1 + (dw.weight + 1 + 0)) ≤ 600
          omega
        · have a1 := gr.dp
          have a2 := gl.dp
          have a3 := gw.dp
          show PyData.depthAll [dr, dl, dw] + 1 ≤ 5
          have : PyData.depthAll [dr, dl, dw] ≤ 4 := dAll_iff.mpr fun e he => by
            simp only [List.mem_cons, List.not_mem_nil, or_false] at he
            rcases he with rfl | rfl | rfl <;> omega
          omega
      -- kept
      refine ⟨_, rfl, _, rfl, _, rfl, small20 (Nat.le_of_ble_eq_true rfl), fun p7 n7 => ?_⟩
      obtain ⟨H7, g7, e7, hq7⟩ := newH n7 (o := _)
      rw [hq7]
      refine ⟨.ref p7, .list [dr, dl, dw], rfl, .lst e7 (.cons (Same.da g7 Dr) (.cons (Same.da g7 Dl) (.cons (Same.da g7 Dw) .nil))), smK, ?_⟩
      -- texts
      refine ⟨_, rfl, 2, rfl, slT_any (g7 _ _ er) fun p8 H8 g8 e8 => ?_⟩
      rw [cut2] at e8
      have wr := gr.w
      have wl := gl.w
      have ww := gw.w
      have wp := gp.w
      refine ⟨.ref p8, .tuple [.str nx, .str ny], rfl, .tup e8 (.cons (.str _) (.cons (.str _) .nil)), by omega, lf_huge gp.lf, okp, fun H9 g9 => ?_⟩
      have s69 : Same H6 H9 := g7.trans (g8.trans g9)
      refine ⟨_, rfl, .ref r, dr, rfl, Same.da s69 Dr, by omega, lf_huge gr.lf, okr, fun H10 g10 => ?_⟩
      refine ⟨small20 (Nat.le_of_ble_eq_true rfl), fun p11 n11 => ?_⟩
      obtain ⟨H11, g11, e11, hq11⟩ := newH n11 (o := _)
      rw [hq11]
      have s611 : Same H6 H11 := s69.trans (g10.trans g11)
      refine ⟨_, rfl, _, rfl, vl, dl, rfl, Same.da s611 Dl, by omega, lf_huge gl.lf, okl, fun H12 g12 => ?_⟩
      refine ⟨_, rfl, vw, dw, rfl, Same.da (s611.trans g12) Dw, by omega, lf_huge gw.lf, okw, fun H13 g13 => ?_⟩
      refine ⟨small20 (Nat.le_of_ble_eq_true rfl), fun p14 n14 => ?_⟩
      obtain ⟨H14, g14, e14, hq14⟩ := newH n14 (o := _)
      rw [hq14]
      refine ⟨p11, p14, _, _, rfl, rfl, g14 _ _ (g13 _ _ (g12 _ _ e11)), e14, small20 (Nat.le_of_ble_eq_true rfl), fun p15 n15 => ?_⟩
      obtain ⟨H15, g15, e15, hq15⟩ := newH n15 (o := _)
      rw [hq15]
      have s615 : Same H6 H15 := s611.trans (g12.trans (g13.trans (g14.trans g15)))
      have e15 : H15 p15 = some (.lst [.str (txtOf 0 (.tuple [.str nx, .str ny])), .str (txtOf 1 dr), .str (txtOf 2 dl), .str (txtOf 3 dw)]) := e15
      -- due
      refine ⟨_, rfl, 2, rfl, slT_any (s615 _ _ er) fun p16 H16 g16 e16 => ?_⟩
      rw [cut2] at e16
      refine ⟨p16, nx, ny, rfl, e16, lx, ly, ?_⟩
      refine ⟨_, rfl, .ref r, dr, rfl, Same.da (s615.trans g16) Dr, okr, gr.lf, fun H17 g17 => ?_⟩
      refine ⟨small20 (Nat.le_of_ble_eq_true rfl), fun p18 n18 => ?_⟩
      obtain ⟨H18, g18, e18, hq18⟩ := newH n18 (o := _)
      rw [hq18]
      have s617 : Same H6 H17 := s615.trans (g16.trans g17)
      have s1517 : Same H15 H17 := g16.trans g17
      -- due.append(_law_words(letter))
      obtain ⟨rl, xl, rfl, el, wl', ll, etv⟩ := let_at Dl okl gl.lf
      refine ⟨_, rfl, .inl ⟨rfl, _, .inl (.inl e18)⟩, ?_⟩
      refine ⟨_, rfl, rl, xl, rfl, g18 _ _ (s617 _ _ el), by omega, wl', fun H19 g19 => ?_⟩
      rw [etv]
      refine ⟨p18, _, _, rfl, rfl, g19 _ _ e18, show 2 < sizeLine by decide, ?_⟩
      have e20 : upd H19 p18 (.lst ([.str (placeT nx ny), .str (txtOf 1 dr)] ++ [.str (Txt.join blank (letW dl))])) p18 = some (.lst [.str (txtOf 0 (.tuple [.str nx, .str ny])), .str (txtOf 1 dr), .str (txtOf 2 dl)]) := upd_same
      have s20 : Same H17 (upd H19 p18 (.lst ([.str (placeT nx ny), .str (txtOf 1 dr)] ++ [.str (Txt.join blank (letW dl))]))) := fun b o e => by
        rw [upd_ne (ne_of_none e n18)]
        exact g19 _ _ (g18 _ _ e)
      generalize upd H19 p18 (.lst ([.str (placeT nx ny), .str (txtOf 1 dr)] ++ [.str (Txt.join blank (letW dl))])) = H20 at e20 s20
      -- due.append(_law_what_text(what))
      refine ⟨_, rfl, .inl ⟨rfl, _, .inl (.inl e20)⟩, ?_⟩
      refine ⟨_, rfl, vw, dw, rfl, Same.da (s617.trans s20) Dw, okw, gw.lf, fun H21 g21 => ?_⟩
      refine ⟨p18, _, _, rfl, rfl, g21 _ _ e20, show 3 < sizeLine by decide, ?_⟩
      have e22 : upd H21 p18 (.lst ([.str (txtOf 0 (.tuple [.str nx, .str ny])), .str (txtOf 1 dr), .str (txtOf 2 dl)] ++ [.str (txtOf 3 dw)])) p18 = some (.lst [.str (txtOf 0 (.tuple [.str nx, .str ny])), .str (txtOf 1 dr), .str (txtOf 2 dl), .str (txtOf 3 dw)]) := upd_same
      have s22 : Same H17 (upd H21 p18 (.lst ([.str (txtOf 0 (.tuple [.str nx, .str ny])), .str (txtOf 1 dr), .str (txtOf 2 dl)] ++ [.str (txtOf 3 dw)]))) := fun b o e => by
        rw [upd_ne (ne_of_none e n18)]
        exact g21 _ _ (s20 _ _ e)
      generalize upd H21 p18 (.lst ([.str (txtOf 0 (.tuple [.str nx, .str ny])), .str (txtOf 1 dr), .str (txtOf 2 dl)] ++ [.str (txtOf 3 dw)])) = H22 at e22 s22
      have s622 : Same H6 H22 := s617.trans s22
      have t0 := txt_sw (i := 0) (by decide) (d := .tuple [.str nx, .str ny]) okp gp.lf
      have t1 := txt_sw (i := 1) (by decide) (d := dr) okr gr.lf
      have t2 := txt_sw (i := 2) (by decide) (d := dl) okl gl.lf
      have t3 := txt_sw (i := 3) (by decide) (d := dw) okw gw.lf
      have smT : Sm (.list [.str (txtOf 0 (.tuple [.str nx, .str ny])), .str (txtOf 1 dr), .str (txtOf 2 dl), .str (txtOf 3 dw)]) = true := sm_texts (ts := [txtOf 0 (.tuple [.str nx, .str ny]), txtOf 1 dr, txtOf 2 dl, txtOf 3 dw]) (by simp) fun t ht => by
        simp only [List.mem_cons, List.not_mem_nil, or_false] at ht
        rcases ht with rfl | rfl | rfl | rfl
        · exact t0
        · exact t1
        · exact t2
        · exact t3
      have e15' := s22 _ _ (s1517 _ _ e15)
      -- if not same or repr != kept
      refine ⟨_, rfl, _, rfl, .ref p15, .ref p18, _, rfl, .lst e15' (.cons (.str _) (.cons (.str _) (.cons (.str _) (.cons (.str _) .nil)))), .lst e22 (.cons (.str _) (.cons (.str _) (.cons (.str _) (.cons (.str _) .nil)))), smT, ⟨_, rfl, ?_⟩⟩
      refine itN (by decide) ?_
      refine ⟨_, rfl, _, rfl, _, rfl, small20 (Nat.le_of_ble_eq_true rfl), fun p23 n23 => ?_⟩
      obtain ⟨H23, g23, e23, hq23⟩ := newH n23 (o := _)
      rw [hq23]
      have s623 := s622.trans g23
      refine ⟨.ref p23, .list [dr, dl, dw], rfl, .lst e23 (.cons (Same.da s623 Dr) (.cons (Same.da s623 Dl) (.cons (Same.da s623 Dw) .nil))), smK, _, rfl, rfl, _, rfl, ?_⟩
      refine itN (by simp) ?_
      -- things
      refine ⟨_, rfl, 2, rfl, slT_any (s623 _ _ er) fun p24 H24 g24 e24 => ?_⟩
      rw [cut2] at e24
      refine ⟨_, rfl, _, rfl, _, rfl, small20 (Nat.le_of_ble_eq_true rfl), fun p25 n25 => ?_⟩
      obtain ⟨H25, g25, e25, hq25⟩ := newH n25 (o := _)
      rw [hq25]
      have s625 := s623.trans (g24.trans g25)
      have e15'' := g25 _ _ (g24 _ _ (g23 _ _ e15'))
      have four : ∀ w, w < 4 → ∃ v d, [V.str (txtOf 0 (.tuple [.str nx, .str ny])), .str (txtOf 1 dr), .str (txtOf 2 dl), .str (txtOf 3 dw)][w]? = some (.str (txtOf w d)) ∧ [V.ref p24, .ref r, .ref rl, vw][w]? = some v ∧ Da H25 v d ∧ okOf w d = true ∧ Sm d = true ∧ (txtOf w d).length ≤ 2000 ∧ notLean d := fun w hw => by
        obtain rfl | rfl | rfl | rfl : w = 0 ∨ w = 1 ∨ w = 2 ∨ w = 3 := by omega
        · exact ⟨_, .tuple [.str nx, .str ny], rfl, rfl, .tup (g25 _ _ e24) (.cons (.str _) (.cons (.str _) .nil)), okp, (gd_big gp).sm (by decide) (by decide), Nat.le_trans t0.1 (by decide), fun x y e => by cases e; exact hnl⟩
        · exact ⟨_, dr, rfl, rfl, Same.da s625 Dr, okr, (gd_big gr).sm (by decide) (by decide), Nat.le_trans t1.1 (by decide), notLean_rule okr⟩
        · exact ⟨_, dl, rfl, rfl, Same.da s625 Dl, okl, (gd_big gl).sm (by decide) (by decide), Nat.le_trans t2.1 (by decide), notLean_let okl⟩
        · exact ⟨_, dw, rfl, rfl, Same.da s625 Dw, okw, (gd_big gw).sm (by decide) (by decide), Nat.le_trans t3.1 (by decide), notLean_what okw⟩
      -- for way in range(4)
      refine ⟨4, rfl, by decide, by decide, ?_⟩
      refine for_range (lo := 0) (n := 4) (fun w σ H' => ∃ (s11 : Option V), σ = [some (.ref sa), some (.int (0 + (i : Int))), some (.ref a), some (.int (0 + (j : Int))), some (.ref r), some (.ref rl), some vw, some (.str (PyData.list [dr, dl, dw]).shown), some (.ref p15), some (.ref p18), some (.ref p25), s11] ∧ Same H25 H')
        ⟨s11, rfl, Same.refl _⟩ ?_ ?_
      · rintro wy σ H26 hw4 ⟨s11', rfl, g26⟩
        obtain ⟨v, d, hv1, hv2, dv, okd, smd, ld, nld⟩ := four wy hw4
        refine ⟨_, rfl, _, rfl, p15, _, _, .str (txtOf wy d), rfl, rfl, .inl (.inl (g26 _ _ e15'')), by rw [Int.zero_add]; exact atI_nat hv1, ?_⟩
        refine ⟨_, rfl, _, rfl, p25, _, _, v, rfl, rfl, .inl (.inl (g26 _ _ e25)), by rw [Int.zero_add]; exact atI_nat hv2, ?_⟩
        refine ⟨_, rfl, wy, v, d, show [V.str (txtOf wy d), v, .int (0 + (wy : Int))] = [V.str (txtOf wy d), v, .int (wy : Int)] by rw [Int.zero_add], hw4, Same.da g26 dv, okd, smd, ld, nld, fun H27 g27 => ⟨_, rfl, ?_⟩⟩
        refine itN (by decide) ?_
        exact ⟨_, rfl, g26.trans g27⟩
      · rintro σ H26 ⟨s11', rfl, g26⟩
        have gg := s625.trans g26
        exact ⟨_, _, _, _, _, _, _, _, _, x6, c6, rfl, Same.pot gg q6, by omega, by omega, k3.trans ((k4.trans (k5.trans k6)).trans (Ka.of gg))⟩
    · rintro σ H3 ⟨s3, s4, s5, s6, s7, s8, s9, s10, s11, x3, c3, rfl, q3, hc0, hc1, k3⟩
      -- long ones
      refine ⟨_, rfl, a, x3, b, c3, rfl, q3, hb, ⟨hc0, by omega⟩, fun H4 x4 c4 q4 h1 h2 k4 => ⟨_, rfl, ?_⟩⟩
      refine itN (by decide) ?_
      have k24 := k3.trans k4
      refine ⟨_, _, _, _, _, _, _, _, _, _, _, rfl, ?_⟩
      rcases hS1 with (h | ⟨o, h⟩) | h
      · exact .inl (.inl (k24 _ _ (ne_of_none h na) (g2 _ _ h)))
      · exact .inl (.inr ⟨o, k24 _ _ (ne_of_none h na) (g2 _ _ h)⟩)
      · exact .inr h
  · rintro σ H1 _
    rfl
end
end K65
set_option Elab.async false
set_option linter.all false
set_option maxRecDepth 100000
set_option maxHeartbeats 4000000
/-! .. where the limit on figures is not touched -/
namespace Ld
open PySem PySem.Spec PyProof.Rows L2 GxR
/-- what the run is told of, and what it has to come to -/
def RunsTrueN (P : Program) (w : World) (K : PySem.W.Frag) (mg : Str → Option Value) (fa a : Addr) (tabs : List (Addr × Addr)) (ns : List Int) (s : Shared) : Prop :=
  ∀ (base : Heap) (H : Hp), K.In base → base.Ns mainGlobals mg → base.NoDigits → (∀ p ∈ tabs, TabB base mg p.1 p.2) → Env0 P w K mg base callerA [] s H → (∀ p ∈ tabs, H p.2 = some (.tbl #[])) → SqL K H a (ns.map V.int) →
    codeAny (model P w) callerA (.call (.ref fa) ⟨[.ref a], []⟩) (CR CX0 [] P w H s (fun v _ => v = .bl true) fun _ _ _ => False) s
theorem no_memN {α : Type} {x : α} (h : x ∈ ([] : List α)) : False := by cases h
section
variable {P : Program} {w : World} {K : PySem.W.Frag} {mg mb : Str → Option Value} {fa a : Addr} {tabs : List (Addr × Addr)} {s : Shared} {vs : List Value} {ns : List Int}
/-- what is seen at the start: the table, and the script where it is no written one -/
structure SeenN (K : PySem.W.Frag) (a : Addr) (tabs : List (Addr × Addr)) (H : Hp) : Prop where
  tab : ∀ p ∈ tabs, H p.2 = some (.tbl #[])
  only : ∀ b u, H b = some u → (∃ p ∈ tabs, b = p.2) ∨ (b = a ∧ ∃ o xs, u = .frz o (.lst xs))
  out : H a ≠ none → K.lookup a = none
theorem seen_runN (KX : K.In s.heap) (hns : s.heap.Ns mainGlobals mg) (hb : s.heap.Ns builtinsNs mb) (hbb : ∀ x : Str, x ≠ "__name__" → mb x = bootBuiltins x) (hlim : s.heap.NoLimit) (hnd : s.heap.NoDigits) (hg : s.gens = #[])
    (hT : ∀ p ∈ tabs, s.heap.get? p.2 = some { cls := .none, data := .fields #[] }) (nT : ∀ p ∈ tabs, K.lookup p.2 = none) (C : ∀ p ∈ tabs, PySem.W.CodeHd s.heap p.1 p.2)
    (hbm : ∃ (bm : Addr) (ob : Obj), mg "__builtins__" = some (.ref bm) ∧ bm ≠ builtinsNs ∧ s.heap.get? bm = some ob ∧ ob.cls = .type "module" ∧ ob.dict = some builtinsNs ∧ ob.data = .plain)
    (ha : s.heap.get? a = some { cls := .type "list", data := .seq vs.toArray }) (R : RunsTrueN P w K mg fa a tabs ns s) {H : Hp} (S : SeenN K a tabs H) (hok : HOk P w H s.heap) (hS : SqL K H a (ns.map V.int)) :
    codeAny (model P w) callerA (.call (.ref fa) ⟨[.ref a], []⟩) (fun r s' => r = .ok (.ret (.bool true)) ∧ OldK s.heap s'.heap ∧ s'.os = s.os ∧ AllBare s'.gens) s := by
  -- an object that is neither a list nor an empty table is not seen
  have unseen : ∀ {b : Addr} {o : Obj}, s.heap.get? b = some o → (∀ ws n, o.data ≠ .seq ws n) → o.data ≠ .fields #[] → H b = none := fun {b o} e h1 h2 => by
    cases q : H b with
    | none => rfl
    | some u =>
      exfalso
      rcases S.only b u q with ⟨p, hp, z⟩ | ⟨z, _⟩
      · rw [z, hT p hp] at e
        cases e
        exact h2 rfl
      · rw [z, ha] at e
        cases e
        exact h1 _ _ rfl
  have unseenD : ∀ {b : Addr} {o : Obj} {es : Array DictEntry} {n : Nat}, s.heap.get? b = some o → o.data = .dict es n → (hidT s.heap H).get? b = some o := fun {b o es n} e d =>
    hidT_get e (unseen e (fun ws m z => by rw [d] at z; cases z) fun z => by rw [d] at z; cases z)
  have nsUp : ∀ {b : Addr} {m : Str → Option Value}, s.heap.Ns b m → (hidT s.heap H).Ns b m := fun {b m} ⟨o, es, n, e, d, r⟩ => ⟨o, es, n, unseenD e d, d, r⟩
  have kUp : K.In (hidT s.heap H) := fun b o e => hidT_get (KX b o e) (by
    cases q : H b with
    | none => rfl
    | some u =>
      exfalso
      rcases S.only b u q with ⟨p, hp, z⟩ | ⟨z, _⟩
      · rw [z, nT p hp] at e
        cases e
      · rw [z, S.out (by rw [← z, q]; exact fun y => nomatch y)] at e
        cases e)
  have tb : ∀ p ∈ tabs, TabB (hidT s.heap H) mg p.1 p.2 := by
    intro p hp
    refine ⟨?_, ?_, fun z => ?_⟩
    · obtain ⟨o, us, file, tf, flags, tg, inF, text, tt, e1, r1, r2, r3, r⟩ := C p hp
      refine ⟨o, us, file, tf, flags, tg, inF, text, tt, hidT_get e1 (unseen e1 (fun ws n z => ?_) fun z => ?_), r1, r2, r3, r⟩
      · rw [r2] at z
        cases z
      · rw [r2] at z
        cases z
        simp at r3
    · obtain ⟨bm, ob, b1, b2, b3, b4, b5, b6⟩ := hbm
      refine ⟨bm, ob, b1, b2, fun z => ?_, fun z => ?_, hidT_get b3 (unseen b3 (fun ws n z => ?_) fun z => ?_), b4, b5, b6⟩
      · obtain ⟨o, es, n, e, d, _⟩ := hns
        rw [z, e] at b3
        cases b3
        rw [d] at b6
        cases b6
      · rw [z, hT p hp] at b3
        cases b3
        cases b6
      · rw [b6] at z
        cases z
      · rw [b6] at z
        cases z
    · obtain ⟨o, es, n, e, d, _⟩ := hns
      rw [z, hT p hp] at e
      cases e
      cases d
  have md : L2.Mod K mg (hidT s.heap H) := ⟨kUp, nsUp hns, ⟨mb, nsUp hb, hbb⟩, let ⟨mc, h1, h2⟩ := hlim; ⟨mc, nsUp h1, h2⟩⟩
  have e0 : Env0 P w K mg (hidT s.heap H) callerA [] s H := ⟨rfl, md, fun b o e => of_hidT e, Nat.le_of_eq (hidT_size _ _), trivial, fun b z => (no_memN (show b ∈ ([] : List Addr) from z)).elim, hok, .of_eq hg⟩
  refine codeAny_mono (R _ H kUp (nsUp hns) (let ⟨mc, h1, h2⟩ := hnd; ⟨mc, nsUp h1, h2⟩) tb e0 S.tab hS) fun r s' h => ?_
  match r, h with
  | .error e, h => exact (show False from h).elim
  | .ok .next, h => exact False.elim h
  | .ok .brk, h => exact False.elim h
  | .ok .cont, h => exact False.elim h
  | .ok (.ret u), h =>
    obtain ⟨v, H', os, bare, un, hok', r', q⟩ := h
    obtain rfl : v = .bl true := q
    obtain rfl : u = Value.bool true := r'
    have old : ∀ b o, (∀ p ∈ tabs, b ≠ p.2) → s.heap.get? b = some o → s'.heap.get? b = some o := fun b o nb e => by
      cases q : H b with
      | none => exact un.keep b o e q (fun z => no_memN (show b ∈ ([] : List Addr) from z)) fun z => no_memN z
      | some u =>
        rcases S.only b u q with ⟨p, hp, z⟩ | ⟨_, ob, xs, z⟩
        · exact absurd z (nb p hp)
        · rw [z] at q
          obtain ⟨e1, _⟩ := hok b _ q
          obtain ⟨e2, _⟩ := hok' b _ (un.frzs b ob _ q)
          rw [e] at e1
          cases e1
          exact e2
    have hm : ∀ p ∈ tabs, ∃ more : Array Value, s'.heap.get? p.2 = some { cls := .none, data := .fields more } := fun p hp => by
      obtain ⟨more, z⟩ := un.tbls p.2 #[] (S.tab p hp)
      exact ⟨_, hok' p.2 _ z⟩
    refine ⟨rfl, ⟨fun b o e => ?_, fun b o e => ?_⟩, os, bare⟩
    · rcases Classical.em (∃ p ∈ tabs, b = p.2) with ⟨p, hp, z⟩ | nz
      · subst z
        rw [hT p hp] at e
        cases e
        obtain ⟨more, hm⟩ := hm p hp
        exact .inr (.inl ⟨((C p hp).tab (hT p hp)).isCodeTable, rfl, #[], more, rfl, by rw [Array.empty_append]; exact hm⟩)
      · exact .inl (old b o (fun p hp z => nz ⟨p, hp, z⟩) e)
    · rcases Classical.em (∃ p ∈ tabs, b = p.2) with ⟨p, hp, z⟩ | nz
      · subst z
        obtain ⟨more, hm⟩ := hm p hp
        exact ⟨_, hm⟩
      · exact ⟨o, old b o (fun p hp z => nz ⟨p, hp, z⟩) e⟩
theorem run_of_trueN (KX : K.In s.heap) (hns : s.heap.Ns mainGlobals mg) (hb : s.heap.Ns builtinsNs mb) (hbb : ∀ x : Str, x ≠ "__name__" → mb x = bootBuiltins x) (hlim : s.heap.NoLimit) (hnd : s.heap.NoDigits) (hg : s.gens = #[])
    (hT : ∀ p ∈ tabs, s.heap.get? p.2 = some { cls := .none, data := .fields #[] }) (nT : ∀ p ∈ tabs, K.lookup p.2 = none) (C : ∀ p ∈ tabs, PySem.W.CodeHd s.heap p.1 p.2)
    (hbm : ∃ (bm : Addr) (ob : Obj), mg "__builtins__" = some (.ref bm) ∧ bm ≠ builtinsNs ∧ s.heap.get? bm = some ob ∧ ob.cls = .type "module" ∧ ob.dict = some builtinsNs ∧ ob.data = .plain)
    (ha : s.heap.get? a = some { cls := .type "list", data := .seq vs.toArray }) (hi : IntsAre vs ns) (hl : ns.length ≤ sizeLine) (R : RunsTrueN P w K mg fa a tabs ns s) :
    codeAny (model P w) callerA (.call (.ref fa) ⟨[.ref a], []⟩) (fun r s' => r = .ok (.ret (.bool true)) ∧ OldK s.heap s'.heap ∧ s'.os = s.os ∧ AllBare s'.gens) s := by
  have rv := vals_ints hi
  have lv := hi.length
  have aT : a ∉ tabs.map (·.2) := fun z => by
    obtain ⟨p, hp, e⟩ := List.mem_map.mp z
    rw [← e, hT p hp] at ha
    cases ha
  have mT : ∀ {b : Addr}, b ∈ tabs.map (·.2) → s.heap.get? b = some { cls := .none, data := .fields #[] } := fun {b} z => by
    obtain ⟨p, hp, e⟩ := List.mem_map.mp z
    rw [← e]
    exact hT p hp
  have inT : ∀ p ∈ tabs, p.2 ∈ tabs.map (·.2) := fun p hp => List.mem_map.mpr ⟨p, hp, rfl⟩
  have exT : ∀ {b : Addr}, b ∈ tabs.map (·.2) → ∃ p ∈ tabs, b = p.2 := fun {b} z => by
    obtain ⟨p, hp, e⟩ := List.mem_map.mp z
    exact ⟨p, hp, e.symm⟩
  by_cases hk : K.lookup a = none
  · -- the script is seen as it stands
    refine seen_runN KX hns hb hbb hlim hnd hg hT nT C hbm ha R (H := fun b => if b = a then some (.frz { cls := .type "list", data := .seq vs.toArray } (.lst (ns.map V.int))) else if b ∈ tabs.map (·.2) then some (.tbl #[]) else none)
      ⟨fun p hp => (if_neg (fun z => aT (by rw [← z]; exact inT p hp))).trans (if_pos (inT p hp)), fun b u e => ?_, fun _ => hk⟩ (fun b u e => ?_) (.inl (.inr ⟨_, if_pos rfl⟩))
    · by_cases z : b = a
      · exact .inr ⟨z, _, _, (Option.some.inj ((if_pos z).symm.trans e)).symm⟩
      · by_cases y : b ∈ tabs.map (·.2)
        · exact .inl (exT y)
        · exact absurd ((if_neg y).symm.trans ((if_neg z).symm.trans e)) (fun x => nomatch x)
    · by_cases z : b = a
      · have e' := Option.some.inj ((if_pos z).symm.trans e)
        subst e'
        rw [z]
        exact ⟨ha, by rw [List.length_map]; exact hl, vs, _, rv, ha⟩
      · by_cases y : b ∈ tabs.map (·.2)
        · have e' := Option.some.inj ((if_pos y).symm.trans ((if_neg z).symm.trans e))
          subst e'
          exact mT y
        · exact absurd ((if_neg y).symm.trans ((if_neg z).symm.trans e)) (fun x => nomatch x)
  · obtain ⟨o, ho⟩ := Option.ne_none_iff_exists'.mp hk
    have e := KX a o ho
    rw [ha] at e
    cases e
    refine seen_runN KX hns hb hbb hlim hnd hg hT nT C hbm ha R (H := fun b => if b ∈ tabs.map (·.2) then some (.tbl #[]) else none) ⟨fun p hp => if_pos (inT p hp), fun b u e => ?_, fun z => absurd (if_neg aT) z⟩ (fun b u e => ?_)
      (.inr ⟨_, vs.toArray, _, ho, rfl, rfl, rfl, by rw [List.size_toArray, lv]; exact hl, by simpa using rv⟩)
    · by_cases y : b ∈ tabs.map (·.2)
      · exact .inl (exT y)
      · exact absurd ((if_neg y).symm.trans e) (fun x => nomatch x)
    · by_cases y : b ∈ tabs.map (·.2)
      · have e' := Option.some.inj ((if_pos y).symm.trans e)
        subst e'
        exact mT y
      · exact absurd ((if_neg y).symm.trans e) (fun x => nomatch x)
end
end Ld
set_option Elab.async false
set_option linter.all false
set_option maxRecDepth 100000
set_option maxHeartbeats 4000000
namespace K65
open PySem L2 Ld GxR Gx Gu
theorem walk {l : PySem.W.OpenLaw} {q : Program} {loose : List Str} {XP : (Str → Option Value) → Heap → Prop} {YP : World → Heap → Prop} {d : DefRec} {K : Params → PySem.W.Frag} (hn : l.most = some 63) (hdf : d.params.defaults = [])
    (hY : ∀ (w : World) (h : Heap), YP w h → (K w.params).In h)
    (F : ∀ (w : World) (mg : Str → Option Value) (fa : Addr) (h : Heap), (K w.params).In h → h.Ns mainGlobals mg → mg d.name = some (.ref fa) → ∀ (a : Addr) (ns : List Int) (s : Shared), ns.length ≤ 63 → RunsTrueN l.prog w (K w.params) mg fa a [] ns s) :
    PySem.W.WalkO q loose XP YP l.row.toRowW d [] (fun f vs => PySem.call f vs) := by
  refine Att.attach_callB hn hdf fun w s0 s1 mg mb fa o pm cd doc a vs ns G Y ho hd hcd hmg hobj hints hlen hbits hg => ?_
  have KX := hY w _ Y
  have R := F w mg fa _ KX G.T.g hmg
  have non : ∀ {φ : Addr × Addr → Prop}, ∀ p ∈ ([] : List (Addr × Addr)), φ p := fun {φ} p hp => absurd hp (by simp)
  exact run_of_trueN KX G.T.g G.T.b G.T.builtins G.T.nolimit G.T.nodigits hg non non non G.T.bmain hobj hints (Nat.le_trans hlen (by decide)) (R a ns _ hlen)

theorem all_mk {P : Program} {w : World} {K : PySem.W.Frag} {h : Heap} {mg : Str → Option Value} {fa f0 f1 f2 f3 f4 f5 f6 f7 f8 f9 f10 f11 f12 f13 f14 f15 f16 f17 f18 f19 f20 f21 f22 f23 f24 f25 f26 f27 f28 f29 f30 f31 f32 f33 f34 f35 f36 f37 f38 f39 f40 f41 f42 f43 f44 f45 f46 f47 : Addr} (X : K.In h) (G : h.Ns mainGlobals mg) (hfa : mg "law" = some (.ref fa))
    {od0 an0 od1 an1 od2 an2 od3 an3 od4 an4 od5 an5 od6 an6 od7 an7 od8 an8 od9 an9 od10 an10 od11 an11 od12 an12 od13 an13 od14 an14 od15 an15 od16 an16 od17 an17 od18 an18 od19 an19 od20 an20 od21 an21 od22 an22 od23 an23 od24 an24 od25 an25 od26 an26 od27 an27 od28 an28 od29 an29 od30 an30 od31 an31 od32 an32 od33 an33 od34 an34 od35 an35 od36 an36 od37 an37 od38 an38 od39 an39 od40 an40 od41 an41 od42 an42 od43 an43 od44 an44 od45 an45 od46 an46 od47 an47 : Option Addr} {sl0 sl1 sl2 sl3 sl4 sl5 sl6 sl7 sl8 sl9 sl10 sl11 sl12 sl13 sl14 sl15 sl16 sl17 sl18 sl19 sl20 sl21 sl22 sl23 sl24 sl25 sl26 sl27 sl28 sl29 sl30 sl31 sl32 sl33 sl34 sl35 sl36 sl37 sl38 sl39 sl40 sl41 sl42 sl43 sl44 sl45 sl46 sl47 : Array (Option Value)} {oc0 kV0 dc0 pm0 ct0 cd0 oc1 kV1 dc1 pm1 ct1 cd1 oc2 kV2 dc2 pm2 ct2 cd2 oc3 kV3 dc3 pm3 ct3 cd3 oc4 kV4 dc4 pm4 ct4 cd4 oc5 kV5 dc5 pm5 ct5 cd5 oc6 kV6 dc6 pm6 ct6 cd6 oc7 kV7 dc7 pm7 ct7 cd7 oc8 kV8 dc8 pm8 ct8 cd8 oc9 kV9 dc9 pm9 ct9 cd9 oc10 kV10 dc10 pm10 ct10 cd10 oc11 kV11 dc11 pm11 ct11 cd11 oc12 kV12 dc12 pm12 ct12 cd12 oc13 kV13 dc13 pm13 ct13 cd13 oc14 kV14 dc14 pm14 ct14 cd14 oc15 kV15 dc15 pm15 ct15 cd15 oc16 kV16 dc16 pm16 ct16 cd16 oc17 kV17 dc17 pm17 ct17 cd17 oc18 kV18 dc18 pm18 ct18 cd18 oc19 kV19 dc19 pm19 ct19 cd19 oc20 kV20 dc20 pm20 ct20 cd20 oc21 kV21 dc21 pm21 ct21 cd21 oc22 kV22 dc22 pm22 ct22 cd22 oc23 kV23 dc23 pm23 ct23 cd23 oc24 kV24 dc24 pm24 ct24 cd24 oc25 kV25 dc25 pm25 ct25 cd25 oc26 kV26 dc26 pm26 ct26 cd26 oc27 kV27 dc27 pm27 ct27 cd27 oc28 kV28 dc28 pm28 ct28 cd28 oc29 kV29 dc29 pm29 ct29 cd29 oc30 kV30 dc30 pm30 ct30 cd30 oc31 kV31 dc31 pm31 ct31 cd31 oc32 kV32 dc32 pm32 ct32 cd32 oc33 kV33 dc33 pm33 ct33 cd33 oc34 kV34 dc34 pm34 ct34 cd34 oc35 kV35 dc35 pm35 ct35 cd35 oc36 kV36 dc36 pm36 ct36 cd36 oc37 kV37 dc37 pm37 ct37 cd37 oc38 kV38 dc38 pm38 ct38 cd38 oc39 kV39 dc39 pm39 ct39 cd39 oc40 kV40 dc40 pm40 ct40 cd40 oc41 kV41 dc41 pm41 ct41 cd41 oc42 kV42 dc42 pm42 ct42 cd42 oc43 kV43 dc43 pm43 ct43 cd43 oc44 kV44 dc44 pm44 ct44 cd44 oc45 kV45 dc45 pm45 ct45 cd45 oc46 kV46 dc46 pm46 ct46 cd46 oc47 kV47 dc47 pm47 ct47 cd47 : Value}
    (a0 : PySem.W.nsIn K mainGlobals "figures_of" = some (some (.ref f0))) (l0 : K.lookup f0 = some ⟨oc0, od0, .func (PySem.W.fnOf "figures_of" "figures_of" (defArgs s_figures_of) (defBody s_figures_of) (defScope s_figures_of) .none kV0 dc0 pm0 an0 cd0 ct0), sl0⟩) (d0 : PySem.W.codeIn K cd0 "figures_of" = true) (k0 : PySem.W.keepIn K (.ref f0) = true)
    (a1 : PySem.W.nsIn K mainGlobals "number_in" = some (some (.ref f1))) (l1 : K.lookup f1 = some ⟨oc1, od1, .func (PySem.W.fnOf "number_in" "number_in" (defArgs s_number_in) (defBody s_number_in) (defScope s_number_in) .none kV1 dc1 pm1 an1 cd1 ct1), sl1⟩) (d1 : PySem.W.codeIn K cd1 "number_in" = true) (k1 : PySem.W.keepIn K (.ref f1) = true)
    (a2 : PySem.W.nsIn K mainGlobals "is_whole" = some (some (.ref f2))) (l2 : K.lookup f2 = some ⟨oc2, od2, .func (PySem.W.fnOf "is_whole" "is_whole" (defArgs s_is_whole) (defBody s_is_whole) (defScope s_is_whole) .none kV2 dc2 pm2 an2 cd2 ct2), sl2⟩) (d2 : PySem.W.codeIn K cd2 "is_whole" = true) (k2 : PySem.W.keepIn K (.ref f2) = true)
    (a3 : PySem.W.nsIn K mainGlobals "is_name" = some (some (.ref f3))) (l3 : K.lookup f3 = some ⟨oc3, od3, .func (PySem.W.fnOf "is_name" "is_name" (defArgs s_is_name) (defBody s_is_name) (defScope s_is_name) .none kV3 dc3 pm3 an3 cd3 ct3), sl3⟩) (d3 : PySem.W.codeIn K cd3 "is_name" = true) (k3 : PySem.W.keepIn K (.ref f3) = true)
    (a4 : PySem.W.nsIn K mainGlobals "are_small_letters" = some (some (.ref f4))) (l4 : K.lookup f4 = some ⟨oc4, od4, .func (PySem.W.fnOf "are_small_letters" "are_small_letters" (defArgs s_are_small_letters) (defBody s_are_small_letters) (defScope s_are_small_letters) .none kV4 dc4 pm4 an4 cd4 ct4), sl4⟩) (d4 : PySem.W.codeIn K cd4 "are_small_letters" = true) (k4 : PySem.W.keepIn K (.ref f4) = true)
    (a5 : PySem.W.nsIn K mainGlobals "is_place" = some (some (.ref f5))) (l5 : K.lookup f5 = some ⟨oc5, od5, .func (PySem.W.fnOf "is_place" "is_place" (defArgs s_is_place) (defBody s_is_place) (defScope s_is_place) .none kV5 dc5 pm5 an5 cd5 ct5), sl5⟩) (d5 : PySem.W.codeIn K cd5 "is_place" = true) (k5 : PySem.W.keepIn K (.ref f5) = true)
    (a6 : PySem.W.nsIn K mainGlobals "are_pairs" = some (some (.ref f6))) (l6 : K.lookup f6 = some ⟨oc6, od6, .func (PySem.W.fnOf "are_pairs" "are_pairs" (defArgs s_are_pairs) (defBody s_are_pairs) (defScope s_are_pairs) .none kV6 dc6 pm6 an6 cd6 ct6), sl6⟩) (d6 : PySem.W.codeIn K cd6 "are_pairs" = true) (k6 : PySem.W.keepIn K (.ref f6) = true)
    (a7 : PySem.W.nsIn K mainGlobals "are_of_names" = some (some (.ref f7))) (l7 : K.lookup f7 = some ⟨oc7, od7, .func (PySem.W.fnOf "are_of_names" "are_of_names" (defArgs s_are_of_names) (defBody s_are_of_names) (defScope s_are_of_names) .none kV7 dc7 pm7 an7 cd7 ct7), sl7⟩) (d7 : PySem.W.codeIn K cd7 "are_of_names" = true) (k7 : PySem.W.keepIn K (.ref f7) = true)
    (a8 : PySem.W.nsIn K mainGlobals "is_rule" = some (some (.ref f8))) (l8 : K.lookup f8 = some ⟨oc8, od8, .func (PySem.W.fnOf "is_rule" "is_rule" (defArgs s_is_rule) (defBody s_is_rule) (defScope s_is_rule) .none kV8 dc8 pm8 an8 cd8 ct8), sl8⟩) (d8 : PySem.W.codeIn K cd8 "is_rule" = true) (k8 : PySem.W.keepIn K (.ref f8) = true)
    (a9 : PySem.W.nsIn K mainGlobals "is_world" = some (some (.ref f9))) (l9 : K.lookup f9 = some ⟨oc9, od9, .func (PySem.W.fnOf "is_world" "is_world" (defArgs s_is_world) (defBody s_is_world) (defScope s_is_world) .none kV9 dc9 pm9 an9 cd9 ct9), sl9⟩) (d9 : PySem.W.codeIn K cd9 "is_world" = true) (k9 : PySem.W.keepIn K (.ref f9) = true)
    (a10 : PySem.W.nsIn K mainGlobals "places_in" = some (some (.ref f10))) (l10 : K.lookup f10 = some ⟨oc10, od10, .func (PySem.W.fnOf "places_in" "places_in" (defArgs s_places_in) (defBody s_places_in) (defScope s_places_in) .none kV10 dc10 pm10 an10 cd10 ct10), sl10⟩) (d10 : PySem.W.codeIn K cd10 "places_in" = true) (k10 : PySem.W.keepIn K (.ref f10) = true)
    (a11 : PySem.W.nsIn K mainGlobals "are_unlike" = some (some (.ref f11))) (l11 : K.lookup f11 = some ⟨oc11, od11, .func (PySem.W.fnOf "are_unlike" "are_unlike" (defArgs s_are_unlike) (defBody s_are_unlike) (defScope s_are_unlike) .none kV11 dc11 pm11 an11 cd11 ct11), sl11⟩) (d11 : PySem.W.codeIn K cd11 "are_unlike" = true) (k11 : PySem.W.keepIn K (.ref f11) = true)
    (a12 : PySem.W.nsIn K mainGlobals "premises_in" = some (some (.ref f12))) (l12 : K.lookup f12 = some ⟨oc12, od12, .func (PySem.W.fnOf "premises_in" "premises_in" (defArgs s_premises_in) (defBody s_premises_in) (defScope s_premises_in) .none kV12 dc12 pm12 an12 cd12 ct12), sl12⟩) (d12 : PySem.W.codeIn K cd12 "premises_in" = true) (k12 : PySem.W.keepIn K (.ref f12) = true)
    (a13 : PySem.W.nsIn K mainGlobals "is_letter" = some (some (.ref f13))) (l13 : K.lookup f13 = some ⟨oc13, od13, .func (PySem.W.fnOf "is_letter" "is_letter" (defArgs s_is_letter) (defBody s_is_letter) (defScope s_is_letter) .none kV13 dc13 pm13 an13 cd13 ct13), sl13⟩) (d13 : PySem.W.codeIn K cd13 "is_letter" = true) (k13 : PySem.W.keepIn K (.ref f13) = true)
    (a14 : PySem.W.nsIn K mainGlobals "is_worded" = some (some (.ref f14))) (l14 : K.lookup f14 = some ⟨oc14, od14, .func (PySem.W.fnOf "is_worded" "is_worded" (defArgs s_is_worded) (defBody s_is_worded) (defScope s_is_worded) .none kV14 dc14 pm14 an14 cd14 ct14), sl14⟩) (d14 : PySem.W.codeIn K cd14 "is_worded" = true) (k14 : PySem.W.keepIn K (.ref f14) = true)
    (a15 : PySem.W.nsIn K mainGlobals "is_what" = some (some (.ref f15))) (l15 : K.lookup f15 = some ⟨oc15, od15, .func (PySem.W.fnOf "is_what" "is_what" (defArgs s_is_what) (defBody s_is_what) (defScope s_is_what) .none kV15 dc15 pm15 an15 cd15 ct15), sl15⟩) (d15 : PySem.W.codeIn K cd15 "is_what" = true) (k15 : PySem.W.keepIn K (.ref f15) = true)
    (a16 : PySem.W.nsIn K mainGlobals "place_words" = some (some (.ref f16))) (l16 : K.lookup f16 = some ⟨oc16, od16, .func (PySem.W.fnOf "place_words" "place_words" (defArgs s_place_words) (defBody s_place_words) (defScope s_place_words) .none kV16 dc16 pm16 an16 cd16 ct16), sl16⟩) (d16 : PySem.W.codeIn K cd16 "place_words" = true) (k16 : PySem.W.keepIn K (.ref f16) = true)
    (a17 : PySem.W.nsIn K mainGlobals "letter_words" = some (some (.ref f17))) (l17 : K.lookup f17 = some ⟨oc17, od17, .func (PySem.W.fnOf "letter_words" "letter_words" (defArgs s_letter_words) (defBody s_letter_words) (defScope s_letter_words) .none kV17 dc17 pm17 an17 cd17 ct17), sl17⟩) (d17 : PySem.W.codeIn K cd17 "letter_words" = true) (k17 : PySem.W.keepIn K (.ref f17) = true)
    (a18 : PySem.W.nsIn K mainGlobals "show_place" = some (some (.ref f18))) (l18 : K.lookup f18 = some ⟨oc18, od18, .func (PySem.W.fnOf "show_place" "show_place" (defArgs s_show_place) (defBody s_show_place) (defScope s_show_place) .none kV18 dc18 pm18 an18 cd18 ct18), sl18⟩) (d18 : PySem.W.codeIn K cd18 "show_place" = true) (k18 : PySem.W.keepIn K (.ref f18) = true)
    (a19 : PySem.W.nsIn K mainGlobals "show_rule" = some (some (.ref f19))) (l19 : K.lookup f19 = some ⟨oc19, od19, .func (PySem.W.fnOf "show_rule" "show_rule" (defArgs s_show_rule) (defBody s_show_rule) (defScope s_show_rule) .none kV19 dc19 pm19 an19 cd19 ct19), sl19⟩) (d19 : PySem.W.codeIn K cd19 "show_rule" = true) (k19 : PySem.W.keepIn K (.ref f19) = true)
    (a20 : PySem.W.nsIn K mainGlobals "show_letter" = some (some (.ref f20))) (l20 : K.lookup f20 = some ⟨oc20, od20, .func (PySem.W.fnOf "show_letter" "show_letter" (defArgs s_show_letter) (defBody s_show_letter) (defScope s_show_letter) .none kV20 dc20 pm20 an20 cd20 ct20), sl20⟩) (d20 : PySem.W.codeIn K cd20 "show_letter" = true) (k20 : PySem.W.keepIn K (.ref f20) = true)
    (a21 : PySem.W.nsIn K mainGlobals "show_what" = some (some (.ref f21))) (l21 : K.lookup f21 = some ⟨oc21, od21, .func (PySem.W.fnOf "show_what" "show_what" (defArgs s_show_what) (defBody s_show_what) (defScope s_show_what) .none kV21 dc21 pm21 an21 cd21 ct21), sl21⟩) (d21 : PySem.W.codeIn K cd21 "show_what" = true) (k21 : PySem.W.keepIn K (.ref f21) = true)
    (a22 : PySem.W.nsIn K mainGlobals "words_of" = some (some (.ref f22))) (l22 : K.lookup f22 = some ⟨oc22, od22, .func (PySem.W.fnOf "words_of" "words_of" (defArgs s_words_of) (defBody s_words_of) (defScope s_words_of) .none kV22 dc22 pm22 an22 cd22 ct22), sl22⟩) (d22 : PySem.W.codeIn K cd22 "words_of" = true) (k22 : PySem.W.keepIn K (.ref f22) = true)
    (a23 : PySem.W.nsIn K mainGlobals "place_in" = some (some (.ref f23))) (l23 : K.lookup f23 = some ⟨oc23, od23, .func (PySem.W.fnOf "place_in" "place_in" (defArgs s_place_in) (defBody s_place_in) (defScope s_place_in) .none kV23 dc23 pm23 an23 cd23 ct23), sl23⟩) (d23 : PySem.W.codeIn K cd23 "place_in" = true) (k23 : PySem.W.keepIn K (.ref f23) = true)
    (a24 : PySem.W.nsIn K mainGlobals "letter_in" = some (some (.ref f24))) (l24 : K.lookup f24 = some ⟨oc24, od24, .func (PySem.W.fnOf "letter_in" "letter_in" (defArgs s_letter_in) (defBody s_letter_in) (defScope s_letter_in) .none kV24 dc24 pm24 an24 cd24 ct24), sl24⟩) (d24 : PySem.W.codeIn K cd24 "letter_in" = true) (k24 : PySem.W.keepIn K (.ref f24) = true)
    (a25 : PySem.W.nsIn K mainGlobals "rule_in" = some (some (.ref f25))) (l25 : K.lookup f25 = some ⟨oc25, od25, .func (PySem.W.fnOf "rule_in" "rule_in" (defArgs s_rule_in) (defBody s_rule_in) (defScope s_rule_in) .none kV25 dc25 pm25 an25 cd25 ct25), sl25⟩) (d25 : PySem.W.codeIn K cd25 "rule_in" = true) (k25 : PySem.W.keepIn K (.ref f25) = true)
    (a26 : PySem.W.nsIn K mainGlobals "what_in" = some (some (.ref f26))) (l26 : K.lookup f26 = some ⟨oc26, od26, .func (PySem.W.fnOf "what_in" "what_in" (defArgs s_what_in) (defBody s_what_in) (defScope s_what_in) .none kV26 dc26 pm26 an26 cd26 ct26), sl26⟩) (d26 : PySem.W.codeIn K cd26 "what_in" = true) (k26 : PySem.W.keepIn K (.ref f26) = true)
    (a27 : PySem.W.nsIn K mainGlobals "read_place" = some (some (.ref f27))) (l27 : K.lookup f27 = some ⟨oc27, od27, .func (PySem.W.fnOf "read_place" "read_place" (defArgs s_read_place) (defBody s_read_place) (defScope s_read_place) .none kV27 dc27 pm27 an27 cd27 ct27), sl27⟩) (d27 : PySem.W.codeIn K cd27 "read_place" = true) (k27 : PySem.W.keepIn K (.ref f27) = true)
    (a28 : PySem.W.nsIn K mainGlobals "read_rule" = some (some (.ref f28))) (l28 : K.lookup f28 = some ⟨oc28, od28, .func (PySem.W.fnOf "read_rule" "read_rule" (defArgs s_read_rule) (defBody s_read_rule) (defScope s_read_rule) .none kV28 dc28 pm28 an28 cd28 ct28), sl28⟩) (d28 : PySem.W.codeIn K cd28 "read_rule" = true) (k28 : PySem.W.keepIn K (.ref f28) = true)
    (a29 : PySem.W.nsIn K mainGlobals "read_letter" = some (some (.ref f29))) (l29 : K.lookup f29 = some ⟨oc29, od29, .func (PySem.W.fnOf "read_letter" "read_letter" (defArgs s_read_letter) (defBody s_read_letter) (defScope s_read_letter) .none kV29 dc29 pm29 an29 cd29 ct29), sl29⟩) (d29 : PySem.W.codeIn K cd29 "read_letter" = true) (k29 : PySem.W.keepIn K (.ref f29) = true)
    (a30 : PySem.W.nsIn K mainGlobals "read_what" = some (some (.ref f30))) (l30 : K.lookup f30 = some ⟨oc30, od30, .func (PySem.W.fnOf "read_what" "read_what" (defArgs s_read_what) (defBody s_read_what) (defScope s_read_what) .none kV30 dc30 pm30 an30 cd30 ct30), sl30⟩) (d30 : PySem.W.codeIn K cd30 "read_what" = true) (k30 : PySem.W.keepIn K (.ref f30) = true)
    (a31 : PySem.W.nsIn K mainGlobals "_law_pot" = some (some (.ref f31))) (l31 : K.lookup f31 = some ⟨oc31, od31, .func (PySem.W.fnOf "_law_pot" "_law_pot" (defArgs s__law_pot) (defBody s__law_pot) (defScope s__law_pot) .none kV31 dc31 pm31 an31 cd31 ct31), sl31⟩) (d31 : PySem.W.codeIn K cd31 "_law_pot" = true) (k31 : PySem.W.keepIn K (.ref f31) = true)
    (a32 : PySem.W.nsIn K mainGlobals "_law_dip" = some (some (.ref f32))) (l32 : K.lookup f32 = some ⟨oc32, od32, .func (PySem.W.fnOf "_law_dip" "_law_dip" (defArgs s__law_dip) (defBody s__law_dip) (defScope s__law_dip) .none kV32 dc32 pm32 an32 cd32 ct32), sl32⟩) (d32 : PySem.W.codeIn K cd32 "_law_dip" = true) (k32 : PySem.W.keepIn K (.ref f32) = true)
    (a33 : PySem.W.nsIn K mainGlobals "_law_some" = some (some (.ref f33))) (l33 : K.lookup f33 = some ⟨oc33, od33, .func (PySem.W.fnOf "_law_some" "_law_some" (defArgs s__law_some) (defBody s__law_some) (defScope s__law_some) .none kV33 dc33 pm33 an33 cd33 ct33), sl33⟩) (d33 : PySem.W.codeIn K cd33 "_law_some" = true) (k33 : PySem.W.keepIn K (.ref f33) = true)
    (a34 : PySem.W.nsIn K mainGlobals "_law_pairs" = some (some (.ref f34))) (l34 : K.lookup f34 = some ⟨oc34, od34, .func (PySem.W.fnOf "_law_pairs" "_law_pairs" (defArgs s__law_pairs) (defBody s__law_pairs) (defScope s__law_pairs) .none kV34 dc34 pm34 an34 cd34 ct34), sl34⟩) (d34 : PySem.W.codeIn K cd34 "_law_pairs" = true) (k34 : PySem.W.keepIn K (.ref f34) = true)
    (a35 : PySem.W.nsIn K mainGlobals "_law_premises" = some (some (.ref f35))) (l35 : K.lookup f35 = some ⟨oc35, od35, .func (PySem.W.fnOf "_law_premises" "_law_premises" (defArgs s__law_premises) (defBody s__law_premises) (defScope s__law_premises) .none kV35 dc35 pm35 an35 cd35 ct35), sl35⟩) (d35 : PySem.W.codeIn K cd35 "_law_premises" = true) (k35 : PySem.W.keepIn K (.ref f35) = true)
    (a36 : PySem.W.nsIn K mainGlobals "_law_name" = some (some (.ref f36))) (l36 : K.lookup f36 = some ⟨oc36, od36, .func (PySem.W.fnOf "_law_name" "_law_name" (defArgs s__law_name) (defBody s__law_name) (defScope s__law_name) .none kV36 dc36 pm36 an36 cd36 ct36), sl36⟩) (d36 : PySem.W.codeIn K cd36 "_law_name" = true) (k36 : PySem.W.keepIn K (.ref f36) = true)
    (a37 : PySem.W.nsIn K mainGlobals "_law_letter" = some (some (.ref f37))) (l37 : K.lookup f37 = some ⟨oc37, od37, .func (PySem.W.fnOf "_law_letter" "_law_letter" (defArgs s__law_letter) (defBody s__law_letter) (defScope s__law_letter) .none kV37 dc37 pm37 an37 cd37 ct37), sl37⟩) (d37 : PySem.W.codeIn K cd37 "_law_letter" = true) (k37 : PySem.W.keepIn K (.ref f37) = true)
    (a38 : PySem.W.nsIn K mainGlobals "_law_what" = some (some (.ref f38))) (l38 : K.lookup f38 = some ⟨oc38, od38, .func (PySem.W.fnOf "_law_what" "_law_what" (defArgs s__law_what) (defBody s__law_what) (defScope s__law_what) .none kV38 dc38 pm38 an38 cd38 ct38), sl38⟩) (d38 : PySem.W.codeIn K cd38 "_law_what" = true) (k38 : PySem.W.keepIn K (.ref f38) = true)
    (a39 : PySem.W.nsIn K mainGlobals "_law_place_text" = some (some (.ref f39))) (l39 : K.lookup f39 = some ⟨oc39, od39, .func (PySem.W.fnOf "_law_place_text" "_law_place_text" (defArgs s__law_place_text) (defBody s__law_place_text) (defScope s__law_place_text) .none kV39 dc39 pm39 an39 cd39 ct39), sl39⟩) (d39 : PySem.W.codeIn K cd39 "_law_place_text" = true) (k39 : PySem.W.keepIn K (.ref f39) = true)
    (a40 : PySem.W.nsIn K mainGlobals "_law_rule_text" = some (some (.ref f40))) (l40 : K.lookup f40 = some ⟨oc40, od40, .func (PySem.W.fnOf "_law_rule_text" "_law_rule_text" (defArgs s__law_rule_text) (defBody s__law_rule_text) (defScope s__law_rule_text) .none kV40 dc40 pm40 an40 cd40 ct40), sl40⟩) (d40 : PySem.W.codeIn K cd40 "_law_rule_text" = true) (k40 : PySem.W.keepIn K (.ref f40) = true)
    (a41 : PySem.W.nsIn K mainGlobals "_law_words" = some (some (.ref f41))) (l41 : K.lookup f41 = some ⟨oc41, od41, .func (PySem.W.fnOf "_law_words" "_law_words" (defArgs s__law_words) (defBody s__law_words) (defScope s__law_words) .none kV41 dc41 pm41 an41 cd41 ct41), sl41⟩) (d41 : PySem.W.codeIn K cd41 "_law_words" = true) (k41 : PySem.W.keepIn K (.ref f41) = true)
    (a42 : PySem.W.nsIn K mainGlobals "_law_what_text" = some (some (.ref f42))) (l42 : K.lookup f42 = some ⟨oc42, od42, .func (PySem.W.fnOf "_law_what_text" "_law_what_text" (defArgs s__law_what_text) (defBody s__law_what_text) (defScope s__law_what_text) .none kV42 dc42 pm42 an42 cd42 ct42), sl42⟩) (d42 : PySem.W.codeIn K cd42 "_law_what_text" = true) (k42 : PySem.W.keepIn K (.ref f42) = true)
    (a43 : PySem.W.nsIn K mainGlobals "_law_same" = some (some (.ref f43))) (l43 : K.lookup f43 = some ⟨oc43, od43, .func (PySem.W.fnOf "_law_same" "_law_same" (defArgs s__law_same) (defBody s__law_same) (defScope s__law_same) .none kV43 dc43 pm43 an43 cd43 ct43), sl43⟩) (d43 : PySem.W.codeIn K cd43 "_law_same" = true) (k43 : PySem.W.keepIn K (.ref f43) = true)
    (a44 : PySem.W.nsIn K mainGlobals "_law_rule" = some (some (.ref f44))) (l44 : K.lookup f44 = some ⟨oc44, od44, .func (PySem.W.fnOf "_law_rule" "_law_rule" (defArgs s__law_rule) (defBody s__law_rule) (defScope s__law_rule) .none kV44 dc44 pm44 an44 cd44 ct44), sl44⟩) (d44 : PySem.W.codeIn K cd44 "_law_rule" = true) (k44 : PySem.W.keepIn K (.ref f44) = true)
    (a45 : PySem.W.nsIn K mainGlobals "_law_back_right" = some (some (.ref f45))) (l45 : K.lookup f45 = some ⟨oc45, od45, .func (PySem.W.fnOf "_law_back_right" "_law_back_right" (defArgs s__law_back_right) (defBody s__law_back_right) (defScope s__law_back_right) .none kV45 dc45 pm45 an45 cd45 ct45), sl45⟩) (d45 : PySem.W.codeIn K cd45 "_law_back_right" = true) (k45 : PySem.W.keepIn K (.ref f45) = true)
    (a46 : PySem.W.nsIn K mainGlobals "_law_long_right" = some (some (.ref f46))) (l46 : K.lookup f46 = some ⟨oc46, od46, .func (PySem.W.fnOf "_law_long_right" "_law_long_right" (defArgs s__law_long_right) (defBody s__law_long_right) (defScope s__law_long_right) .none kV46 dc46 pm46 an46 cd46 ct46), sl46⟩) (d46 : PySem.W.codeIn K cd46 "_law_long_right" = true) (k46 : PySem.W.keepIn K (.ref f46) = true)
    (a47 : PySem.W.nsIn K mainGlobals "law" = some (some (.ref f47))) (l47 : K.lookup f47 = some ⟨oc47, od47, .func (PySem.W.fnOf "law" "law" (defArgs s_law) (defBody s_law) (defScope s_law) .none kV47 dc47 pm47 an47 cd47 ct47), sl47⟩) (d47 : PySem.W.codeIn K cd47 "law" = true) (k47 : PySem.W.keepIn K (.ref f47) = true)
    (z_type : PySem.W.nsIn K mainGlobals "type" = some none)
    (z_str : PySem.W.nsIn K mainGlobals "str" = some none)
    (z_tuple : PySem.W.nsIn K mainGlobals "tuple" = some none)
    (z_list : PySem.W.nsIn K mainGlobals "list" = some none)
    (z_int : PySem.W.nsIn K mainGlobals "int" = some none)
    (z_set : PySem.W.nsIn K mainGlobals "set" = some none)
    (z_len : PySem.W.nsIn K mainGlobals "len" = some none)
    (z_all : PySem.W.nsIn K mainGlobals "all" = some none)
    (z_max : PySem.W.nsIn K mainGlobals "max" = some none)
    (z_min : PySem.W.nsIn K mainGlobals "min" = some none)
    (z_range : PySem.W.nsIn K mainGlobals "range" = some none)
    (z_repr : PySem.W.nsIn K mainGlobals "repr" = some none)
    (z_divmod : PySem.W.nsIn K mainGlobals "divmod" = some none)
    {fPA : Addr} {esP : Array DictEntry} {nP : Nat} (aPA : PySem.W.nsIn K mainGlobals "PARTS" = some (some (.ref fPA))) (lPA : K.lookup fPA = some ⟨.type "dict", none, .dict esP nP, #[]⟩) (kPA : PySem.W.KeysLit w.params esP.toList) (iPA : LitI esP.toList partsP) (sPA : (fPA == sysModules) = false)
    {tGR : Tok} (aGR : PySem.W.nsIn K mainGlobals "GREAT" = some (some (.int (10 ^ 64) tGR)))
    {tAT : Tok} (aAT : PySem.W.nsIn K mainGlobals "AT_ONCE" = some (some (.int 64 tAT)))
    : ∀ (a : Addr) (ns : List Int) (s : Shared), ns.length ≤ 63 → RunsTrueN P w K mg fa a [] ns s := by
  have e := hfa.symm.trans (PySem.W.mg_of X G a47)
  cases e
  have F0 := fun_mk (st := s_figures_of) l0 d0 k0
  have b0 := F0.binds (ps := ["number"]) fun _ _ _ _ _ _ us hl => match us, hl with | [_], _ => rfl
  have F1 := fun_mk (st := s_number_in) l1 d1 k1
  have b1 := F1.binds (ps := ["word"]) fun _ _ _ _ _ _ us hl => match us, hl with | [_], _ => rfl
  have F2 := fun_mk (st := s_is_whole) l2 d2 k2
  have b2 := F2.binds (ps := ["thing"]) fun _ _ _ _ _ _ us hl => match us, hl with | [_], _ => rfl
  have F3 := fun_mk (st := s_is_name) l3 d3 k3
  have b3 := F3.binds (ps := ["thing"]) fun _ _ _ _ _ _ us hl => match us, hl with | [_], _ => rfl
  have F4 := fun_mk (st := s_are_small_letters) l4 d4 k4
  have b4 := F4.binds (ps := ["text"]) fun _ _ _ _ _ _ us hl => match us, hl with | [_], _ => rfl
  have F5 := fun_mk (st := s_is_place) l5 d5 k5
  have b5 := F5.binds (ps := ["thing"]) fun _ _ _ _ _ _ us hl => match us, hl with | [_], _ => rfl
  have F6 := fun_mk (st := s_are_pairs) l6 d6 k6
  have b6 := F6.binds (ps := ["things"]) fun _ _ _ _ _ _ us hl => match us, hl with | [_], _ => rfl
  have F7 := fun_mk (st := s_are_of_names) l7 d7 k7
  have b7 := F7.binds (ps := ["pairs"]) fun _ _ _ _ _ _ us hl => match us, hl with | [_], _ => rfl
  have F8 := fun_mk (st := s_is_rule) l8 d8 k8
  have b8 := F8.binds (ps := ["thing"]) fun _ _ _ _ _ _ us hl => match us, hl with | [_], _ => rfl
  have F9 := fun_mk (st := s_is_world) l9 d9 k9
  have b9 := F9.binds (ps := ["thing"]) fun _ _ _ _ _ _ us hl => match us, hl with | [_], _ => rfl
  have F10 := fun_mk (st := s_places_in) l10 d10 k10
  have b10 := F10.binds (ps := ["thing"]) fun _ _ _ _ _ _ us hl => match us, hl with | [_], _ => rfl
  have F11 := fun_mk (st := s_are_unlike) l11 d11 k11
  have b11 := F11.binds (ps := ["pairs"]) fun _ _ _ _ _ _ us hl => match us, hl with | [_], _ => rfl
  have F12 := fun_mk (st := s_premises_in) l12 d12 k12
  have b12 := F12.binds (ps := ["thing"]) fun _ _ _ _ _ _ us hl => match us, hl with | [_], _ => rfl
  have F13 := fun_mk (st := s_is_letter) l13 d13 k13
  have b13 := F13.binds (ps := ["thing"]) fun _ _ _ _ _ _ us hl => match us, hl with | [_], _ => rfl
  have F14 := fun_mk (st := s_is_worded) l14 d14 k14
  have b14 := F14.binds (ps := ["thing"]) fun _ _ _ _ _ _ us hl => match us, hl with | [_], _ => rfl
  have F15 := fun_mk (st := s_is_what) l15 d15 k15
  have b15 := F15.binds (ps := ["thing"]) fun _ _ _ _ _ _ us hl => match us, hl with | [_], _ => rfl
  have F16 := fun_mk (st := s_place_words) l16 d16 k16
  have b16 := F16.binds (ps := ["place"]) fun _ _ _ _ _ _ us hl => match us, hl with | [_], _ => rfl
  have F17 := fun_mk (st := s_letter_words) l17 d17 k17
  have b17 := F17.binds (ps := ["letter"]) fun _ _ _ _ _ _ us hl => match us, hl with | [_], _ => rfl
  have F18 := fun_mk (st := s_show_place) l18 d18 k18
  have b18 := F18.binds (ps := ["place"]) fun _ _ _ _ _ _ us hl => match us, hl with | [_], _ => rfl
  have F19 := fun_mk (st := s_show_rule) l19 d19 k19
  have b19 := F19.binds (ps := ["rule"]) fun _ _ _ _ _ _ us hl => match us, hl with | [_], _ => rfl
  have F20 := fun_mk (st := s_show_letter) l20 d20 k20
  have b20 := F20.binds (ps := ["letter"]) fun _ _ _ _ _ _ us hl => match us, hl with | [_], _ => rfl
  have F21 := fun_mk (st := s_show_what) l21 d21 k21
  have b21 := F21.binds (ps := ["what"]) fun _ _ _ _ _ _ us hl => match us, hl with | [_], _ => rfl
  have F22 := fun_mk (st := s_words_of) l22 d22 k22
  have b22 := F22.binds (ps := ["text"]) fun _ _ _ _ _ _ us hl => match us, hl with | [_], _ => rfl
  have F23 := fun_mk (st := s_place_in) l23 d23 k23
  have b23 := F23.binds (ps := ["word"]) fun _ _ _ _ _ _ us hl => match us, hl with | [_], _ => rfl
  have F24 := fun_mk (st := s_letter_in) l24 d24 k24
  have b24 := F24.binds (ps := ["words"]) fun _ _ _ _ _ _ us hl => match us, hl with | [_], _ => rfl
  have F25 := fun_mk (st := s_rule_in) l25 d25 k25
  have b25 := F25.binds (ps := ["words"]) fun _ _ _ _ _ _ us hl => match us, hl with | [_], _ => rfl
  have F26 := fun_mk (st := s_what_in) l26 d26 k26
  have b26 := F26.binds (ps := ["words"]) fun _ _ _ _ _ _ us hl => match us, hl with | [_], _ => rfl
  have F27 := fun_mk (st := s_read_place) l27 d27 k27
  have b27 := F27.binds (ps := ["text"]) fun _ _ _ _ _ _ us hl => match us, hl with | [_], _ => rfl
  have F28 := fun_mk (st := s_read_rule) l28 d28 k28
  have b28 := F28.binds (ps := ["text"]) fun _ _ _ _ _ _ us hl => match us, hl with | [_], _ => rfl
  have F29 := fun_mk (st := s_read_letter) l29 d29 k29
  have b29 := F29.binds (ps := ["text"]) fun _ _ _ _ _ _ us hl => match us, hl with | [_], _ => rfl
  have F30 := fun_mk (st := s_read_what) l30 d30 k30
  have b30 := F30.binds (ps := ["text"]) fun _ _ _ _ _ _ us hl => match us, hl with | [_], _ => rfl
  have F31 := fun_mk (st := s__law_pot) l31 d31 k31
  have b31 := F31.binds (ps := ["script", "k"]) fun _ _ _ _ _ _ us hl => match us, hl with | [_, _], _ => rfl
  have F32 := fun_mk (st := s__law_dip) l32 d32 k32
  have b32 := F32.binds (ps := ["pot", "many"]) fun _ _ _ _ _ _ us hl => match us, hl with | [_, _], _ => rfl
  have F33 := fun_mk (st := s__law_some) l33 d33 k33
  have b33 := F33.binds (ps := ["pot", "things", "most"]) fun _ _ _ _ _ _ us hl => match us, hl with | [_, _, _], _ => rfl
  have F34 := fun_mk (st := s__law_pairs) l34 d34 k34
  have b34 := F34.binds (ps := ["ones", "others"]) fun _ _ _ _ _ _ us hl => match us, hl with | [_, _], _ => rfl
  have F35 := fun_mk (st := s__law_premises) l35 d35 k35
  have b35 := F35.binds (ps := ["pot", "places"]) fun _ _ _ _ _ _ us hl => match us, hl with | [_, _], _ => rfl
  have F36 := fun_mk (st := s__law_name) l36 d36 k36
  have b36 := F36.binds (ps := ["pot"]) fun _ _ _ _ _ _ us hl => match us, hl with | [_], _ => rfl
  have F37 := fun_mk (st := s__law_letter) l37 d37 k37
  have b37 := F37.binds (ps := ["pot"]) fun _ _ _ _ _ _ us hl => match us, hl with | [_], _ => rfl
  have F38 := fun_mk (st := s__law_what) l38 d38 k38
  have b38 := F38.binds (ps := ["pot"]) fun _ _ _ _ _ _ us hl => match us, hl with | [_], _ => rfl
  have F39 := fun_mk (st := s__law_place_text) l39 d39 k39
  have b39 := F39.binds (ps := ["place"]) fun _ _ _ _ _ _ us hl => match us, hl with | [_], _ => rfl
  have F40 := fun_mk (st := s__law_rule_text) l40 d40 k40
  have b40 := F40.binds (ps := ["rule"]) fun _ _ _ _ _ _ us hl => match us, hl with | [_], _ => rfl
  have F41 := fun_mk (st := s__law_words) l41 d41 k41
  have b41 := F41.binds (ps := ["things"]) fun _ _ _ _ _ _ us hl => match us, hl with | [_], _ => rfl
  have F42 := fun_mk (st := s__law_what_text) l42 d42 k42
  have b42 := F42.binds (ps := ["what"]) fun _ _ _ _ _ _ us hl => match us, hl with | [_], _ => rfl
  have F43 := fun_mk (st := s__law_same) l43 d43 k43
  have b43 := F43.binds (ps := ["found", "due"]) fun _ _ _ _ _ _ us hl => match us, hl with | [_, _], _ => rfl
  have F44 := fun_mk (st := s__law_rule) l44 d44 k44
  have b44 := F44.binds (ps := ["pot"]) fun _ _ _ _ _ _ us hl => match us, hl with | [_], _ => rfl
  have F45 := fun_mk (st := s__law_back_right) l45 d45 k45
  have b45 := F45.binds (ps := ["text", "thing", "way"]) fun _ _ _ _ _ _ us hl => match us, hl with | [_, _, _], _ => rfl
  have F46 := fun_mk (st := s__law_long_right) l46 d46 k46
  have b46 := F46.binds (ps := ["pot"]) fun _ _ _ _ _ _ us hl => match us, hl with | [_], _ => rfl
  have F47 := fun_mk (st := s_law) l47 d47 k47
  have g0 := PySem.W.mg_of X G a0
  have g1 := PySem.W.mg_of X G a1
  have g2 := PySem.W.mg_of X G a2
  have g3 := PySem.W.mg_of X G a3
  have g4 := PySem.W.mg_of X G a4
  have g5 := PySem.W.mg_of X G a5
  have g6 := PySem.W.mg_of X G a6
  have g7 := PySem.W.mg_of X G a7
  have g8 := PySem.W.mg_of X G a8
  have g9 := PySem.W.mg_of X G a9
  have g10 := PySem.W.mg_of X G a10
  have g11 := PySem.W.mg_of X G a11
  have g12 := PySem.W.mg_of X G a12
  have g13 := PySem.W.mg_of X G a13
  have g14 := PySem.W.mg_of X G a14
  have g15 := PySem.W.mg_of X G a15
  have g16 := PySem.W.mg_of X G a16
  have g17 := PySem.W.mg_of X G a17
  have g18 := PySem.W.mg_of X G a18
  have g19 := PySem.W.mg_of X G a19
  have g20 := PySem.W.mg_of X G a20
  have g21 := PySem.W.mg_of X G a21
  have g22 := PySem.W.mg_of X G a22
  have g23 := PySem.W.mg_of X G a23
  have g24 := PySem.W.mg_of X G a24
  have g25 := PySem.W.mg_of X G a25
  have g26 := PySem.W.mg_of X G a26
  have g27 := PySem.W.mg_of X G a27
  have g28 := PySem.W.mg_of X G a28
  have g29 := PySem.W.mg_of X G a29
  have g30 := PySem.W.mg_of X G a30
  have g31 := PySem.W.mg_of X G a31
  have g32 := PySem.W.mg_of X G a32
  have g33 := PySem.W.mg_of X G a33
  have g34 := PySem.W.mg_of X G a34
  have g35 := PySem.W.mg_of X G a35
  have g36 := PySem.W.mg_of X G a36
  have g37 := PySem.W.mg_of X G a37
  have g38 := PySem.W.mg_of X G a38
  have g39 := PySem.W.mg_of X G a39
  have g40 := PySem.W.mg_of X G a40
  have g41 := PySem.W.mg_of X G a41
  have g42 := PySem.W.mg_of X G a42
  have g43 := PySem.W.mg_of X G a43
  have g44 := PySem.W.mg_of X G a44
  have g45 := PySem.W.mg_of X G a45
  have g46 := PySem.W.mg_of X G a46
  have y_type := PySem.W.mg_none_of X G z_type
  have y_str := PySem.W.mg_none_of X G z_str
  have y_tuple := PySem.W.mg_none_of X G z_tuple
  have y_list := PySem.W.mg_none_of X G z_list
  have y_int := PySem.W.mg_none_of X G z_int
  have y_set := PySem.W.mg_none_of X G z_set
  have y_len := PySem.W.mg_none_of X G z_len
  have y_all := PySem.W.mg_none_of X G z_all
  have y_max := PySem.W.mg_none_of X G z_max
  have y_min := PySem.W.mg_none_of X G z_min
  have y_range := PySem.W.mg_none_of X G z_range
  have y_repr := PySem.W.mg_none_of X G z_repr
  have y_divmod := PySem.W.mg_none_of X G z_divmod
  have gPA := PySem.W.mg_of X G aPA
  have gAT := PySem.W.mg_of X G aAT
  have gGR := PySem.W.mg_of X G aGR
  refine fun a ns s hl base H KB GB ND TB e0 hT hS => ?_
  have G32 := ok_dip (P := P) (w := w) (mg := mg) (base := base) F32  
  have G4 := ok_are_small_letters (P := P) (w := w) (mg := mg) (base := base) F4  
  have G0 := ok_figures_of (P := P) (w := w) (mg := mg) (base := base) F0 gGR gAT  y_str y_divmod
  have G1 := ok_number_in (P := P) (w := w) (mg := mg) (base := base) F1 gAT  y_len y_range y_int
  have G6 := ok_are_pairs (P := P) (w := w) (mg := mg) (base := base) F6  y_all y_type y_tuple y_str y_len
  have G7 := ok_are_of_names F7 G4 g4 k4 b4 y_len
  have G11 := ok_are_unlike (P := P) (w := w) (mg := mg) (base := base) F11  y_set y_len
  have G12 := ok_premises_in (P := P) (w := w) (mg := mg) (base := base) F12  y_type y_list y_tuple y_str y_int y_len
  have G10 := ok_places_in F10 G6 g6 k6 b6 G7 g7 k7 b7 G11 g11 k11 b11 G12 g12 k12 b12 y_type y_list y_tuple y_len y_set
  have G9 := ok_is_world F9 G10 g10 k10 b10 
  have G8 := ok_is_rule F8 G9 g9 k9 b9 
  have G2 := ok_is_whole (P := P) (w := w) (mg := mg) (base := base) F2  y_type y_int
  have G3 := ok_is_name F3 G4 g4 k4 b4 y_type y_str y_len
  have G5 := ok_is_place F5 G3 g3 k3 b3 y_type y_tuple y_len
  have G13 := ok_is_letter F13 G3 g3 k3 b3 G2 g2 k2 b2 y_type y_tuple y_str y_len
  have G14 := ok_is_worded (P := P) (w := w) (mg := mg) (base := base) F14 gPA ⟨⟨_, _, lPA, kPA, iPA⟩, sPA⟩ y_type y_tuple y_str y_len
  have G15 := ok_is_what F15 G3 g3 k3 b3 G2 g2 k2 b2 G13 g13 k13 b13 G8 g8 k8 b8 G14 g14 k14 b14 
  have G16 := ok_place_words (P := P) (w := w) (mg := mg) (base := base) F16  
  have G17 := ok_letter_words F17 G0 g0 k0 b0 y_list
  have G18 := ok_show_place F18 G5 g5 k5 b5 G16 g16 k16 b16 
  have G19 := ok_show_rule F19 G8 g8 k8 b8 G16 g16 k16 b16 G0 g0 k0 b0 
  have G20 := ok_show_letter F20 G13 g13 k13 b13 G17 g17 k17 b17 
  have G21 := ok_show_what F21 G15 g15 k15 b15 G16 g16 k16 b16 G0 g0 k0 b0 G17 g17 k17 b17 
  have G22 := ok_words_of (P := P) (w := w) (mg := mg) (base := base) F22  y_type y_str
  have G23 := ok_place_in (P := P) (w := w) (mg := mg) (base := base) F23  y_tuple
  have G24 := ok_letter_in F24 G1 g1 k1 b1 y_len y_tuple
  have G25 := ok_rule_in F25 G23 g23 k23 b23 G1 g1 k1 b1 G8 g8 k8 b8 y_len
  have G26 := ok_what_in F26 G23 g23 k23 b23 G1 g1 k1 b1 G24 g24 k24 b24 y_len y_tuple
  have G27 := ok_read_place F27 G23 g23 k23 b23 G5 g5 k5 b5 y_type y_str
  have G28 := ok_read_rule F28 G22 g22 k22 b22 G25 g25 k25 b25 
  have G29 := ok_read_letter F29 G22 g22 k22 b22 G24 g24 k24 b24 G13 g13 k13 b13 
  have G30 := ok_read_what F30 G22 g22 k22 b22 G26 g26 k26 b26 G15 g15 k15 b15 
  have G31 := ok__law_pot (P := P) (w := w) (base := base) F31 y_len y_max
  have G33 := ok__law_some F33 G32 g32 k32 b32 y_len y_range y_list y_min
  have G34 := ok__law_pairsX (P := P) (w := w) (mg := mg) (base := base) F34  
  have G35 := ok__law_premises F35 G32 g32 k32 b32 G33 g33 k33 b33 
  have G36 := ok__law_name F36 G32 g32 k32 b32 y_range
  have G37 := ok__law_letter F37 G32 g32 k32 b32 G36 g36 k36 b36 
  have G38 := ok__law_what F38 G32 g32 k32 b32 G36 g36 k36 b36 G37 g37 k37 b37 G34 g34 k34 b34 G35 g35 k35 b35 
  have G39 := ok__law_place_text (P := P) (w := w) (mg := mg) (base := base) F39  
  have G40 := ok__law_rule_text F40 G39 g39 k39 b39 y_str
  have G41 := ok__law_words (P := P) (w := w) (mg := mg) (base := base) F41  y_str
  have G42 := ok__law_what_text F42 G39 g39 k39 b39 G41 g41 k41 b41 
  have G43 := ok__law_same (P := P) (w := w) (mg := mg) (base := base) F43  y_repr
  have G44 := ok__law_rule F44 G32 g32 k32 b32 G34 g34 k34 b34 G35 g35 k35 b35 
  have G45 := ok__law_back_right (fR := pick4 f27 f28 f29 f30) (fdR := pick4 _ _ _ _) (nR := pick4 4 10 4 10) F45 (fun i hi => match i, hi with | 0, _ => (by decide) | 1, _ => (by decide) | 2, _ => (by decide) | 3, _ => (by decide) | n + 4, h => absurd h (by omega)) (fun i hi => match i, hi with | 0, _ => G27 | 1, _ => G28 | 2, _ => G29 | 3, _ => G30 | n + 4, h => absurd h (by omega)) (fun i hi => match i, hi with | 0, _ => k27 | 1, _ => k28 | 2, _ => k29 | 3, _ => k30 | n + 4, h => absurd h (by omega)) (fun i hi => match i, hi with | 0, _ => b27 | 1, _ => b28 | 2, _ => b29 | 3, _ => b30 | n + 4, h => absurd h (by omega)) g27 g28 g29 g30 G43 g43 k43 b43 y_range
  have G46 := ok__law_long_right F46 ND G32 g32 k32 b32 G28 g28 k28 b28 G29 g29 k29 b29 G30 g30 k30 b30 G19 g19 k19 b19 G20 g20 k20 b20 G21 g21 k21 b21 y_len y_int y_str y_range
  refine LamX.run_ofS (N := N_law) (ps := ["script"]) (us := [.ref a]) (vs := [.ref a]) l47 d47 sc_law (k := 11) ⟨rfl, by decide, by decide⟩ e0 (.of_eq rfl) (.cons rfl .nil) rfl fun hr => ?_
  obtain ⟨t, h1, h2⟩ := law_reads (E := fun _ _ _ => False) G31 g31 k31 b31 G44 g44 k44 b44 G37 g37 k37 b37 G38 g38 k38 b38 G18 g18 k18 b18 G19 g19 k19 b19 G20 g20 k20 b20 G21 g21 k21 b21 G39 g39 k39 b39 G40 g40 k40 b40 G41 g41 k41 b41 G42 g42 k42 b42 G43 g43 k43 b43 G45 g45 k45 b45 G46 g46 k46 b46 y_range y_max y_min y_len y_repr hr rfl hS hl
  exact ⟨t, h1.nox, h2⟩
end K65
open PySem PySem.W PyProof.Rows
set_option maxRecDepth 100000 in
set_option maxHeartbeats 0 in
theorem PySem.Challenge.cw_leanfar_k65_written_and_read_holds : PySem.Challenge.rw_leanfar_k65_written_and_read.Holds := by
  w_on; o_law; k_head; (case hw => w_witness2)
  k_fill
  refine K65.walk (l := PySem.Challenge.rw_leanfar_k65_written_and_read) rfl rfl (fun w h Y => PySem.W.kIn_of Y) ?F
  case F =>
    intro w mg fa h KX G hmg
    refine' K65.all_mk KX G hmg ?a0 ?l0 ?d0 ?k0 ?a1 ?l1 ?d1 ?k1 ?a2 ?l2 ?d2 ?k2 ?a3 ?l3 ?d3 ?k3 ?a4 ?l4 ?d4 ?k4 ?a5 ?l5 ?d5 ?k5 ?a6 ?l6 ?d6 ?k6 ?a7 ?l7 ?d7 ?k7 ?a8 ?l8 ?d8 ?k8 ?a9 ?l9 ?d9 ?k9 ?a10 ?l10 ?d10 ?k10 ?a11 ?l11 ?d11 ?k11 ?a12 ?l12 ?d12 ?k12 ?a13 ?l13 ?d13 ?k13 ?a14 ?l14 ?d14 ?k14 ?a15 ?l15 ?d15 ?k15 ?a16 ?l16 ?d16 ?k16 ?a17 ?l17 ?d17 ?k17 ?a18 ?l18 ?d18 ?k18 ?a19 ?l19 ?d19 ?k19 ?a20 ?l20 ?d20 ?k20 ?a21 ?l21 ?d21 ?k21 ?a22 ?l22 ?d22 ?k22 ?a23 ?l23 ?d23 ?k23 ?a24 ?l24 ?d24 ?k24 ?a25 ?l25 ?d25 ?k25 ?a26 ?l26 ?d26 ?k26 ?a27 ?l27 ?d27 ?k27 ?a28 ?l28 ?d28 ?k28 ?a29 ?l29 ?d29 ?k29 ?a30 ?l30 ?d30 ?k30 ?a31 ?l31 ?d31 ?k31 ?a32 ?l32 ?d32 ?k32 ?a33 ?l33 ?d33 ?k33 ?a34 ?l34 ?d34 ?k34 ?a35 ?l35 ?d35 ?k35 ?a36 ?l36 ?d36 ?k36 ?a37 ?l37 ?d37 ?k37 ?a38 ?l38 ?d38 ?k38 ?a39 ?l39 ?d39 ?k39 ?a40 ?l40 ?d40 ?k40 ?a41 ?l41 ?d41 ?k41 ?a42 ?l42 ?d42 ?k42 ?a43 ?l43 ?d43 ?k43 ?a44 ?l44 ?d44 ?k44 ?a45 ?l45 ?d45 ?k45 ?a46 ?l46 ?d46 ?k46 ?a47 ?l47 ?d47 ?k47 ?z_type ?z_str ?z_tuple ?z_list ?z_int ?z_set ?z_len ?z_all ?z_max ?z_min ?z_range ?z_repr ?z_divmod ?aPA ?lPA ?kPA ?iPA ?sPA ?aGR ?aAT
    (case a0 => k_is); (case l0 => k_is); (case d0 => k_is); (case k0 => k_is)
    (case a1 => k_is); (case l1 => k_is); (case d1 => k_is); (case k1 => k_is)
    (case a2 => k_is); (case l2 => k_is); (case d2 => k_is); (case k2 => k_is)
    (case a3 => k_is); (case l3 => k_is); (case d3 => k_is); (case k3 => k_is)
    (case a4 => k_is); (case l4 => k_is); (case d4 => k_is); (case k4 => k_is)
    (case a5 => k_is); (case l5 => k_is); (case d5 => k_is); (case k5 => k_is)
    (case a6 => k_is); (case l6 => k_is); (case d6 => k_is); (case k6 => k_is)
    (case a7 => k_is); (case l7 => k_is); (case d7 => k_is); (case k7 => k_is)
    (case a8 => k_is); (case l8 => k_is); (case d8 => k_is); (case k8 => k_is)
    (case a9 => k_is); (case l9 => k_is); (case d9 => k_is); (case k9 => k_is)
    (case a10 => k_is); (case l10 => k_is); (case d10 => k_is); (case k10 => k_is)
    (case a11 => k_is); (case l11 => k_is); (case d11 => k_is); (case k11 => k_is)
    (case a12 => k_is); (case l12 => k_is); (case d12 => k_is); (case k12 => k_is)
    (case a13 => k_is); (case l13 => k_is); (case d13 => k_is); (case k13 => k_is)
    (case a14 => k_is); (case l14 => k_is); (case d14 => k_is); (case k14 => k_is)
    (case a15 => k_is); (case l15 => k_is); (case d15 => k_is); (case k15 => k_is)
    (case a16 => k_is); (case l16 => k_is); (case d16 => k_is); (case k16 => k_is)
    (case a17 => k_is); (case l17 => k_is); (case d17 => k_is); (case k17 => k_is)
    (case a18 => k_is); (case l18 => k_is); (case d18 => k_is); (case k18 => k_is)
    (case a19 => k_is); (case l19 => k_is); (case d19 => k_is); (case k19 => k_is)
    (case a20 => k_is); (case l20 => k_is); (case d20 => k_is); (case k20 => k_is)
    (case a21 => k_is); (case l21 => k_is); (case d21 => k_is); (case k21 => k_is)
    (case a22 => k_is); (case l22 => k_is); (case d22 => k_is); (case k22 => k_is)
    (case a23 => k_is); (case l23 => k_is); (case d23 => k_is); (case k23 => k_is)
    (case a24 => k_is); (case l24 => k_is); (case d24 => k_is); (case k24 => k_is)
    (case a25 => k_is); (case l25 => k_is); (case d25 => k_is); (case k25 => k_is)
    (case a26 => k_is); (case l26 => k_is); (case d26 => k_is); (case k26 => k_is)
    (case a27 => k_is); (case l27 => k_is); (case d27 => k_is); (case k27 => k_is)
    (case a28 => k_is); (case l28 => k_is); (case d28 => k_is); (case k28 => k_is)
    (case a29 => k_is); (case l29 => k_is); (case d29 => k_is); (case k29 => k_is)
    (case a30 => k_is); (case l30 => k_is); (case d30 => k_is); (case k30 => k_is)
    (case a31 => k_is); (case l31 => k_is); (case d31 => k_is); (case k31 => k_is)
    (case a32 => k_is); (case l32 => k_is); (case d32 => k_is); (case k32 => k_is)
    (case a33 => k_is); (case l33 => k_is); (case d33 => k_is); (case k33 => k_is)
    (case a34 => k_is); (case l34 => k_is); (case d34 => k_is); (case k34 => k_is)
    (case a35 => k_is); (case l35 => k_is); (case d35 => k_is); (case k35 => k_is)
    (case a36 => k_is); (case l36 => k_is); (case d36 => k_is); (case k36 => k_is)
    (case a37 => k_is); (case l37 => k_is); (case d37 => k_is); (case k37 => k_is)
    (case a38 => k_is); (case l38 => k_is); (case d38 => k_is); (case k38 => k_is)
    (case a39 => k_is); (case l39 => k_is); (case d39 => k_is); (case k39 => k_is)
    (case a40 => k_is); (case l40 => k_is); (case d40 => k_is); (case k40 => k_is)
    (case a41 => k_is); (case l41 => k_is); (case d41 => k_is); (case k41 => k_is)
    (case a42 => k_is); (case l42 => k_is); (case d42 => k_is); (case k42 => k_is)
    (case a43 => k_is); (case l43 => k_is); (case d43 => k_is); (case k43 => k_is)
    (case a44 => k_is); (case l44 => k_is); (case d44 => k_is); (case k44 => k_is)
    (case a45 => k_is); (case l45 => k_is); (case d45 => k_is); (case k45 => k_is)
    (case a46 => k_is); (case l46 => k_is); (case d46 => k_is); (case k46 => k_is)
    (case a47 => k_is); (case l47 => k_is); (case d47 => k_is); (case k47 => k_is)
    (case z_type => k_is); (case z_str => k_is); (case z_tuple => k_is); (case z_list => k_is); (case z_int => k_is); (case z_set => k_is); (case z_len => k_is); (case z_all => k_is); (case z_max => k_is); (case z_min => k_is); (case z_range => k_is); (case z_repr => k_is); (case z_divmod => k_is)
    (case aPA => k_is)
    (case lPA => k_is)
    (case kPA => first | exact ⟨⟨_, _, rfl, rfl⟩, ⟨_, _, rfl, rfl⟩, ⟨_, _, rfl, rfl⟩, ⟨_, _, rfl, rfl⟩, ⟨_, _, rfl, rfl⟩, ⟨_, _, rfl, rfl⟩, ⟨_, _, rfl, rfl⟩, True.intro⟩ | k_is)
    (case iPA => first | exact ⟨⟨_, rfl⟩, ⟨_, rfl⟩, ⟨_, rfl⟩, ⟨_, rfl⟩, ⟨_, rfl⟩, ⟨_, rfl⟩, ⟨_, rfl⟩, ⟨_, rfl⟩, ⟨_, rfl⟩, ⟨_, rfl⟩, ⟨_, rfl⟩, ⟨_, rfl⟩, ⟨_, rfl⟩, ⟨_, rfl⟩, True.intro⟩ | k_is)
    (case sPA => first | decide | k_is | rfl)
    (case aGR => first | k_is | exact rfl)
    (case aAT => first | k_is | exact rfl)
