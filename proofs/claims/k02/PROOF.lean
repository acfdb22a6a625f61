import PyProof.Rows.All
import Wide.All
import OpenK.AllK
import Wide.FinOn
import PyProof.EqAt
import PyProof.EqKinds
import PyProof.TupleCall
import KE.BitLaws
import PyProof.NeKinds
import PyProof.ListRange
import PyProof.Rows.StrGenSrc
import PyProof.Rows.GenSrcTup
import PyProof.Rows.JoinGen
import PyProof.Rows.GenRowsK
import KE.KNest
import KE.KRegrown
import PyProof.StationsW
import PyProof.ExcClass3
import OpenK.KOwn
import PyProof.RulesTry
import KE.KTryMore
import PyProof.RulesAs
import PyProof.NsDelKeeps
import PyProof.Rows.FStr
import PyProof.ZipIter
import PyProof.SumAny
import PyProof.GenCompD
import PyProof.ListMulRoad
import PyProof.FactsAll.tuple_2
import PyProof.Rows.SeqMore
import PyProof.TupleOfGen
import PyProof.SeqI3
import PyProof.WalkInts
import PyProof.AutoListH
import PyProof.AutoRange
import PyProof.FactsAll.range_2
import PyProof.FactsAll.list_3
import KE.KRevIter
import PyProof.Draws
import PyProof.EnumMake
import KE.KIsNot
import KE.KIsAll
import PyProof.ExcArgs
import PyProof.ExcArgsOwn
import PyProof.ExcAttrAll.ValueError
import PyProof.FactsAll.list_2
import KE.KFmtOwn
import PyProof.ExcStrCall
import PyProof.ExcStrAll.ValueError
import PyProof.ExcInit
import OpenK.KCls
import PyProof.Rows.StrNews2
import PyProof.StrOps2
import PyProof.StrReplace2
import PyProof.StrOps
import PyProof.Rows.MinMaxN
import PyProof.DelItemList
import PyProof.RulesDelMore
import PyProof.StrLawsChain
import PyProof.FitsReplace
import PySem.Challenge.RW_joinedheaps_k02_texts_of_no_heaps
set_option Elab.async false
set_option linter.all false
set_option maxRecDepth 100000
namespace L2
open PySem PySem.Spec PyProof.Rows
abbrev Key := Sum Int Str
def keyIs : Key → Value → Bool
  | .inl k, v => Value.isInt k v
  | .inr x, v => Value.isStrOf x v
def keyH (w : World) : Key → Int
  | .inl k => hashInt k
  | .inr x => hashStr w x
theorem keyIs_shape : ∀ {k : Key} {v : Value}, keyIs k v = true → (∃ i t, k = Sum.inl i ∧ v = Value.int i t) ∨ (∃ x t, k = Sum.inr x ∧ v = Value.str x t)
  | .inl i, v, h => by
    obtain ⟨t, e⟩ := Value.isInt_shape (k := i) (v := v) h
    exact .inl ⟨i, t, rfl, e⟩
  | .inr x, v, h => by
    obtain ⟨t, e⟩ := Value.isStrOf_shape (x := x) (v := v) h
    exact .inr ⟨x, t, rfl, e⟩
theorem key_ll (a b : Int) : decide ((Sum.inl a : Key) = Sum.inl b) = (a == b) := by
  by_cases e : a = b
  · subst e; simp
  · have h : ¬ (Sum.inl a : Key) = Sum.inl b := fun q => e (Sum.inl.inj q)
    rw [decide_eq_false h]
    exact (beq_eq_false_iff_ne.mpr e).symm
theorem key_rr (a b : Str) : decide ((Sum.inr a : Key) = Sum.inr b) = decide (a = b) := by
  by_cases e : a = b
  · subst e; simp
  · have h : ¬ (Sum.inr a : Key) = Sum.inr b := fun q => e (Sum.inr.inj q)
    rw [decide_eq_false h, decide_eq_false e]
theorem key_lr (a : Int) (b : Str) : decide ((Sum.inl a : Key) = Sum.inr b) = false := decide_eq_false (fun q => nomatch q)
theorem key_rl (a : Str) (b : Int) : decide ((Sum.inr a : Key) = Sum.inl b) = false := decide_eq_false (fun q => nomatch q)
def mixKind (prog : Program) (w : World) : PySem.KeyKind prog w Key where
  is := keyIs
  hash := keyH w
  inj := fun v a b ha hb => by
    rcases keyIs_shape ha with ⟨i, t, rfl, rfl⟩ | ⟨x, t, rfl, rfl⟩
    · rcases keyIs_shape hb with ⟨j, u, rfl, e⟩ | ⟨y, u, rfl, e⟩
      · injection e with e1 _; rw [e1]
      · exact nomatch e
    · rcases keyIs_shape hb with ⟨j, u, rfl, e⟩ | ⟨y, u, rfl, e⟩
      · exact nomatch e
      · injection e with e1 _; rw [e1]
  byValue := fun k v h => by
    rcases keyIs_shape h with ⟨i, t, rfl, rfl⟩ | ⟨x, t, rfl, rfl⟩ <;> rfl
  pyHash := fun hv h => by
    rcases keyIs_shape hv with ⟨i, t, rfl, rfl⟩ | ⟨x, t, rfl, rfl⟩
    · exact wpAny_pyHash_int h
    · exact wpAny_pyHash_str h
  eqBool := fun hu hv h => by
    rcases keyIs_shape hu with ⟨i, t, rfl, rfl⟩ | ⟨x, t, rfl, rfl⟩
    · rcases keyIs_shape hv with ⟨j, u, rfl, rfl⟩ | ⟨y, u, rfl, rfl⟩
      · rw [key_ll] at h; exact wpAny_eqBool_int h
      · rw [key_lr] at h; exact SeqAt.EqAt.int_str i t y u _ _ _ _ h
    · rcases keyIs_shape hv with ⟨j, u, rfl, rfl⟩ | ⟨y, u, rfl, rfl⟩
      · rw [key_rl] at h; exact SeqAt.EqAt.str_int x t j u _ _ _ _ h
      · rw [key_rr] at h; exact wpAny_eqBool_str h
  «strs» := fun k x t v h => by
    rcases keyIs_shape h with ⟨i, u, rfl, e⟩ | ⟨y, u, rfl, e⟩
    · exact nomatch e
    · injection e with e1 _
      subst e1
      cases v <;> rfl
end L2
namespace L2
open PySem PySem.Spec PyProof.Rows
inductive V where
  | non | bl (b : Bool) | int (i : Int) | str (x : Str) | byt (b : Array UInt8) | flt (b : UInt64) | ref (a : Addr) | ty (n : String)
  deriving DecidableEq
def RelV : V → Value → Prop
  | .non, u => u = Value.none
  | .bl b, u => u = Value.bool b
  | .int i, u => ∃ t, u = Value.int i t
  | .str x, u => ∃ t, u = Value.str x t
  | .byt b, u => ∃ t, u = Value.bytes b t
  | .flt b, u => ∃ t, u = Value.float b t
  | .ref a, u => u = Value.ref a
  | .ty n, u => u = Value.type n
abbrev Vals : List V → List Value → Prop := Paired RelV
theorem Vals.length {xs : List V} {us : List Value} (r : Vals xs us) : xs.length = us.length := Paired.length r
theorem Vals.get : ∀ {xs : List V} {us : List Value} {i : Nat} {x : V}, Vals xs us → xs[i]? = some x → ∃ u, us[i]? = some u ∧ RelV x u
  | _, _, _, _, .nil, e => by simp at e
  | _, _, 0, _, .cons r _, e => by simp at e; subst e; exact ⟨_, rfl, r⟩
  | _, _, i + 1, x, .cons _ t, e => by
    obtain ⟨u, h1, h2⟩ := Vals.get (i := i) (x := x) t (by simpa using e)
    exact ⟨u, by simpa using h1, h2⟩
theorem Vals.set {x : V} {u : Value} (r : RelV x u) : ∀ {xs : List V} {us : List Value} (i : Nat), Vals xs us → Vals (xs.set i x) (us.set i u)
  | _, _, _, .nil => .nil
  | _, _, 0, .cons _ t => .cons r t
  | _, _, i + 1, .cons q t => .cons q (Vals.set r i t)
theorem Vals.append : ∀ {xs ys : List V} {us ws : List Value}, Vals xs us → Vals ys ws → Vals (xs ++ ys) (us ++ ws)
  | _, _, _, _, .nil, s => s
  | _, _, _, _, .cons r t, s => .cons r (Vals.append t s)
theorem Vals.take : ∀ {xs : List V} {us : List Value} (n : Nat), Vals xs us → Vals (xs.take n) (us.take n)
  | _, _, 0, _ => .nil
  | _, _, _ + 1, .nil => .nil
  | _, _, n + 1, .cons r t => .cons r (Vals.take n t)
theorem Vals.drop : ∀ {xs : List V} {us : List Value} (n : Nat), Vals xs us → Vals (xs.drop n) (us.drop n)
  | _, _, 0, r => r
  | _, _, _ + 1, .nil => .nil
  | _, _, n + 1, .cons _ t => Vals.drop n t
theorem Vals.none_of : ∀ {xs : List V} {us : List Value} {i : Nat}, Vals xs us → xs[i]? = none → us[i]? = none := fun {xs us i} r e => by
  have h1 := r.length
  have h2 : xs.length ≤ i := List.getElem?_eq_none_iff.mp e
  exact List.getElem?_eq_none_iff.mpr (by omega)
def RelO : Option V → Option Value → Prop
  | some v, some u => RelV v u
  | none, none => True
  | _, _ => False
def KV {κ : Type} : List (κ × V) → List (κ × Value) → Prop := Paired fun (p : κ × V) (q : κ × Value) => p.1 = q.1 ∧ RelV p.2 q.2
def kV : Key → V
  | .inl i => .int i
  | .inr x => .str x
inductive HO where
  /-- a list -/
  | lst (xs : List V)
  /-- a tuple (never changes) -/
  | tup (xs : List V)
  /-- a dict whose keys are ints and texts; one whose keys are tuples of ints and texts (the empty one is both) -/
  | dK (kvs : List (Key × V)) | dT (kvs : List (List Key × V))
  /-- a set of ints: its members, its size -/
  | set (S : Int → Bool) (n : Nat)
  /-- an instance of the class at C, its dict at dx, its attributes -/
  | ins (C dx : Addr) (fs : List (Str × V))
  /-- the dict of the instance at x -/
  | own (x : Addr)
  /-- the dict of an exception -/
  | xd (fs : List (Str × V))
  /-- a bound method, f of x -/
  | met (f x : Addr)
  /-- a range object lo, lo + 1, .. below hi -/
  | rng (lo hi : Int)
  /-- a thing that is known to the object (the script; a dict while a loop walks it): read, never written while it is so -/
  | frz (o : Obj) (u : HO)
  /-- a code object's table -/
  | tbl (ps : Array Value)
  /-- any other thing, by what is true of its one object (a def of one's own: SetO a S n := HO.ext fun h => ..) -/
  | ext (φ : Heap → Prop)
abbrev Hp := Addr → Option HO
def upd (H : Hp) (a : Addr) (o : HO) : Hp := fun b => if b = a then some o else H b
theorem upd_same {H : Hp} {a : Addr} {o : HO} : upd H a o a = some o := by unfold upd; rw [if_pos rfl]
theorem upd_ne {H : Hp} {a b : Addr} {o : HO} (h : b ≠ a) : upd H a o b = H b := by unfold upd; rw [if_neg h]
theorem upd_upd {H : Hp} {a : Addr} {o u : HO} : upd (upd H a o) a u = upd H a u := by
  funext b; unfold upd; split <;> rfl
theorem ne_of {H : Hp} {a b : Addr} {o u : HO} (h : H a = some o) (h' : H b = some u) (d : o ≠ u) : a ≠ b := by
  intro e; subst e; rw [h] at h'; exact d (Option.some.inj h')
theorem ne_of_none {H : Hp} {a b : Addr} {o : HO} (h : H a = some o) (h' : H b = none) : a ≠ b := by
  intro e; subst e; rw [h] at h'; cases h'
section
variable (P : Program) (w : World)
def ObjOk (H : Hp) (h : Heap) (a : Addr) : HO → Prop
  | .lst xs => xs.length ≤ sizeLine ∧ ∃ (its : List Value) (n : Nat), Vals xs its ∧ h.get? a = some { cls := .type "list", data := .seq its.toArray n }
  | .tup xs => xs.length ≤ sizeLine ∧ ∃ its : List Value, Vals xs its ∧ IsTup h a its.toArray
  | .dK kvs => kvs.length ≤ sizeLine ∧ (a == sysModules) = false ∧ ∃ vs, KV kvs vs ∧ h.DictOf (mixKind P w) a vs
  | .dT kvs => kvs.length ≤ sizeLine ∧ (a == sysModules) = false ∧ ∃ xs : List (List Key × Addr × Value),
      Paired (fun (p : List Key × V) (q : List Key × Addr × Value) => p.1 = q.1 ∧ H q.2.1 = some (.tup (p.1.map kV)) ∧ RelV p.2 q.2.2) kvs xs ∧
      ∃ o es ep, h.get? a = some o ∧ o.ExactDict ∧ o.data = .dict es ep ∧ es.toList = xs.map (entryOfKey (tupleKind (mixKind P w))) ∧ (xs.map (·.1)).Nodup
  | .set S n => h.SetOf (intKind P w) a S n
  | .ins C dx fs => H dx = some (.own a) ∧ fs.length ≤ 1000 ∧ dx ≠ a ∧ h.get? a = some (PySem.W.instObj C dx) ∧
      ∃ mA, h.Ns1 dx mA ∧ (∀ f, RelO (fs.lookup f) (mA f)) ∧ PySem.Within mA (fs.map (·.1))
  | .own _ => ∃ o, h.get? a = some o
  | .xd fs => ∃ mA, h.Ns1 a mA ∧ ∀ f, RelO (fs.lookup f) (mA f)
  | .rng lo hi => ∃ t u v, h.get? a = some { cls := .type "range", data := .fields #[.int lo t, .int hi u, .int 1 v] }
  | .frz o u => h.get? a = some o ∧ ObjOk H h a u
  | .tbl ps => h.get? a = some { cls := .none, data := .fields ps }
  | .met f x => h.get? a = some (PySem.W.methodObj (.ref f) (.ref x))
  | .ext φ => φ h ∧ (∃ o, h.get? a = some o) ∧ ∀ h1 h2 : Heap, φ h1 → (∀ o, h1.get? a = some o → h2.get? a = some o) → φ h2
def HOk (H : Hp) (h : Heap) : Prop := ∀ a o, H a = some o → ObjOk P w H h a o
end
section
variable {P : Program} {w : World} {H H' : Hp} {h h' : Heap} {a : Addr} {o : HO}
theorem ObjOk.lt (x : ObjOk P w H h a o) : a < h.objs.size := by
  cases o with
  | lst xs => obtain ⟨_, _, _, _, e⟩ := x; exact Heap.lt_size e
  | tup xs => obtain ⟨_, _, _, p⟩ := x; exact p.lt
  | dK kvs => obtain ⟨_, _, _, _, o, _, _, e, _⟩ := x; exact Heap.lt_size e
  | dT kvs => obtain ⟨_, _, _, _, o, _, _, e, _⟩ := x; exact Heap.lt_size e
  | set S n => obtain ⟨o, _, _, _, e, _⟩ := x; exact Heap.lt_size e
  | ins C dx fs => obtain ⟨_, _, _, e, _⟩ := x; exact Heap.lt_size e
  | own y => obtain ⟨_, e⟩ := x; exact Heap.lt_size e
  | xd fs => obtain ⟨_, ⟨_, _, _, e, _⟩, _⟩ := x; exact Heap.lt_size e
  | rng lo hi => obtain ⟨_, _, _, e⟩ := x; exact Heap.lt_size e
  | frz ob u => obtain ⟨e, _⟩ := x; exact Heap.lt_size e
  | tbl ps => exact Heap.lt_size (show h.get? a = some _ from x)
  | met f y => exact Heap.lt_size (show h.get? a = some _ from x)
  | ext φ => obtain ⟨_, ⟨_, e⟩, _⟩ := x; exact Heap.lt_size e
theorem Paired.mapP {α β : Type} {F G : α → β → Prop} : ∀ {l₁ : List α} {l₂ : List β}, Paired F l₁ l₂ → (∀ a b, F a b → G a b) → Paired G l₁ l₂
  | _, _, .nil, _ => .nil
  | _, _, .cons r t, f => .cons (f _ _ r) (Paired.mapP t f)
theorem ObjOk.stay (x : ObjOk P w H h a o) (k : ∀ b u, (b = a ∨ H b = some (.own a)) → h.get? b = some u → h'.get? b = some u)
    (ho : ∀ b, H b = some (.own a) → H' b = some (.own a)) (ht : ∀ b xs, H b = some (.tup xs) → H' b = some (.tup xs)) : ObjOk P w H' h' a o := by
  induction o with
  | lst xs => obtain ⟨z, its, n, r, e⟩ := x; exact ⟨z, its, n, r, k _ _ (.inl rfl) e⟩
  | tup xs => obtain ⟨z, its, r, ob, e, c⟩ := x; exact ⟨z, its, r, ob, k _ _ (.inl rfl) e, c⟩
  | dK kvs => obtain ⟨z, y, vs, r, ob, es, ep, e, c⟩ := x; exact ⟨z, y, vs, r, ob, es, ep, k _ _ (.inl rfl) e, c⟩
  | dT kvs =>
    obtain ⟨z, y, xs, r, ob, es, ep, e, c⟩ := x
    exact ⟨z, y, xs, Paired.mapP r fun p q z => ⟨z.1, ht _ _ z.2.1, z.2.2⟩, ob, es, ep, k _ _ (.inl rfl) e, c⟩
  | set S n => obtain ⟨ob, es, ep, t, e, c⟩ := x; exact ⟨ob, es, ep, t, k _ _ (.inl rfl) e, c⟩
  | ins C dx fs =>
    obtain ⟨d, z, ne, e, mA, ⟨od, es, ep, e2, c⟩, r⟩ := x
    exact ⟨ho _ d, z, ne, k _ _ (.inl rfl) e, mA, ⟨od, es, ep, k _ _ (.inr d) e2, c⟩, r⟩
  | own y => obtain ⟨ob, e⟩ := x; exact ⟨ob, k _ _ (.inl rfl) e⟩
  | xd fs => obtain ⟨mA, ⟨od, es, ep, e, c⟩, r⟩ := x; exact ⟨mA, ⟨od, es, ep, k _ _ (.inl rfl) e, c⟩, r⟩
  | rng lo hi => obtain ⟨t, u, v, e⟩ := x; exact ⟨t, u, v, k _ _ (.inl rfl) e⟩
  | frz ob u ih => obtain ⟨e, q⟩ := x; exact ⟨k _ _ (.inl rfl) e, ih q⟩
  | tbl ps =>
    have e : h.get? a = some { cls := .none, data := .fields ps } := x
    show h'.get? a = some { cls := .none, data := .fields ps }
    exact k a _ (.inl rfl) e
  | met f y =>
    have e : h.get? a = some (PySem.W.methodObj (.ref f) (.ref y)) := x
    show h'.get? a = some (PySem.W.methodObj (.ref f) (.ref y))
    exact k a _ (.inl rfl) e
  | ext φ => obtain ⟨p, ⟨o, e⟩, st⟩ := x; exact ⟨st _ _ p fun o q => k _ _ (.inl rfl) q, ⟨o, k _ _ (.inl rfl) e⟩, st⟩
theorem HOk.lt (x : HOk P w H h) (e : H a = some o) : a < h.objs.size := (x a o e).lt
theorem HOk.fresh (x : HOk P w H h) (e : h.objs.size ≤ a) : H a = none := by
  cases q : H a with
  | none => rfl
  | some u => exact absurd (Nat.lt_of_lt_of_le (x.lt q) e) (Nat.lt_irrefl _)
theorem HOk.kept (x : HOk P w H h) (k : ∀ b u, h.get? b = some u → h'.get? b = some u) : HOk P w H h' := fun a o e =>
  (x a o e).stay (fun b u _ q => k b u q) (fun _ q => q) fun _ _ q => q
theorem HOk.laid (x : HOk P w H h) (k : ∀ b u, h.get? b = some u → h'.get? b = some u) (hp : h.objs.size ≤ a) (new : ObjOk P w (upd H a o) h' a o) : HOk P w (upd H a o) h' := fun b u e => by
  have hn := x.fresh hp
  by_cases hb : b = a
  · subst hb; rw [upd_same] at e; cases e; exact new
  · rw [upd_ne hb] at e
    exact (x b u e).stay (fun c v _ q => k c v q) (fun c q => by rw [upd_ne (ne_of_none q hn)]; exact q) fun c xs q => by rw [upd_ne (ne_of_none q hn)]; exact q
end
def Rd (H : Hp) (a : Addr) (u : HO) : Prop := H a = some u ∨ ∃ o, H a = some (.frz o u)
theorem Rd.of {H : Hp} {a : Addr} {u : HO} (h : H a = some u) : Rd H a u := .inl h
theorem Rd.ok {P : Program} {w : World} {H : Hp} {h : Heap} {a : Addr} {u : HO} (r : Rd H a u) (x : HOk P w H h) : ObjOk P w H h a u := by
  rcases r with r | ⟨o, r⟩
  · exact x a u r
  · obtain ⟨_, q⟩ := x a _ r
    exact q
def Mut : Option HO → Prop
  | some (.lst _) => True
  | some (.dK _) => True
  | some (.dT _) => True
  | some (.set _ _) => True
  | some (.ins _ _ _) => True
  | some (.ext _) => True
  | _ => False
section
variable {P : Program} {w : World} {H : Hp} {h h' : Heap} {x e : Addr} {o' : HO}
theorem HOk.write (ok : HOk P w H h) (mu : Mut (H x)) (he : e = x ∨ H e = some (.own x)) (k : ∀ b u, b ≠ e → h.get? b = some u → h'.get? b = some u) (heo : ∃ u, h'.get? e = some u)
    (new : ObjOk P w (upd H x o') h' x o') : HOk P w (upd H x o') h' := fun b u q => by
  have nown : ∀ c y, H c = some (.own y) → c ≠ x := fun c y r z => by subst z; rw [r] at mu; exact mu
  have ntup : ∀ c xs, H c = some (.tup xs) → c ≠ x := fun c xs r z => by subst z; rw [r] at mu; exact mu
  by_cases hb : b = x
  · subst hb; rw [upd_same] at q; cases q; exact new
  · rw [upd_ne hb] at q
    by_cases hbe : b = e
    · have q' : H b = some (.own x) := by
        rcases he with z | z
        · exact absurd (hbe.trans z) hb
        · rw [hbe]; exact z
      rw [q] at q'; cases q'
      obtain ⟨v, hv⟩ := heo
      exact ⟨v, by rw [hbe]; exact hv⟩
    · refine (ok b u q).stay (fun c v hc r => k c v ?_ r) (fun c r => by rw [upd_ne (nown c b r)]; exact r) fun c xs r => by rw [upd_ne (ntup c xs r)]; exact r
      rcases hc with rfl | hc
      · exact hbe
      · rintro rfl
        rcases he with z | z
        · exact nown c b hc z
        · rw [hc] at z; cases z; exact hb rfl
end
structure Un (fs ex : List Addr) (H H' : Hp) (h h' : Heap) : Prop where
  keep : ∀ b o, h.get? b = some o → H b = none → b ∉ fs → b ∉ ex → h'.get? b = some o
  slot : ∀ b o, h.get? b = some o → H b = none → b ∈ fs → b ∉ ex → ∃ sl, h'.get? b = some { o with slots := sl }
  free : ∀ b o, h.get? b = some o → H b = none → b ∉ ex → H' b = none
  there : ∀ b o, h.get? b = some o → b ∉ ex → ∃ o', h'.get? b = some o'
  tups : ∀ b xs, H b = some (.tup xs) → H' b = some (.tup xs)
  frzs : ∀ b o u, H b = some (.frz o u) → H' b = some (.frz o u)
  tbls : ∀ b ps, H b = some (.tbl ps) → ∃ more, H' b = some (.tbl (ps ++ more))
section
variable {fs fs' ex ex' : List Addr} {H H1 H2 : Hp} {h h1 h2 h' : Heap} {a x e : Addr} {o : HO}
theorem Un.any (u : Un fs ex H H1 h h1) {b : Addr} {ob : Obj} (q : h.get? b = some ob) (n : H b = none) (hx : b ∉ ex) : ∃ sl, h1.get? b = some { ob with slots := sl } := by
  by_cases hb : b ∈ fs
  · exact u.slot b ob q n hb hx
  · exact ⟨ob.slots, u.keep b ob q n hb hx⟩
theorem Un.trans (a : Un fs ex H H1 h h1) (b : Un fs ex H1 H2 h1 h2) : Un fs ex H H2 h h2 where
  keep := fun c ob q n hc hx => b.keep c ob (a.keep c ob q n hc hx) (a.free c ob q n hx) hc hx
  slot := fun c ob q n hc hx => by
    obtain ⟨sl, e1⟩ := a.slot c ob q n hc hx
    obtain ⟨sl', e2⟩ := b.slot c _ e1 (a.free c ob q n hx) hc hx
    exact ⟨sl', e2⟩
  free := fun c ob q n hx => by
    obtain ⟨o', e1⟩ := a.there c ob q hx
    exact b.free c o' e1 (a.free c ob q n hx) hx
  there := fun c ob q hx => by
    obtain ⟨o', e1⟩ := a.there c ob q hx
    exact b.there c o' e1 hx
  tups := fun c xs q => b.tups c xs (a.tups c xs q)
  frzs := fun c ob xs q => b.frzs c ob xs (a.frzs c ob xs q)
  tbls := fun c ps q => by
    obtain ⟨m1, e1⟩ := a.tbls c ps q
    obtain ⟨m2, e2⟩ := b.tbls c _ e1
    exact ⟨m1 ++ m2, by rw [e2, Array.append_assoc]⟩
theorem Un.kept (k : ∀ b u, h.get? b = some u → h'.get? b = some u) : Un fs ex H H h h' :=
  ⟨fun b ob q _ _ _ => k b ob q, fun b ob q _ _ _ => ⟨ob.slots, k b ob q⟩, fun _ _ _ n _ => n, fun b ob q _ => ⟨ob, k b ob q⟩, fun _ _ q => q, fun _ _ _ q => q, fun _ ps q => ⟨#[], by rw [q]; simp⟩⟩
theorem Un.refl : Un fs ex H H h h := Un.kept fun _ _ q => q
theorem Un.laid (k : ∀ b u, h.get? b = some u → h'.get? b = some u) (hp : h.objs.size ≤ a) (hn : H a = none) : Un fs ex H (upd H a o) h h' where
  keep := fun b u q _ _ _ => k b u q
  slot := fun b u q _ _ _ => ⟨u.slots, k b u q⟩
  free := fun b u q n _ => by rw [upd_ne (Nat.ne_of_lt (Nat.lt_of_lt_of_le (Heap.lt_size q) hp))]; exact n
  there := fun b u q _ => ⟨u, k b u q⟩
  tups := fun b xs q => by rw [upd_ne (ne_of_none q hn)]; exact q
  frzs := fun b u xs q => by rw [upd_ne (ne_of_none q hn)]; exact q
  tbls := fun b ps q => ⟨#[], by rw [upd_ne (ne_of_none q hn), q]; simp⟩
theorem Un.write (mu : Mut (H x)) (he : e = x ∨ H e = some (.own x)) (k : ∀ b u, b ≠ e → h.get? b = some u → h'.get? b = some u) (heo : ∃ u, h'.get? e = some u) : Un fs ex H (upd H x o) h h' := by
  have hx : ∀ b, H b = none → b ≠ x := fun b n z => by subst z; rw [n] at mu; exact mu
  have hb : ∀ b, H b = none → b ≠ e := fun b n z => by
    subst z
    rcases he with r | r
    · exact hx b n r
    · rw [n] at r; cases r
  have hm : ∀ b u, H b = some u → ¬ Mut (some u) → b ≠ x := fun b u q nm z => by subst z; rw [q] at mu; exact nm mu
  refine ⟨fun b u q n _ _ => k b u (hb b n) q, fun b u q n _ _ => ⟨u.slots, k b u (hb b n) q⟩, fun b u q n _ => by rw [upd_ne (hx b n)]; exact n, fun b u q _ => ?_,
    fun b xs q => by rw [upd_ne (hm b _ q fun z => z)]; exact q, fun b u xs q => by rw [upd_ne (hm b _ q fun z => z)]; exact q, fun b ps q => ⟨#[], by rw [upd_ne (hm b _ q fun z => z), q]; simp⟩⟩
  by_cases hbe : b = e
  · subst hbe; exact heo
  · exact ⟨u, k b u hbe q⟩
theorem Un.mono (u : Un fs ex H H1 h h1) (hs : ∀ b ∈ fs, b ∈ fs') (hx : ∀ b ∈ ex, b ∈ ex') : Un fs' ex' H H1 h h1 :=
  ⟨fun b ob q n hb he => u.keep b ob q n (fun z => hb (hs b z)) fun z => he (hx b z), fun _ _ q n _ he => u.any q n fun z => he (hx _ z), fun b ob q n he => u.free b ob q n fun z => he (hx b z), fun b ob q he => u.there b ob q fun z => he (hx b z), u.tups, u.frzs, u.tbls⟩
end
def trk (h : Heap) (H : Hp) : List Addr := (List.range h.objs.size).filter fun a => (H a).isSome
def hidT (h : Heap) (H : Hp) : Heap := PySem.W.hideAll h (trk h H)
theorem hidT_size (h : Heap) (H : Hp) : (hidT h H).objs.size = h.objs.size := PySem.W.hideAll_size _ _
theorem hidT_get {h : Heap} {H : Hp} {b : Addr} {o : Obj} (e : h.get? b = some o) (n : H b = none) : (hidT h H).get? b = some o :=
  PySem.W.hideAll_get _ e fun hm => by
    have q : (H b).isSome = true := (List.mem_filter.mp hm).2
    rw [n] at q; simp at q
theorem of_hidT {h : Heap} {H : Hp} {b : Addr} {o : Obj} (e : (hidT h H).get? b = some o) : h.get? b = some o ∧ H b = none := by
  have e' : h.get? b = some o := PySem.W.of_hideAll (trk h H) e
  refine ⟨e', ?_⟩
  cases q : H b with
  | none => rfl
  | some x =>
    have hm : b ∈ trk h H := List.mem_filter.mpr ⟨List.mem_range.mpr (Heap.lt_size e'), by simp [q]⟩
    have z : (hidT h H).get? b = none := PySem.W.hideAll_none (trk h H) hm
    rw [z] at e; cases e
def allNews (g h : Heap) (L : Addr) : List (Addr × Obj) := (List.range h.objs.size).filterMap fun a => if a = L ∨ (g.get? a).isSome = true then none else (h.get? a).map fun o => (a, o)
def rest (g h : Heap) (L d : Addr) : List (Addr × Obj) := (allNews g h L).filter fun p => decide (p.1 ≠ d)
end L2
namespace L2
open PySem PySem.Spec PyProof.Rows
structure Mod (K : PySem.W.Frag) (mg : Str → Option Value) (base : Heap) : Prop where
  kin : K.In base
  glob : base.Ns mainGlobals mg
  blt : ∃ mb, base.Ns builtinsNs mb ∧ ∀ x : Str, x ≠ "__name__" → mb x = bootBuiltins x
  nolimit : base.NoLimit
structure Cx where
  prog : Program
  w : World
  K : PySem.W.Frag
  mg : Str → Option Value
  base : Heap
  A : Around
  N : List Str
  s_0 : Shared
  H_0 : Hp
  env : Env
  outer : List Env
  stack : List Env
  ex : List Addr
  fn : Str → Bool
  calm : Bool
  pn : List (Addr × Obj)
  xe : Value → Shared → Prop
def frs (l : List Env) : List Addr := l.filterMap (·.frame)
abbrev Cx.fs (X : Cx) : List Addr := frs X.outer
def Vis (sc : Scope) (x : Str) : Prop := sc.names.lookup x = some .local ∨ sc.names.lookup x = some .cell ∨ sc.names.lookup x = some .free
def Loc (sc : Scope) (x : Str) : Prop := sc.names.lookup x = some .local ∨ sc.names.lookup x = some .cell
def Look (env : Env) (h : Heap) (m : Str → Option Value) (x : Str) (u : Value) : Prop :=
  (env.kindOf x = some .local ∧ m x = some u) ∨ ((env.kindOf x = some .cell ∨ env.kindOf x = some .free) ∧ ∃ c, env.cells.lookup x = some c ∧ h.IsCell c (some u))
structure Cx.Ok (X : Cx) : Prop where
  mod : Mod X.K X.mg X.base
  kind : X.env.scope.kind = .function
  glob : X.env.globals = mainGlobals
  blt : X.env.builtins = builtinsNs
  above : X.s_0.heap.objs.size ≤ X.env.locals
  inj : ∀ x y c, X.env.cells.lookup x = some c → X.env.cells.lookup y = some c → x = y
  has : ∀ x, (X.env.kindOf x = some .cell ∨ X.env.kindOf x = some .free) → ∃ c, X.env.cells.lookup x = some c
  cab : ∀ x c, X.fn x = true → X.env.cells.lookup x = some c → X.s_0.heap.objs.size ≤ c
  hd : X.calm = true → X.A.handled = none
  frames : X.A.frames = some X.stack
  stk : X.stack = X.outer ∨ (X.stack = X.env :: X.outer ∧ X.env.frame = some X.env.locals)
  exf : ∀ b ∈ X.ex, b ≠ X.env.locals ∧ ∀ x c, X.env.cells.lookup x = some c → c ≠ b
  bs : ∀ b o, X.base.get? b = some o → X.s_0.heap.get? b = some o ∧ X.H_0 b = none
  bsz : X.base.objs.size ≤ X.s_0.heap.objs.size
  noex : ∀ b o, X.base.get? b = some o → b ∉ X.ex
  exfs : ∀ b ∈ X.ex, b ∉ X.fs
  funs : X.s_0.heap.FunFrames X.base X.outer
  frf : ∀ b ∈ X.fs, X.H_0 b = none
structure Inv (X : Cx) (pins : List (Addr × Obj)) (σ : List (Option V)) (H : Hp) (s : Shared) : Prop where
  ok : X.Ok
  os : s.os = X.s_0.os
  bare : AllBare s.gens
  base : Un X.fs X.ex X.H_0 H X.s_0.heap s.heap
  loc : ∃ m, s.heap.Ns X.env.locals m ∧ ∀ (i : Nat) (x : Str) (v : V), X.N[i]? = some x → σ[i]? = some (some v) → Vis X.env.scope x → ∃ u, RelV v u ∧ Look X.env s.heap m x u
  cell : ∀ x c, X.env.cells.lookup x = some c → ∃ v, s.heap.IsCell c v
  free : H X.env.locals = none
  freeC : ∀ x c, X.env.cells.lookup x = some c → H c = none
  pin : ∀ p ∈ X.pn ++ pins, s.heap.get? p.1 = some p.2 ∧ H p.1 = none ∧ p.1 ≠ X.env.locals ∧ p.1 ∉ X.fs ∧ ∀ v, p.2.data ≠ .cell v
  hok : HOk X.prog X.w H s.heap
  len : σ.length = X.N.length
section
variable {X : Cx} {pins : List (Addr × Obj)} {σ : List (Option V)} {H H' : Hp} {s : Shared} {h' : Heap}
theorem Cx.Ok.nofr (ok : X.Ok) {b : Addr} {o : Obj} (e : X.base.get? b = some o) : b ∉ X.fs := fun hb => by
  have := (ok.funs.mem hb).1
  rw [e] at this; cases this
theorem Inv.bs (I : Inv X pins σ H s) : ∀ b o, X.base.get? b = some o → s.heap.get? b = some o ∧ H b = none := fun b o e =>
  ⟨I.base.keep b o (I.ok.bs b o e).1 (I.ok.bs b o e).2 (I.ok.nofr e) (I.ok.noex b o e), I.base.free b o (I.ok.bs b o e).1 (I.ok.bs b o e).2 (I.ok.noex b o e)⟩
theorem Inv.bk (I : Inv X pins σ H s) : ∀ b o, X.base.get? b = some o → s.heap.get? b = some o := fun b o e => (I.bs b o e).1
theorem Inv.mod (I : Inv X pins σ H s) : Mod X.K X.mg X.base := I.ok.mod
theorem Inv.kIn (I : Inv X pins σ H s) : X.K.In s.heap := I.ok.mod.kin.keeps I.bk
theorem Inv.nolimit (I : Inv X pins σ H s) : s.heap.NoLimit := I.ok.mod.nolimit.keeps I.bk
theorem Inv.lt (I : Inv X pins σ H s) : X.env.locals < s.heap.objs.size := let ⟨_, hn, _⟩ := I.loc; hn.lt
theorem Inv.sz (I : Inv X pins σ H s) : X.s_0.heap.objs.size ≤ s.heap.objs.size := Nat.le_trans I.ok.above (Nat.le_of_lt I.lt)
theorem Inv.nofs (I : Inv X pins σ H s) {a : Addr} (h : s.heap.objs.size ≤ a) : a ∉ X.fs := fun hb => by
  obtain ⟨_, o, ho, _⟩ := I.ok.funs.mem hb
  exact absurd (Nat.lt_of_lt_of_le (Heap.lt_size ho) (Nat.le_trans I.sz h)) (Nat.lt_irrefl _)
theorem Inv.cne (I : Inv X pins σ H s) : ∀ x c, X.env.cells.lookup x = some c → c ≠ X.env.locals := fun x c e z => by
  obtain ⟨v, o, ho, hd⟩ := I.cell x c e
  obtain ⟨m, ⟨o', es, ep, ho', hd', _⟩, _⟩ := I.loc
  rw [z, ho'] at ho; cases ho; rw [hd'] at hd; cases hd
theorem Inv.funs (I : Inv X pins σ H s) : s.heap.FunFrames X.base X.outer := by
  have all : ∀ (l : List Env), (∀ b ∈ frs l, b ∈ X.fs) → X.s_0.heap.FunFrames X.base l → s.heap.FunFrames X.base l := by
    intro l
    induction l with
    | nil => intro _ _; trivial
    | cons env r ih =>
      intro hs hl
      obtain ⟨hk, ⟨L, o, hf, hn, ho, hd⟩, hr⟩ := hl
      have hL : L ∈ X.fs := hs L (by unfold frs; rw [List.filterMap_cons, hf]; exact List.mem_cons_self)
      obtain ⟨sl, e⟩ := I.base.slot L o ho (I.ok.frf L hL) hL fun z => I.ok.exfs L z hL
      exact ⟨hk, ⟨L, _, hf, hn, e, hd⟩, ih (fun b hb => hs b (by unfold frs; rw [List.filterMap_cons, hf]; exact List.mem_cons_of_mem _ hb)) hr⟩
  exact all X.outer (fun _ hb => hb) I.ok.funs
theorem Inv.stack (I : Inv X pins σ H s) : s.heap.FunFrames X.base X.stack := by
  rcases I.ok.stk with e | ⟨e, hf⟩
  · rw [e]; exact I.funs
  · rw [e]
    obtain ⟨m, hn, _⟩ := I.loc
    refine .cons (by rw [I.ok.kind]; decide) hf hn ?_ I.funs
    exact Heap.get?_none_of_le (Nat.le_trans I.ok.bsz I.ok.above)
theorem Inv.stkSub (I : Inv X pins σ H s) : ∀ b ∈ frs X.stack, b ∈ X.env.locals :: X.fs := fun b hb => by
  rcases I.ok.stk with e | ⟨e, hf⟩
  · rw [e] at hb; exact List.mem_cons_of_mem _ hb
  · rw [e] at hb
    unfold frs at hb
    rw [List.filterMap_cons, hf] at hb
    exact hb
theorem Inv.stkFree (I : Inv X pins σ H s) : ∀ b ∈ frs X.stack, H b = none := fun b hb => by
  rcases List.mem_cons.mp (I.stkSub b hb) with e | hb
  · rw [e]; exact I.free
  · obtain ⟨_, o, ho, _⟩ := I.ok.funs.mem hb
    exact I.base.free b o ho (I.ok.frf b hb) fun z => I.ok.exfs b z hb
theorem Inv.step {g' : Array GenState} {t' : Nat} {d' : Drawn} {ch : List Addr} (I : Inv X pins σ H s)
    (hch : ∀ b ∈ ch, (b ∈ X.ex ∨ X.s_0.heap.objs.size ≤ b) ∧ b ≠ X.env.locals ∧ (∀ x c, X.env.cells.lookup x = some c → c ≠ b) ∧ ∀ p ∈ X.pn ++ pins, p.1 ≠ b)
    (keep : ∀ b o, b ≠ X.env.locals → b ∉ X.fs → b ∉ ch → s.heap.get? b = some o → H b = none → h'.get? b = some o)
    (slot : ∀ b o, b ≠ X.env.locals → b ∈ X.fs → b ∉ ch → s.heap.get? b = some o → H b = none → ∃ sl, h'.get? b = some { o with slots := sl }) (free : ∀ b o, b ∉ ch → s.heap.get? b = some o → H b = none → H' b = none)
    (there : ∀ b o, b ∉ ch → s.heap.get? b = some o → ∃ o', h'.get? b = some o')
    (tups : ∀ b xs, H b = some (.tup xs) → H' b = some (.tup xs)) (frzs : ∀ b o u, H b = some (.frz o u) → H' b = some (.frz o u)) (tbls : ∀ b ps, H b = some (.tbl ps) → ∃ more, H' b = some (.tbl (ps ++ more)))
    (ns : ∀ m, s.heap.Ns X.env.locals m → h'.Ns X.env.locals m) (hok : HOk X.prog X.w H' h') (hg : AllBare g') :
    Inv X pins σ H' { s with heap := h', gens := g', drawn := d', toks := t' } := by
  have neL : ∀ b o, X.s_0.heap.get? b = some o → b ≠ X.env.locals := fun b o e => Nat.ne_of_lt (Nat.lt_of_lt_of_le (Heap.lt_size e) I.ok.above)
  have neC : ∀ b o, X.s_0.heap.get? b = some o → b ∉ X.ex → b ∉ ch := fun b o e hx hb => by
    rcases (hch b hb).1 with z | z
    · exact hx z
    · exact absurd (Nat.lt_of_lt_of_le (Heap.lt_size e) z) (Nat.lt_irrefl _)
  have cellK : ∀ x c, X.env.cells.lookup x = some c → ∀ v, s.heap.IsCell c v → h'.IsCell c v := fun x c e v ⟨o, ho, hd⟩ => by
    have nch : c ∉ ch := fun z => (hch c z).2.2.1 x c e rfl
    by_cases hc : c ∈ X.fs
    · obtain ⟨sl, q⟩ := slot c o (I.cne x c e) hc nch ho (I.freeC x c e)
      exact ⟨_, q, hd⟩
    · exact ⟨o, keep c o (I.cne x c e) hc nch ho (I.freeC x c e), hd⟩
  refine ⟨I.ok, I.os, hg, ⟨fun b o e n hb hx => ?_, fun b o e n hb hx => ?_, fun b o e n hx => ?_, fun b o e hx => ?_, fun b xs e => tups b xs (I.base.tups b xs e), fun b o xs e => frzs b o xs (I.base.frzs b o xs e), fun b ps e => ?_⟩, ?_, fun x c e => ?_, ?_, fun x c e => ?_, fun p hp => ?_, hok, I.len⟩
  · exact keep b o (neL b o e) hb (neC b o e hx) (I.base.keep b o e n hb hx) (I.base.free b o e n hx)
  · obtain ⟨sl, e1⟩ := I.base.slot b o e n hb hx
    obtain ⟨sl', e2⟩ := slot b _ (neL b o e) hb (neC b o e hx) e1 (I.base.free b o e n hx)
    exact ⟨sl', e2⟩
  · obtain ⟨o', e1⟩ := I.base.there b o e hx
    exact free b o' (neC b o e hx) e1 (I.base.free b o e n hx)
  · obtain ⟨o', e1⟩ := I.base.there b o e hx
    exact there b o' (neC b o e hx) e1
  · obtain ⟨m1, e1⟩ := I.base.tbls b ps e
    obtain ⟨m2, e2⟩ := tbls b _ e1
    exact ⟨m1 ++ m2, by rw [e2, Array.append_assoc]⟩
  · obtain ⟨m, hn, hl⟩ := I.loc
    refine ⟨m, ns m hn, fun i x v e1 e2 e3 => ?_⟩
    obtain ⟨u, r, l⟩ := hl i x v e1 e2 e3
    refine ⟨u, r, ?_⟩
    rcases l with l | ⟨k, c, e, z⟩
    · exact .inl l
    · exact .inr ⟨k, c, e, cellK x c e _ z⟩
  · obtain ⟨v, z⟩ := I.cell x c e
    exact ⟨v, cellK x c e v z⟩
  · obtain ⟨m, ⟨o, _, _, ho, _⟩, _⟩ := I.loc
    exact free _ o (fun z => (hch _ z).2.1 rfl) ho I.free
  · obtain ⟨v, o, ho, hd⟩ := I.cell x c e
    exact free c o (fun z => (hch c z).2.2.1 x c e rfl) ho (I.freeC x c e)
  · obtain ⟨e, n, ne, nf, d⟩ := I.pin p hp
    have nch : p.1 ∉ ch := fun z => (hch p.1 z).2.2.2 p hp rfl
    exact ⟨keep p.1 p.2 ne nf nch e n, free p.1 p.2 nch e n, ne, nf, d⟩
theorem Inv.un {t' : Nat} (I : Inv X pins σ H s) (u : Un X.fs [] H H' s.heap h') (hok : HOk X.prog X.w H' h') : Inv X pins σ H' { s with heap := h', toks := t' } := by
  obtain ⟨m, ⟨o, es, ep, ho, r⟩, _⟩ := id I.loc
  obtain ⟨sl, hL⟩ := u.any ho I.free (by simp)
  exact I.step (g' := s.gens) (d' := s.drawn) (ch := []) (fun _ z => nomatch z) (fun b o _ hb _ e n => u.keep b o e n hb (by simp)) (fun b o _ hb _ e n => u.slot b o e n hb (by simp)) (fun b o _ e n => u.free b o e n (by simp)) (fun b o _ e => u.there b o e (by simp)) u.tups u.frzs u.tbls (fun m' hm => by
    obtain ⟨o', es', ep', ho', r'⟩ := hm
    rw [ho] at ho'; cases ho'
    exact ⟨_, es', ep', hL, r'⟩) hok I.bare
theorem Inv.call {g' : Array GenState} {t' : Nat} {d' : Drawn} {ch : List Addr} (I : Inv X pins σ H s) (u : Un (frs X.stack) ch H H' s.heap h') (hok : HOk X.prog X.w H' h') (hg : AllBare g')
    (hch : ∀ b ∈ ch, (b ∈ X.ex ∨ X.s_0.heap.objs.size ≤ b) ∧ b ≠ X.env.locals ∧ (∀ x c, X.env.cells.lookup x = some c → c ≠ b) ∧ ∀ p ∈ X.pn ++ pins, p.1 ≠ b) :
    Inv X pins σ H' { s with heap := h', gens := g', drawn := d', toks := t' } := by
  obtain ⟨m, ⟨o, es, ep, ho, r⟩, _⟩ := id I.loc
  obtain ⟨sl, hL⟩ := u.any ho I.free fun z => (hch _ z).2.1 rfl
  exact I.step (ch := ch) hch (fun b o hL hb hc e n => u.keep b o e n (fun z => (List.mem_cons.mp (I.stkSub b z)).elim hL hb) hc) (fun b o _ _ hc e n => u.any e n hc) (fun b o hc e n => u.free b o e n hc) (fun b o hc e => u.there b o e hc) u.tups u.frzs u.tbls (fun m' hm => by
    obtain ⟨o', es', ep', ho', r'⟩ := hm
    rw [ho] at ho'; cases ho'
    exact ⟨_, es', ep', hL, r'⟩) hok hg
theorem Inv.turned {t' : Nat} {it : Addr} (I : Inv X pins σ H s) (k : ∀ b o, b ≠ it → s.heap.get? b = some o → h'.get? b = some o) (hn : H it = none) (hL : it ≠ X.env.locals)
    (h1 : it ∈ X.ex ∨ X.s_0.heap.objs.size ≤ it) (h2 : ∀ x c, X.env.cells.lookup x = some c → c ≠ it) (h3 : ∀ p ∈ X.pn ++ pins, p.1 ≠ it) : Inv X pins σ H { s with heap := h', toks := t' } := by
  have nit : ∀ b u, H b = some u → b ≠ it := fun b u e z => by rw [z, hn] at e; cases e
  refine I.step (g' := s.gens) (d' := s.drawn) (ch := [it]) (fun b hb => ?_) (fun b o _ _ hc e _ => k b o (fun z => hc (by simp [z])) e) (fun b o _ _ hc e _ => ⟨o.slots, k b o (fun z => hc (by simp [z])) e⟩) (fun _ _ _ _ n => n)
    (fun b o hc e => ⟨o, k b o (fun z => hc (by simp [z])) e⟩) (fun _ _ e => e) (fun _ _ _ e => e) (fun b ps e => ⟨#[], by rw [e]; simp⟩) (fun m hm => ?_) (fun b u e => ?_) I.bare
  · have e : b = it := by simpa using hb
    subst e
    exact ⟨h1, hL, h2, h3⟩
  · obtain ⟨o, es, ep, ho, r⟩ := hm
    exact ⟨o, es, ep, k _ o (Ne.symm hL) ho, r⟩
  · refine (I.hok b u e).stay (fun c v hc q => k c v ?_ q) (fun _ q => q) fun _ _ q => q
    rcases hc with z | z
    · rw [z]; exact nit b u e
    · exact nit c _ z
theorem Inv.tok (I : Inv X pins σ H s) (t : Nat) : Inv X pins σ H { s with toks := t } := I.un (h' := s.heap) (t' := t) Un.refl I.hok
theorem Inv.kept {t' : Nat} (I : Inv X pins σ H s) (k : ∀ b u, s.heap.get? b = some u → h'.get? b = some u) : Inv X pins σ H { s with heap := h', toks := t' } := I.un (Un.kept k) (I.hok.kept k)
theorem Inv.laid {a : Addr} {o : HO} {t' : Nat} (I : Inv X pins σ H s) (k : ∀ b u, s.heap.get? b = some u → h'.get? b = some u) (hp : s.heap.objs.size ≤ a) (new : ObjOk X.prog X.w (upd H a o) h' a o) :
    Inv X pins σ (upd H a o) { s with heap := h', toks := t' } := I.un (Un.laid k hp (I.hok.fresh hp)) (I.hok.laid k hp new)
theorem Inv.write {x e : Addr} {o : HO} {t' : Nat} (I : Inv X pins σ H s) (mu : Mut (H x)) (he : e = x ∨ H e = some (.own x)) (k : ∀ b u, b ≠ e → s.heap.get? b = some u → h'.get? b = some u) (heo : ∃ u, h'.get? e = some u)
    (new : ObjOk X.prog X.w (upd H x o) h' x o) : Inv X pins σ (upd H x o) { s with heap := h', toks := t' } := I.un (Un.write mu he k heo) (I.hok.write mu he k heo new)
theorem Inv.weak {σ' : List (Option V)} (I : Inv X pins σ H s) (hl : σ'.length = σ.length) (w : ∀ (i : Nat) v, σ'[i]? = some (some v) → σ[i]? = some (some v)) : Inv X pins σ' H s :=
  ⟨I.ok, I.os, I.bare, I.base, let ⟨m, hn, hl'⟩ := I.loc; ⟨m, hn, fun i x v e1 e2 e3 => hl' i x v e1 (w i v e2) e3⟩, I.cell, I.free, I.freeC, I.pin, I.hok, hl.trans I.len⟩
theorem Inv.pins_of {pins' : List (Addr × Obj)} (I : Inv X pins σ H s) (h : ∀ p ∈ pins', s.heap.get? p.1 = some p.2 ∧ H p.1 = none ∧ p.1 ≠ X.env.locals ∧ p.1 ∉ X.fs ∧ ∀ v, p.2.data ≠ .cell v) : Inv X pins' σ H s :=
  ⟨I.ok, I.os, I.bare, I.base, I.loc, I.cell, I.free, I.freeC, fun p hp => (List.mem_append.mp hp).elim (fun z => I.pin p (List.mem_append_left _ z)) (h p), I.hok, I.len⟩
theorem nodup_ix {N : List Str} (hN : N.Nodup) {i j : Nat} {x : Str} (a : N[i]? = some x) (b : N[j]? = some x) : i = j := by
  obtain ⟨h1, e1⟩ := List.getElem?_eq_some_iff.mp a
  obtain ⟨h2, e2⟩ := List.getElem?_eq_some_iff.mp b
  exact (List.getElem_inj hN).mp (e1.trans e2.symm)
theorem store_ok2 {M : Model} {A : Around} {E : Value → Shared → Prop} {i : Nat} {x : Str} {v : V} {u : Value} {Q : Unit → Shared → Prop} (I : Inv X pins σ H s) (hN : X.N.Nodup) (hi : X.N[i]? = some x) (hx : Loc X.env.scope x) (r : RelV v u)
    (h : ∀ s', Inv X pins (σ.set i (some v)) H s' → (∃ a, Heap.SameBut a s.heap s'.heap ∧ (a = X.env.locals ∨ X.env.cells.lookup x = some a)) → Q () s') (hf : X.fn x = true ∨ X.env.scope.names.lookup x = some .local := by first | exact .inl rfl | exact .inr rfl | assumption) : wpAny M A (storeName X.env x u) Q E s := by
  obtain ⟨m, hn, hl⟩ := id I.loc
  have hcls : (X.env.scope.kind == .class || (X.env.scope.kind == .module && X.env.locals != X.env.globals)) = false := by rw [I.ok.kind]; rfl
  have hiσ : i < σ.length := by rw [I.len]; exact (List.getElem?_eq_some_iff.mp hi).1
  have cne := I.cne
  have tracked : ∀ {a : Addr} {h' : Heap}, (∃ o, s.heap.get? a = some o ∧ H a = none) → Heap.SameBut a s.heap h' → HOk X.prog X.w H h' := fun {a h'} ha hs b ob e => by
    obtain ⟨_, _, hfree⟩ := ha
    refine (I.hok b ob e).stay (fun c w' hc q => (hs.2 c ?_).trans q) (fun _ q => q) fun _ _ q => q
    rintro rfl
    rcases hc with rfl | hc
    · rw [hfree] at e; cases e
    · rw [hfree] at hc; cases hc
  rcases hx with hk | hk
  · refine wpAny_storeName_local hk hn (fun h' hn' hs => ?_) hcls
    obtain ⟨oL, _, _, hoL, _⟩ := id hn
    refine h _ ⟨I.ok, I.os, I.bare, ⟨fun b o e n hb hx => ?_, fun b o e n hb hx => ?_, I.base.free, fun b o e hx => ?_, I.base.tups, I.base.frzs, I.base.tbls⟩, ⟨_, hn', fun j y v' e1 e2 e3 => ?_⟩, fun y c e => ?_, I.free, I.freeC, fun p hp => ?_, tracked ⟨oL, hoL, I.free⟩ hs, by simpa using I.len⟩ ⟨_, hs, .inl rfl⟩
    · exact (hs.2 b (Nat.ne_of_lt (Nat.lt_of_lt_of_le (Heap.lt_size e) I.ok.above))).trans (I.base.keep b o e n hb hx)
    · obtain ⟨sl, e1⟩ := I.base.slot b o e n hb hx
      exact ⟨sl, (hs.2 b (Nat.ne_of_lt (Nat.lt_of_lt_of_le (Heap.lt_size e) I.ok.above))).trans e1⟩
    · obtain ⟨o', e1⟩ := I.base.there b o e hx
      exact ⟨o', (hs.2 b (Nat.ne_of_lt (Nat.lt_of_lt_of_le (Heap.lt_size e) I.ok.above))).trans e1⟩
    · by_cases hj : j = i
      · subst hj
        rw [hi] at e1; cases e1
        rw [List.getElem?_set_self hiσ] at e2
        cases e2
        exact ⟨u, r, .inl ⟨hk, by simp⟩⟩
      · rw [List.getElem?_set_ne (Ne.symm hj)] at e2
        obtain ⟨u', r', q⟩ := hl j y v' e1 e2 e3
        refine ⟨u', r', ?_⟩
        rcases q with ⟨k, e⟩ | ⟨k, c, e, z⟩
        · refine .inl ⟨k, ?_⟩
          have : y ≠ x := fun e => hj (nodup_ix hN e1 (e ▸ hi))
          simp [this, e]
        · exact .inr ⟨k, c, e, z.sameBut hs (cne y c e)⟩
    · obtain ⟨w', z⟩ := I.cell y c e
      exact ⟨w', z.sameBut hs (cne y c e)⟩
    · obtain ⟨e, n, ne, nf, d⟩ := I.pin p hp
      exact ⟨(hs.2 p.1 ne).trans e, n, ne, nf, d⟩
  · have hfn : X.fn x = true := by
      rcases hf with z | z
      · exact z
      · rw [z] at hk; cases hk
    obtain ⟨c, hc⟩ := I.ok.has x (.inl hk)
    obtain ⟨w', z⟩ := I.cell x c hc
    refine wpAny_storeName_cell I.ok.kind hk hc z (fun h' hc' hs => ?_)
    obtain ⟨oc, hoc, hocd⟩ := id z
    refine h { s with heap := h' } ⟨I.ok, I.os, I.bare, ⟨fun b o e n hb hx => ?_, fun b o e n hb hx => ?_, I.base.free, fun b o e hx => ?_, I.base.tups, I.base.frzs, I.base.tbls⟩, ⟨m, hn.sameBut hs (Ne.symm (cne x c hc)), fun j y v' e1 e2 e3 => ?_⟩, fun y c' e => ?_, I.free, I.freeC, fun p hp => ?_, tracked ⟨oc, hoc, I.freeC x c hc⟩ hs, by simpa using I.len⟩ ⟨c, hs, .inr hc⟩
    · exact (hs.2 b (Nat.ne_of_lt (Nat.lt_of_lt_of_le (Heap.lt_size e) (I.ok.cab x c hfn hc)))).trans (I.base.keep b o e n hb hx)
    · obtain ⟨sl, e1⟩ := I.base.slot b o e n hb hx
      exact ⟨sl, (hs.2 b (Nat.ne_of_lt (Nat.lt_of_lt_of_le (Heap.lt_size e) (I.ok.cab x c hfn hc)))).trans e1⟩
    · obtain ⟨o', e1⟩ := I.base.there b o e hx
      exact ⟨o', (hs.2 b (Nat.ne_of_lt (Nat.lt_of_lt_of_le (Heap.lt_size e) (I.ok.cab x c hfn hc)))).trans e1⟩
    · by_cases hj : j = i
      · subst hj
        rw [hi] at e1; cases e1
        rw [List.getElem?_set_self hiσ] at e2
        cases e2
        exact ⟨u, r, .inr ⟨.inl hk, c, hc, hc'⟩⟩
      · rw [List.getElem?_set_ne (Ne.symm hj)] at e2
        obtain ⟨u', r', q⟩ := hl j y v' e1 e2 e3
        refine ⟨u', r', ?_⟩
        rcases q with q | ⟨k, c', e, z'⟩
        · exact .inl q
        · refine .inr ⟨k, c', e, z'.sameBut hs ?_⟩
          rintro rfl
          exact hj (nodup_ix hN e1 (I.ok.inj _ _ _ e hc ▸ hi))
    · by_cases hcc : c' = c
      · subst hcc; exact ⟨_, hc'⟩
      · obtain ⟨w2, z2⟩ := I.cell y c' e
        exact ⟨w2, z2.sameBut hs hcc⟩
    · obtain ⟨e, n, ne, nf, d⟩ := I.pin p hp
      refine ⟨(hs.2 p.1 ?_).trans e, n, ne, nf, d⟩
      intro q
      rw [q, hoc] at e
      have q' : oc = p.2 := Option.some.inj e
      exact d w' (by rw [← q']; exact hocd)
theorem store_ok {M : Model} {A : Around} {E : Value → Shared → Prop} {i : Nat} {x : Str} {v : V} {u : Value} {Q : Unit → Shared → Prop} (I : Inv X pins σ H s) (hN : X.N.Nodup) (hi : X.N[i]? = some x) (hx : Loc X.env.scope x) (r : RelV v u)
    (h : ∀ s', Inv X pins (σ.set i (some v)) H s' → Q () s') (hf : X.fn x = true ∨ X.env.scope.names.lookup x = some .local := by first | exact .inl rfl | exact .inr rfl | assumption) : wpAny M A (storeName X.env x u) Q E s :=
  store_ok2 I hN hi hx r (fun s' I' _ => h s' I') hf
theorem Inv.call' {s' : Shared} {ch : List Addr} (I : Inv X pins σ H s) (ho : s'.os = s.os) (u : Un (frs X.stack) ch H H' s.heap s'.heap) (hok : HOk X.prog X.w H' s'.heap) (hg : AllBare s'.gens)
    (hch : ∀ b ∈ ch, (b ∈ X.ex ∨ X.s_0.heap.objs.size ≤ b) ∧ b ≠ X.env.locals ∧ (∀ x c, X.env.cells.lookup x = some c → c ≠ b) ∧ ∀ p ∈ X.pn ++ pins, p.1 ≠ b) : Inv X pins σ H' s' := by
  obtain ⟨h', g', d', t', o'⟩ := s'
  have e : o' = s.os := ho
  subst e
  exact I.call (g' := g') (t' := t') (d' := d') u hok hg hch
end
abbrev XK := Value → Option Addr → Hp → Prop
abbrev St := List (Option V)
abbrev VK := V → Hp → Prop
abbrev TE := St → Hp → VK → Prop
abbrev TT := St → Hp → (Bool → Hp → Prop) → Prop
abbrev TA := St → Hp → (List V → Hp → Prop) → Prop
structure Ends where
  nx : St → Hp → Prop
  rt : VK
  bk : St → Hp → Prop := fun _ _ => False
  ct : St → Hp → Prop := fun _ _ => False
abbrev TS := Ends → St → Hp → Prop
def EP (X : Cx) (pins : List (Addr × Obj)) (σ : St) (Q : VK) (u : Value) (s' : Shared) : Prop := ∃ v H', Inv X pins σ H' s' ∧ RelV v u ∧ Q v H'
def TP (X : Cx) (pins : List (Addr × Obj)) (σ : St) (Q : Bool → Hp → Prop) (b : Bool) (s' : Shared) : Prop := ∃ H', Inv X pins σ H' s' ∧ Q b H'
def AP (X : Cx) (pins : List (Addr × Obj)) (σ : St) (Q : List V → Hp → Prop) (us : List Value) (s' : Shared) : Prop := ∃ vs H', Inv X pins σ H' s' ∧ Vals vs us ∧ Q vs H'
def SP (X : Cx) (pins : List (Addr × Obj)) (D : Ends) (f : Flow) (s' : Shared) : Prop :=
  match f with
  | .next => ∃ σ' H', Inv X pins σ' H' s' ∧ D.nx σ' H'
  | .brk => ∃ σ' H', Inv X pins σ' H' s' ∧ D.bk σ' H'
  | .cont => ∃ σ' H', Inv X pins σ' H' s' ∧ D.ct σ' H'
  | .ret u => ∃ v σ' H', Inv X pins σ' H' s' ∧ RelV v u ∧ D.rt v H'
def PE (X : Cx) (e : Expr) (t : TE) : Prop :=
  ∀ (pins : List (Addr × Obj)) (s : Shared) (σ : St) (H : Hp) (Q : VK), Inv X pins σ H s → t σ H Q → wpAny (model X.prog X.w) X.A (eval e X.env) (EP X pins σ Q) X.xe s
def PT (X : Cx) (e : Expr) (t : TT) : Prop :=
  ∀ (pins : List (Addr × Obj)) (s : Shared) (σ : St) (H : Hp) (Q : Bool → Hp → Prop), Inv X pins σ H s → t σ H Q → wpAny (model X.prog X.w) X.A (isTrue e X.env (eval e X.env)) (TP X pins σ Q) X.xe s
def PW (X : Cx) (e : Expr) (t : TT) : Prop :=
  ∀ (whole : Sem Value) (pins : List (Addr × Obj)) (s : Shared) (σ : St) (H : Hp) (Q : Bool → Hp → Prop), Inv X pins σ H s → t σ H Q → wpAny (model X.prog X.w) X.A (isTrue e X.env whole) (TP X pins σ Q) X.xe s
theorem PW.pt {X : Cx} {e : Expr} {t : TT} (h : PW X e t) : PT X e t := h _
def PA (X : Cx) (es : List Expr) (t : TA) : Prop :=
  ∀ (pos : Pos) (pins : List (Addr × Obj)) (s : Shared) (σ : St) (H : Hp) (Q : List V → Hp → Prop), Inv X pins σ H s → t σ H Q → wpAny (model X.prog X.w) X.A (spliced (backTo pos (starEach es X.env))) (AP X pins σ Q) X.xe s
def PS (X : Cx) (st : Stmt) (t : TS) : Prop :=
  ∀ (pins : List (Addr × Obj)) (s : Shared) (σ : St) (H : Hp) (D : Ends), Inv X pins σ H s → t D σ H → wpAny (model X.prog X.w) X.A (exec st X.env) (SP X pins D) X.xe s
def PSs (X : Cx) (st : List Stmt) (t : TS) : Prop :=
  ∀ (pins : List (Addr × Obj)) (s : Shared) (σ : St) (H : Hp) (D : Ends), Inv X pins σ H s → t D σ H → wpAny (model X.prog X.w) X.A (execs st X.env) (SP X pins D) X.xe s
theorem thn {α : Type} {t : Sem α} {Q Q' : α → Shared → Prop} {M : Model} {A : Around} {E : Value → Shared → Prop} {s : Shared} (h : wpAny M A t Q E s) (hQ : ∀ a s, Q a s → Q' a s) : wpAny M A t Q' E s := wpAny_mono h hQ fun _ _ x => x
end L2
namespace L2
open PySem PySem.Spec PyProof.Rows
section
variable {X : Cx}
def tVar (i : Nat) : TE := fun σ H Q => ∃ v, σ[i]? = some (some v) ∧ Q v H
def tC (v : V) : TE := fun _ H Q => Q v H
theorem pe_var {i : Nat} {x : Str} {pos : Pos} (hN : X.N[i]? = some x) (hv : Vis X.env.scope x) (hd : (x == ("__debug__" : Str)) = false := by decide) (hcd : (x == ("__classdict__" : Str)) = false := by decide) : PE X (.Name x pos) (tVar i) := by
  intro pins s σ H Q I h
  obtain ⟨v, e, h⟩ := h
  obtain ⟨m, hn, hl⟩ := I.loc
  obtain ⟨u, r, l⟩ := hl i x v hN e hv
  have fin : EP X pins σ Q u s := ⟨v, H, I, r, h⟩
  rcases l with ⟨hk, hm⟩ | ⟨hk, c, hc, hcell⟩
  · exact wpAny_Name (wpAny_loadName_local I.ok.kind hk hn hm fin) hd
  · rcases hk with hk | hk
    · exact wpAny_Name (wpAny_loadName_cell I.ok.kind hk hc hcell fin) hd
    · exact wpAny_Name (wpAny_loadName_free I.ok.kind hk hc hcell fin hcd) hd
theorem pe_int {i j pos} : PE X (.Constant (.int i) j pos) (tC (.int i)) := fun _ _ _ H _ I h => wpAny_Constant_int ⟨.int i, H, I.tok _, ⟨_, rfl⟩, h⟩
theorem pe_bl {b j pos} : PE X (.Constant (.bool b) j pos) (tC (.bl b)) := fun _ _ _ H _ I h => Constant_bool ⟨.bl b, H, I, rfl, h⟩
theorem pe_non {j pos} : PE X (.Constant .none j pos) (tC .non) := fun _ _ _ H _ I h => Constant_none ⟨.non, H, I, rfl, h⟩
theorem pe_str {x j pos} : PE X (.Constant (.str x) j pos) (tC (.str x)) := fun _ _ _ H _ I h => Calls.Constant_str ⟨.str x, H, I.tok _, ⟨_, rfl⟩, h⟩
def Gl (X : Cx) (x : Str) : Prop := X.env.kindOf x = some .globalImplicit
theorem ld_glob {E : Value → Shared → Prop} {pins : List (Addr × Obj)} {s : Shared} {σ : St} {H : Hp} {x : Str} {u : Value} {pos : Pos} {Q : Value → Shared → Prop} (I : Inv X pins σ H s) (hg : Gl X x) (hm : X.mg x = some u) (h : Q u s)
    (hd : (x == ("__debug__" : Str)) = false := by decide) : wpAny (model X.prog X.w) X.A (eval (.Name x pos) X.env) Q E s :=
  Calls.Name_function_global I.ok.kind hg (Calls.loadGlobal_global (by rw [I.ok.glob]; exact I.mod.glob.keeps I.bk) hm h) hd
theorem ld_blt {E : Value → Shared → Prop} {pins : List (Addr × Obj)} {s : Shared} {σ : St} {H : Hp} {x : Str} {u : Value} {pos : Pos} {Q : Value → Shared → Prop} (I : Inv X pins σ H s) (hg : Gl X x) (hm : X.mg x = none) (hv : bootBuiltins x = some u) (h : Q u s)
    (hn : x ≠ "__name__" := by decide) (hd : (x == ("__debug__" : Str)) = false := by decide) : wpAny (model X.prog X.w) X.A (eval (.Name x pos) X.env) Q E s := by
  obtain ⟨mb, h1, h2⟩ := I.mod.blt
  exact Calls.Name_function_global I.ok.kind hg (Calls.loadGlobal_builtin (by rw [I.ok.glob]; exact I.mod.glob.keeps I.bk) hm (by rw [I.ok.blt]; exact h1.keeps I.bk) ((h2 x hn).trans hv) h) hd
theorem pe_glob {x : Str} {v : V} {u : Value} {pos : Pos} (hg : Gl X x) (hm : X.mg x = some u) (r : RelV v u) (hd : (x == ("__debug__" : Str)) = false := by decide) : PE X (.Name x pos) (tC v) :=
  fun _ _ _ H _ I h => ld_glob I hg hm ⟨v, H, I, r, h⟩ hd
theorem pe_bltn {x : Str} {v : V} {u : Value} {pos : Pos} (hg : Gl X x) (hm : X.mg x = none) (hv : bootBuiltins x = some u) (r : RelV v u) (hn : x ≠ "__name__" := by decide) (hd : (x == ("__debug__" : Str)) = false := by decide) : PE X (.Name x pos) (tC v) :=
  fun _ _ _ H _ I h => ld_blt I hg hm hv ⟨v, H, I, r, h⟩ hn hd
variable {a b : Expr} {ta tb : TE} {pos : Pos}
def tB (t : TE) : TT := fun σ H Q => t σ H fun x H1 => ∃ c, x = .bl c ∧ Q c H1
theorem pt_val {e : Expr} {t : TE} (h : PE X e t) (he : ∀ whole, isTrue e X.env whole = (do let v ← whole; standAt e.pos; holding [v] (truthy v)) := by intro _; rfl) : PT X e (tB t) := by
  intro pins s σ H Q I hw
  refine isTrue_plain (thn (h pins s σ H _ I hw) fun v s1 ⟨x, H1, I1, r1, q1⟩ => ?_) (he _)
  obtain ⟨d, rfl, q⟩ := q1
  cases r1
  exact wpAny_truthy_bool ⟨H1, I1, q⟩
variable {tA tB' : TT} {rest : List Expr}
def tAnd (t u : TT) : TT := fun σ H Q => t σ H fun c H1 => if c = true then u σ H1 Q else Q false H1
def tOr (t u : TT) : TT := fun σ H Q => t σ H fun c H1 => if c = true then Q true H1 else u σ H1 Q
def tNot (t : TT) : TT := fun σ H Q => t σ H fun c H1 => Q (!c) H1
theorem pw_and1 (ha : PT X a tA) : PW X (.BoolOp .And [a] pos) tA := by
  intro wh pins s σ H Q I h
  refine isTrue_and (thn (ha pins s σ H Q I h) fun c s1 e => ?_)
  cases c with
  | true => exact isTrue_and_nil e
  | false => exact e
theorem pw_or1 (ha : PT X a tA) : PW X (.BoolOp .Or [a] pos) tA := by
  intro wh pins s σ H Q I h
  refine isTrue_or (thn (ha pins s σ H Q I h) fun c s1 e => ?_)
  cases c with
  | false => exact isTrue_or_nil e
  | true => exact e
theorem pw_and (ha : PT X a tA) (hb : PW X (.BoolOp .And (b :: rest) pos) tB') : PW X (.BoolOp .And (a :: b :: rest) pos) (tAnd tA tB') := by
  intro wh pins s σ H Q I h
  refine isTrue_and (thn (ha pins s σ H _ I h) fun c s1 ⟨H1, I1, q1⟩ => ?_)
  cases c with
  | true => exact hb wh pins s1 σ H1 Q I1 q1
  | false => exact ⟨H1, I1, q1⟩
theorem pw_or (ha : PT X a tA) (hb : PW X (.BoolOp .Or (b :: rest) pos) tB') : PW X (.BoolOp .Or (a :: b :: rest) pos) (tOr tA tB') := by
  intro wh pins s σ H Q I h
  refine isTrue_or (thn (ha pins s σ H _ I h) fun c s1 ⟨H1, I1, q1⟩ => ?_)
  cases c with
  | true => exact ⟨H1, I1, q1⟩
  | false => exact hb wh pins s1 σ H1 Q I1 q1
theorem pt_not (ha : PT X a tA) : PT X (.UnaryOp .Not a pos) (tNot tA) := by
  intro pins s σ H Q I h
  exact isTrue_not (ha pins s σ H (fun c H1 => Q (!c) H1) I h)
def tAndV (ta tb : TE) : TE := fun σ H Q => ta σ H fun x H1 => ∃ c, x = .bl c ∧ if c = true then tb σ H1 Q else Q (.bl false) H1
def tOrV (ta tb : TE) : TE := fun σ H Q => ta σ H fun x H1 => ∃ c, x = .bl c ∧ if c = true then Q (.bl true) H1 else tb σ H1 Q
def tNotV (ta : TE) : TE := fun σ H Q => ta σ H fun x H1 => ∃ c, x = .bl c ∧ Q (.bl (!c)) H1
theorem pe_one {op} {t : TE} (h : PE X a t) : PE X (.BoolOp op [a] pos) t := fun pins s σ H Q I hw => BoolOp_one (h pins s σ H Q I hw)
theorem pe_or (ha : PE X a ta) (hb : PE X (.BoolOp .Or (b :: rest) pos) tb) : PE X (.BoolOp .Or (a :: b :: rest) pos) (tOrV ta tb) := by
  intro pins s σ H Q I h
  refine BoolOp_or (thn (ha pins s σ H _ I h) fun v s1 ⟨x, H1, I1, r1, q1⟩ => ?_)
  obtain ⟨c, rfl, q1⟩ := q1
  cases r1
  refine wpAny_truthy_bool ?_
  cases c with
  | false => exact hb pins s1 σ H1 Q I1 q1
  | true => exact ⟨.bl true, H1, I1, rfl, q1⟩
theorem pe_not (ha : PE X a ta) : PE X (.UnaryOp .Not a pos) (tNotV ta) := by
  intro pins s σ H Q I h
  refine UnaryOp_ (thn (ha pins s σ H _ I h) fun v s1 ⟨x, H1, I1, r1, q1⟩ => ?_)
  obtain ⟨c, rfl, q1⟩ := q1
  cases r1
  exact not_of (wpAny_truthy_bool ⟨.bl (!c), H1, I1, rfl, q1⟩)
def tIf (t : TT) (ta tb : TE) : TE := fun σ H Q => t σ H fun c H1 => if c = true then ta σ H1 Q else tb σ H1 Q
end
end L2
namespace L2
open PySem PySem.Spec PyProof.Rows
def SqL (K : PySem.W.Frag) (H : Hp) (a : Addr) (xs : List V) : Prop :=
  Rd H a (.lst xs) ∨
    ∃ (o : Obj) (its : Array Value) (n : Nat), K.lookup a = some o ∧ o.cls = .type "list" ∧ o.dict = none ∧ o.data = .seq its n ∧ its.size ≤ sizeLine ∧ Vals xs its.toList
def SqT (K : PySem.W.Frag) (H : Hp) (a : Addr) (xs : List V) : Prop :=
  Rd H a (.tup xs) ∨
    ∃ (o : Obj) (its : Array Value) (n : Nat), K.lookup a = some o ∧ o.cls = .type "tuple" ∧ o.data = .seq its n ∧ its.size ≤ sizeLine ∧ Vals xs its.toList
def absV : Value → Option V
  | .none => some .non
  | .bool b => some (.bl b)
  | .int i _ => some (.int i)
  | .str x _ => some (.str x)
  | .bytes b _ => some (.byt b)
  | .float b _ => some (.flt b)
  | .ref a => some (.ref a)
  | .type n => some (.ty n)
  | _ => none
theorem RelV.abs {x : V} {u : Value} (r : RelV x u) : absV u = some x := by
  cases x with
  | non => cases r; rfl
  | bl _ => cases r; rfl
  | int _ => obtain ⟨t, rfl⟩ := r; rfl
  | str _ => obtain ⟨t, rfl⟩ := r; rfl
  | byt _ => obtain ⟨t, rfl⟩ := r; rfl
  | flt _ => obtain ⟨t, rfl⟩ := r; rfl
  | ref _ => cases r; rfl
  | ty _ => cases r; rfl
theorem RelV.inj {x y : V} {u : Value} (r : RelV x u) (q : RelV y u) : x = y := Option.some.inj (r.abs.symm.trans q.abs)
theorem Vals.inj : ∀ {xs ys : List V} {us : List Value}, Vals xs us → Vals ys us → xs = ys
  | _, _, _, .nil, .nil => rfl
  | _, _, _, .cons r t, .cons r' t' => by rw [r.inj r', Vals.inj t t']
section
variable {X : Cx} {pins : List (Addr × Obj)} {σ : St} {H : Hp} {s : Shared} {a : Addr} {xs ys : List V}
theorem SqL.of {K : PySem.W.Frag} (h : H a = some (.lst xs)) : SqL K H a xs := .inl (.inl h)
theorem SqT.of {K : PySem.W.Frag} (h : H a = some (.tup xs)) : SqT K H a xs := .inl (.inl h)
theorem Inv.list (I : Inv X pins σ H s) (h : SqL X.K H a xs) : ∃ its : List Value, Vals xs its ∧ PlainL s.heap a its.toArray ∧ xs.length ≤ sizeLine := by
  rcases h with h | ⟨o, its, n, hk, hc, hd, hs, hz, r⟩
  · obtain ⟨z, its, n, r, e⟩ := h.ok I.hok
    exact ⟨its, r, ⟨_, n, e, rfl, rfl, rfl⟩, z⟩
  · refine ⟨its.toList, r, ⟨o, n, I.kIn a o hk, hc, hd, by simpa using hs⟩, ?_⟩
    have e := r.length
    simp only [Array.length_toList] at e
    omega
theorem Inv.tuple (I : Inv X pins σ H s) (h : SqT X.K H a xs) : ∃ its : List Value, Vals xs its ∧ IsTup s.heap a its.toArray ∧ xs.length ≤ sizeLine := by
  rcases h with h | ⟨o, its, n, hk, hc, hs, hz, r⟩
  · obtain ⟨z, its, r, p⟩ := h.ok I.hok
    exact ⟨its, r, p, z⟩
  · refine ⟨its.toList, r, ⟨o, I.kIn a o hk, hc, n, by simpa using hs⟩, ?_⟩
    have e := r.length
    simp only [Array.length_toList] at e
    omega
theorem Inv.list_inj (I : Inv X pins σ H s) (h : SqL X.K H a xs) (h' : SqL X.K H a ys) : xs = ys := by
  obtain ⟨its, r, ⟨o, n, e, _, _, d⟩, _⟩ := I.list h
  obtain ⟨its', r', ⟨o', n', e', _, _, d'⟩, _⟩ := I.list h'
  rw [e] at e'; cases e'
  rw [d] at d'
  injection d' with d1 _
  have : its = its' := by simpa using congrArg Array.toList d1
  subst this
  exact r.inj r'
theorem Inv.tuple_inj (I : Inv X pins σ H s) (h : SqT X.K H a xs) (h' : SqT X.K H a ys) : xs = ys := by
  obtain ⟨its, r, ⟨o, e, _, n, d⟩, _⟩ := I.tuple h
  obtain ⟨its', r', ⟨o', e', _, n', d'⟩, _⟩ := I.tuple h'
  rw [e] at e'; cases e'
  rw [d] at d'
  injection d' with d1 _
  have : its = its' := by simpa using congrArg Array.toList d1
  subst this
  exact r.inj r'
end
abbrev Cx.wish (X : Cx) (E : Value → Shared → Prop) : Cx := { X with xe := E }
abbrev Cx.nox (X : Cx) : Cx := X.wish fun _ _ => False
theorem Cx.Ok.wish {X : Cx} (ok : X.Ok) (E : Value → Shared → Prop) : (X.wish E).Ok :=
  ⟨ok.mod, ok.kind, ok.glob, ok.blt, ok.above, ok.inj, ok.has, ok.cab, ok.hd, ok.frames, ok.stk, ok.exf, ok.bs, ok.bsz, ok.noex, ok.exfs, ok.funs, ok.frf⟩
theorem Cx.Ok.unwish {X : Cx} {E : Value → Shared → Prop} (ok : (X.wish E).Ok) : X.Ok :=
  ⟨ok.mod, ok.kind, ok.glob, ok.blt, ok.above, ok.inj, ok.has, ok.cab, ok.hd, ok.frames, ok.stk, ok.exf, ok.bs, ok.bsz, ok.noex, ok.exfs, ok.funs, ok.frf⟩
section
variable {X : Cx} {pins : List (Addr × Obj)} {σ : St} {H : Hp} {s : Shared} {E : Value → Shared → Prop}
theorem Inv.wish (I : Inv X pins σ H s) (E : Value → Shared → Prop) : Inv (X.wish E) pins σ H s := ⟨I.ok.wish E, I.os, I.bare, I.base, I.loc, I.cell, I.free, I.freeC, I.pin, I.hok, I.len⟩
theorem Inv.unwish (I : Inv (X.wish E) pins σ H s) : Inv X pins σ H s := ⟨I.ok.unwish, I.os, I.bare, I.base, I.loc, I.cell, I.free, I.freeC, I.pin, I.hok, I.len⟩
theorem SP.unwish {D : Ends} {f : Flow} {s' : Shared} (h : SP (X.wish E) pins D f s') : SP X pins D f s' := by
  cases f with
  | next => obtain ⟨σ', H', I, q⟩ := h; exact ⟨σ', H', I.unwish, q⟩
  | brk => obtain ⟨σ', H', I, q⟩ := h; exact ⟨σ', H', I.unwish, q⟩
  | cont => obtain ⟨σ', H', I, q⟩ := h; exact ⟨σ', H', I.unwish, q⟩
  | ret u => obtain ⟨v, σ', H', I, r, q⟩ := h; exact ⟨v, σ', H', I.unwish, r, q⟩
theorem PE.nox {e : Expr} {t : TE} (h : PE X.nox e t) : PE X e t := fun pins s σ H Q I hw =>
  wpAny_mono (h pins s σ H Q (I.wish _) hw) (fun _ _ ⟨v, H', I', r, q⟩ => ⟨v, H', I'.unwish, r, q⟩) fun _ _ z => False.elim z
theorem PT.nox {e : Expr} {t : TT} (h : PT X.nox e t) : PT X e t := fun pins s σ H Q I hw =>
  wpAny_mono (h pins s σ H Q (I.wish _) hw) (fun _ _ ⟨H', I', q⟩ => ⟨H', I'.unwish, q⟩) fun _ _ z => False.elim z
theorem PSs.nox {st : List Stmt} {t : TS} (h : PSs X.nox st t) : PSs X st t := fun pins s σ H D I hw =>
  wpAny_mono (h pins s σ H D (I.wish _) hw) (fun _ _ q => q.unwish) fun _ _ z => False.elim z
end
section
variable {X : Cx} {st : Stmt} {rest : List Stmt} {t u : TS} {e : Expr} {te : TE} {pos : Pos}
def tNext : TS := fun D σ H => D.nx σ H
def tSeq (t u : TS) : TS := fun D σ H => t { D with nx := u D } σ H
theorem pss_nil : PSs X [] tNext := fun _ _ σ H _ I h => wpAny_execs_nil ⟨σ, H, I, h⟩
theorem pss_cons (h1 : PS X st t) (h2 : PSs X rest u) : PSs X (st :: rest) (tSeq t u) := by
  intro pins s σ H D I h
  refine wpAny_execs_cons (thn (h1 pins s σ H { D with nx := u D } I h) fun f s1 q => ?_)
  cases f with
  | next =>
    obtain ⟨σ', H', I', q⟩ := q
    exact h2 pins s1 σ' H' D I' q
  | ret v => exact q
  | brk => exact q
  | cont => exact q
theorem pss_one (h1 : PS X st t) : PSs X [st] t := by
  intro pins s σ H D I h
  refine wpAny_execs_cons (thn (h1 pins s σ H D I h) fun f s1 q => ?_)
  cases f with
  | next => exact wpAny_execs_nil q
  | ret v => exact q
  | brk => exact q
  | cont => exact q
theorem Inv.quiet {pins : List (Addr × Obj)} {σ : St} {H : Hp} {s : Shared} (I : Inv X pins σ H s) : interactive X.env = false := by simp [interactive, I.ok.kind]
def tDrop (te : TE) : TS := fun D σ H => te σ H fun _ H1 => D.nx σ H1
theorem ps_expr (he : PE X e te) (hs : swapsWith e none pos.line X.env = pure false := by rfl) : PS X (.Expr e pos) (tDrop te) := by
  intro pins s σ H D I h
  exact wpAny_Expr_any (thn (he pins s σ H _ I h) fun v s1 ⟨x, H1, I1, r1, q1⟩ => ⟨σ, H1, I1, q1⟩) I.quiet hs
def tRet (te : TE) : TS := fun D σ H => te σ H D.rt
theorem ps_ret (he : PE X e te) : PS X (.Return (some e) pos) (tRet te) := by
  intro pins s σ H D I h
  exact wpAny_Return_some (thn (he pins s σ H _ I h) fun v s1 ⟨x, H1, I1, r1, q1⟩ => ⟨x, σ, H1, I1, r1, q1⟩)
def tRetN : TS := fun D _ H => D.rt .non H
def tIfS (c : TT) (t u : TS) : TS := fun D σ H => c σ H fun b H1 => if b = true then t D σ H1 else u D σ H1
theorem ps_if {c : Expr} {a b : List Stmt} {tc : TT} (hc : PT X c tc) (ha : PSs X a t) (hb : PSs X b u) : PS X (.If c a b pos) (tIfS tc t u) := by
  intro pins s σ H D I h
  refine wpAny_If (thn (hc pins s σ H _ I h) fun d s1 ⟨H1, I1, q1⟩ => ?_)
  cases d with
  | true => exact ha pins s1 σ H1 D I1 q1
  | false => exact hb pins s1 σ H1 D I1 q1
def tNever : TS := fun _ _ _ => False
end
abbrev TG := V → St → Hp → (St → Hp → Prop) → Prop
abbrev TGs := List V → St → Hp → (St → Hp → Prop) → Prop
def PG (X : Cx) (target : Expr) (t : TG) : Prop :=
  ∀ (pins : List (Addr × Obj)) (s : Shared) (σ : St) (H : Hp) (v : V) (u : Value) (Q : St → Hp → Prop), Inv X pins σ H s → RelV v u → t v σ H Q →
    wpAny (model X.prog X.w) X.A (assign target X.env u) (fun _ s' => ∃ σ' H', Inv X pins σ' H' s' ∧ Q σ' H') X.xe s
def PGs (X : Cx) (ts : List Expr) (t : TGs) : Prop :=
  ∀ (pins : List (Addr × Obj)) (s : Shared) (σ : St) (H : Hp) (vs : List V) (us : List Value) (Q : St → Hp → Prop), Inv X pins σ H s → Vals vs us → t vs σ H Q →
    wpAny (model X.prog X.w) X.A (assignInOrder ((assignEach ts X.env).map (·.2)) us) (fun _ s' => ∃ σ' H', Inv X pins σ' H' s' ∧ Q σ' H') X.xe s
abbrev TSet := V → V → V → Hp → (Hp → Prop) → Prop
def PSet (X : Cx) (t : TSet) : Prop :=
  ∀ (pins : List (Addr × Obj)) (s : Shared) (σ : St) (H : Hp) (o i v : V) (ov iv u : Value) (Q : Hp → Prop), Inv X pins σ H s → RelV o ov → RelV i iv → RelV v u → t o i v H Q →
    wpAny (model X.prog X.w) X.A (setItem ov iv u) (fun _ s' => ∃ H', Inv X pins σ H' s' ∧ Q H') X.xe s
abbrev TIp := V → V → Hp → VK → Prop
section
variable {X : Cx} {pos : Pos}
def gName (i : Nat) : TG := fun v σ H Q => Q (σ.set i (some v)) H
theorem pg_name {i : Nat} {x : Str} (hN : X.N.Nodup) (hi : X.N[i]? = some x) (hx : Loc X.env.scope x) (hf : X.fn x = true ∨ X.env.scope.names.lookup x = some .local := by first | exact .inl rfl | exact .inr rfl | assumption) : PG X (.Name x pos) (gName i) := by
  intro pins s σ H v u Q I r h
  exact wpAny_assign_Name (store_ok I hN hi hx r (fun s' I' => ⟨_, H, I', h⟩) hf)
def gNil : TGs := fun vs σ H Q => vs = [] ∧ Q σ H
def gCons (t : TG) (u : TGs) : TGs := fun vs σ H Q => ∃ v r, vs = v :: r ∧ t v σ H fun σ' H' => u r σ' H' Q
theorem pgs_nil : PGs X [] gNil := by
  intro pins s σ H vs us Q I r h
  obtain ⟨e, h⟩ := h
  subst e
  cases r
  exact assignInOrder_nil ⟨σ, H, I, h⟩
theorem pgs_cons {e : Expr} {es : List Expr} {t : TG} {u : TGs} (h1 : PG X e t) (h2 : PGs X es u)
    (hs : (assignEach (e :: es) X.env).map (·.2) = assign e X.env :: (assignEach es X.env).map (·.2) := by rfl) : PGs X (e :: es) (gCons t u) := by
  intro pins s σ H vs us Q I r h
  obtain ⟨v, vr, e1, h⟩ := h
  subst e1
  cases r with
  | cons r rr =>
    rw [hs]
    refine assignInOrder_cons (thn (h1 pins s σ H _ _ _ I r h) fun _ s1 ⟨σ1, H1, I1, q1⟩ => ?_)
    exact h2 pins s1 σ1 H1 _ _ Q I1 rr q1
def gTup (K : PySem.W.Frag) (n : Nat) (t : TGs) : TG := fun v σ H Q => ∃ a xs, v = .ref a ∧ SqT K H a xs ∧ xs.length = n ∧ t xs σ H Q
theorem pg_tup {es : List Expr} {k : Nat} {t : TGs} {n : Nat} (hc : X.calm = true) (h : PGs X es t)
    (hn : (assignEach es X.env).length = n := by rfl) (hst : (assignEach es X.env).findIdx? (·.1) = none := by rfl) : PG X (.Tuple es k pos) (gTup X.K n t) := by
  intro pins s σ H v u Q I r hw
  obtain ⟨a, xs, e1, hq, hl, hw⟩ := hw
  subst e1
  cases r
  obtain ⟨its, rv, ht, hz⟩ := I.tuple hq
  refine assign_Tuple_tuple (I.ok.hd hc) ht (by simp [hn, ← hl, rv.length]) hst fun h' hx => ?_
  have I1 : Inv X pins σ H { s with heap := h' } := I.kept (t' := s.toks) fun b o e => hx b o (Nat.ne_of_lt (Heap.lt_size e)) e
  exact h pins _ σ H xs _ Q I1 (by simpa using rv) hw
def gSub (to ti : TE) (t : TSet) : TG := fun v σ H Q => to σ H fun o H1 => ti σ H1 fun i H2 => t o i v H2 fun H3 => Q σ H3
theorem pg_sub {o i : Expr} {to ti : TE} {t : TSet} (ho : PE X o to) (hi : PE X i ti) (hs : PSet X t)
    (ha : ∀ v, assign (.Subscript o i pos) X.env v = (do
      let ov ← holding [v] (eval o X.env)
      let iv ← holding [v, ov] (eval i X.env)
      standAt pos
      holding [v, ov, iv] (setItem ov iv v)
      release [v, ov, iv] []) := by intro _; rfl) : PG X (.Subscript o i pos) (gSub to ti t) := by
  intro pins s σ H v u Q I r h
  rw [ha]
  refine wpAny_bind (wpAny_holding (thn (ho pins s σ H _ I h) fun ov s1 ⟨x, H1, I1, r1, q1⟩ => ?_))
  refine wpAny_bind (wpAny_holding (thn (hi pins s1 σ H1 _ I1 q1) fun iv s2 ⟨y, H2, I2, r2, q2⟩ => ?_))
  refine wpAny_bind (wpAny_standAt (wpAny_bind (wpAny_holding (thn (hs pins s2 σ H2 x y v ov iv u _ I2 r1 r2 r q2) fun _ s3 ⟨H3, I3, q3⟩ => ?_))))
  exact wpAny_release ⟨σ, H3, I3, q3⟩
def tAsg (te : TE) (g : TG) : TS := fun D σ H => te σ H fun x H1 => g x σ H1 D.nx
theorem ps_asg {tg e : Expr} {te : TE} {g : TG} (he : PE X e te) (hg : PG X tg g) (hs : swapsWithSole [tg] e pos.line X.env = pure false := by rfl) (hw : swappedStores [tg] e X.env = pure none := by rfl)
    (h1 : (assignEach [tg] X.env).map (·.2) = [assign tg X.env] := by rfl) : PS X (.Assign [tg] e pos) (tAsg te g) := by
  intro pins s σ H D I h
  refine wpAny_Assign_stores (thn (he pins s σ H _ I h) fun v s1 ⟨x, H1, I1, r1, q1⟩ => ?_) hs hw
  rw [h1]
  exact thn (hg pins s1 σ H1 x v _ I1 r1 q1) fun _ s2 q => q
theorem ps_set {i : Nat} {x : Str} {e : Expr} {te : TE} {pos' : Pos} (hN : X.N.Nodup) (hi : X.N[i]? = some x) (hx : Loc X.env.scope x) (he : PE X e te) (hs : swapsWith e (some (.Name x pos')) pos.line X.env = pure false := by rfl) (hf : X.fn x = true ∨ X.env.scope.names.lookup x = some .local := by first | exact .inl rfl | exact .inr rfl | assumption) :
    PS X (.Assign [.Name x pos'] e pos) (tAsg te (gName i)) := by
  intro pins s σ H D I h
  refine wpAny_Assign_Name (thn (he pins s σ H _ I h) fun v s1 ⟨y, H1, I1, r1, q1⟩ => ?_) hs
  exact store_ok I1 hN hi hx r1 (fun s2 I2 => ⟨_, H1, I2, q1⟩) hf
def tPar (i j : Nat) (ta : TA) : TS := fun D σ H => ta σ H fun vs H1 => ∃ v w, vs = [v, w] ∧ D.nx ((σ.set i (some v)).set j (some w)) H1
def tAug (i : Nat) (te : TE) (ti : TIp) : TS := fun D σ H => ∃ x, σ[i]? = some (some x) ∧ te σ H fun y H1 => ti x y H1 fun z H2 => D.nx (σ.set i (some z)) H2
def ipI (f : Int → Int → Int) : TIp := fun x y H Q => ∃ i j, x = .int i ∧ y = .int j ∧ Q (.int (f i j)) H
end
section
variable {X : Cx} {pos : Pos}
end
structure It where
  go : Nat → Hp → Prop
  yld : Nat → Hp → V → Hp → Prop
  stop : Nat → Hp → Prop
def FpOk (X : Cx) (pins : List (Addr × Obj)) (H : Hp) (b : Addr) : Prop :=
  H b = none ∧ b ≠ X.env.locals ∧ b ∉ X.fs ∧ (b ∈ X.ex ∨ X.s_0.heap.objs.size ≤ b) ∧ (∀ x c, X.env.cells.lookup x = some c → c ≠ b) ∧ ∀ p ∈ X.pn ++ pins, p.1 ≠ b
theorem Inv.fpOk {X : Cx} {pins : List (Addr × Obj)} {σ : St} {H H' : Hp} {s : Shared} {b : Addr} (I : Inv X pins σ H s) (hb : s.heap.objs.size ≤ b) (hn : H' b = none) : FpOk X pins H' b := by
  refine ⟨hn, Nat.ne_of_gt (Nat.lt_of_lt_of_le I.lt hb), I.nofs hb, .inr (Nat.le_trans I.sz hb), fun x c e z => ?_, fun p hp z => ?_⟩
  · obtain ⟨v, q⟩ := I.cell x c e
    exact absurd (Nat.lt_of_lt_of_le q.lt (by rw [z]; exact hb)) (Nat.lt_irrefl _)
  · exact absurd (Nat.lt_of_lt_of_le (Heap.lt_size (I.pin p hp).1) (by rw [z]; exact hb)) (Nat.lt_irrefl _)
structure Turn (P : Program) (w : World) (K : PySem.W.Frag) (tg : Expr) (J : It) (fp : List Addr) (it : Addr) (tn : Nat → Heap → Prop) : Prop where
  mem : it ∈ fp
  obj : ∀ i h, tn i h → ∀ b ∈ fp, ∃ o, h.get? b = some o ∧ ∀ v, o.data ≠ .cell v
  keep : ∀ i h h', tn i h → (∀ b ∈ fp, ∀ o, h.get? b = some o → h'.get? b = some o) → tn i h'
  item : ∀ (X : Cx), X.prog = P → X.w = w → X.K = K → X.calm = true → ∀ (i : Nat) (pins : List (Addr × Obj)) (s : Shared) (σ : St) (H : Hp) (E : Value → Shared → Prop), Inv X pins σ H s → (∀ b ∈ fp, FpOk X pins H b) → tn i s.heap → J.go i H →
    wpAny (model P w) X.A (pyNext (.ref it)) (fun r s1 => ∃ u, r = some u ∧
      wpAny (model P w) X.A (letOwnedTupleGo tg (.ref it) u) (fun _ s2 => ∃ x H', Inv X pins σ H' s2 ∧ RelV x u ∧ J.yld i H x H' ∧ tn (i + 1) s2.heap ∧ ∀ b ∈ fp, H' b = none) E s1) E s
  done : ∀ (X : Cx), X.prog = P → X.w = w → X.K = K → X.calm = true → ∀ (i : Nat) (pins : List (Addr × Obj)) (s : Shared) (σ : St) (H : Hp) (E : Value → Shared → Prop), Inv X pins σ H s → (∀ b ∈ fp, FpOk X pins H b) → tn i s.heap → J.stop i H →
    wpAny (model P w) X.A (pyNext (.ref it)) (fun r s1 => r = none ∧ Inv X pins σ H s1) E s
  self : ∀ (A : Around) (i : Nat) (s : Shared) (Q : Value → Shared → Prop) (E : Value → Shared → Prop), tn i s.heap → Q (.ref it) s → wpAny (model P w) A (pyIter (.ref it)) Q E s
abbrev TI := St → Hp → (It → Hp → Prop) → Prop
def PIE (X : Cx) (pins : List (Addr × Obj)) (σ : St) (tg : Expr) (R : It → Hp → Prop) (itv : Value) (s2 : Shared) : Prop :=
  ∃ (it : Addr) (fp : List Addr) (tn : Nat → Heap → Prop) (J : It) (H' : Hp), itv = .ref it ∧ Inv X pins σ H' s2 ∧ Turn X.prog X.w X.K tg J fp it tn ∧ tn 0 s2.heap ∧ (∀ b ∈ fp, FpOk X pins H' b) ∧ R J H'
def PI (X : Cx) (tg iter : Expr) (wi : TI) : Prop :=
  ∀ (pins : List (Addr × Obj)) (s : Shared) (σ : St) (H : Hp) (R : It → Hp → Prop), Inv X pins σ H s → wi σ H R →
    wpAny (model X.prog X.w) X.A (eval iter X.env) (fun v s1 => wpAny (model X.prog X.w) X.A (pyIter v) (PIE X pins σ tg R) X.xe s1) X.xe s
theorem go_of {M : Model} {A : Around} {E : Value → Shared → Prop} {s : Shared} {tg : Expr} {it : Addr} {u : Value} {o : Obj} {n : String} {vs : Array Value} {Q : Unit → Shared → Prop} (ho : s.heap.get? it = some o) (hc : o.cls = .type n) (hd : o.data = .fields vs)
    (hn : ["enumerate", "zip", "dict_itemiterator", "dict_reverseitemiterator", "odict_iterator", "itertools.zip_longest", "itertools.pairwise"].contains n = false) (hQ : Q () s) : wpAny M A (letOwnedTupleGo tg (.ref it) u) Q E s := by
  unfold letOwnedTupleGo
  cases tg <;> first
    | exact wpAny_pure hQ
    | (cases u <;> first
        | exact wpAny_pure hQ
        | (refine wpAny_bind (wpAny_load ho ?_)
           rw [hc, hd]
           show wpAny M A (if (["enumerate", "zip", "dict_itemiterator", "dict_reverseitemiterator", "odict_iterator", "itertools.zip_longest", "itertools.pairwise"].contains n && vs[0]? == some (rawInt _)) = true then _ else _) Q E s
           rw [if_neg (by intro h; rw [hn, Bool.false_and] at h; cases h)]
           exact wpAny_pure hQ))
def Itl (K : PySem.W.Frag) (a : Addr) : It :=
  ⟨fun i H => ∃ xs x, SqL K H a xs ∧ xs[i]? = some x, fun i H x H' => H' = H ∧ ∀ xs, SqL K H a xs → xs[i]? = some x, fun i H => ∃ xs, SqL K H a xs ∧ xs.length ≤ i⟩
def Itt (K : PySem.W.Frag) (a : Addr) : It :=
  ⟨fun i H => ∃ xs x, SqT K H a xs ∧ xs[i]? = some x, fun i H x H' => H' = H ∧ ∀ xs, SqT K H a xs → xs[i]? = some x, fun i H => ∃ xs, SqT K H a xs ∧ xs.length ≤ i⟩
def Itr (lo : Int) (n : Nat) : It := ⟨fun i _ => i < n, fun i H x H' => H' = H ∧ x = .int (lo + i), fun i _ => n ≤ i⟩
theorem turn_list {P : Program} {w : World} {K : PySem.W.Frag} {tg : Expr} (a it : Addr) : Turn P w K tg (Itl K a) [it] it (fun i h => h.IsListIter it a i) where
  mem := by simp
  obj := fun i h st b hb => by
    have e : b = it := by simpa using hb
    subst e
    obtain ⟨o, e, c, d⟩ := st
    exact ⟨o, e, fun v z => by rw [d] at z; cases z⟩
  keep := fun i h h' st k => st.at fun o e => k it (by simp) o e
  item := by
    intro X hP hw hK hc i pins s σ H E I hf st hg
    subst hP hw hK
    obtain ⟨xs, x, hq, hx⟩ := hg
    obtain ⟨its, rv, p, hz⟩ := I.list hq
    obtain ⟨u, hu, ru⟩ := rv.get hx
    obtain ⟨f0, f1, f2, f3, f4, f5⟩ := hf it (by simp)
    refine wpAny_pyNext_list_item st p.isList (x := u) (by simpa using hu) fun h' st' sb => ?_
    have I1 : Inv X pins σ H { s with heap := h' } := I.turned (t' := s.toks) (fun b o hb e => (sb.2 b hb).trans e) f0 f1 f3 f4 f5
    obtain ⟨o, e, c, d⟩ := id st'
    exact ⟨u, rfl, go_of (s := { s with heap := h' }) e c d (by decide) ⟨x, H, I1, ru, ⟨rfl, fun ys hy => by rw [I.list_inj hy hq]; exact hx⟩, st', fun b hb => (hf b hb).1⟩⟩
  done := by
    intro X hP hw hK hc i pins s σ H E I hf st hg
    subst hP hw hK
    obtain ⟨xs, hq, hx⟩ := hg
    obtain ⟨its, rv, p, hz⟩ := I.list hq
    obtain ⟨f0, f1, f2, f3, f4, f5⟩ := hf it (by simp)
    have hl := rv.length
    exact wpAny_pyNext_list_end (I.ok.hd hc) st p.isList (by simp; omega) fun h' eb => ⟨rfl, I.turned (t' := s.toks) (fun b o hb e => eb b o hb e) f0 f1 f3 f4 f5⟩
  self := fun _ _ _ _ _ st h => wpAny_pyIter_listiter st h
theorem turn_tuple {P : Program} {w : World} {K : PySem.W.Frag} {tg : Expr} (a it : Addr) : Turn P w K tg (Itt K a) [it] it (fun i h => h.IsTupleIter it a i) where
  mem := by simp
  obj := fun i h st b hb => by
    have e : b = it := by simpa using hb
    subst e
    obtain ⟨o, e, c, d⟩ := st
    exact ⟨o, e, fun v z => by rw [d] at z; cases z⟩
  keep := fun i h h' st k => st.at fun o e => k it (by simp) o e
  item := by
    intro X hP hw hK hc i pins s σ H E I hf st hg
    subst hP hw hK
    obtain ⟨xs, x, hq, hx⟩ := hg
    obtain ⟨its, rv, p, hz⟩ := I.tuple hq
    obtain ⟨u, hu, ru⟩ := rv.get hx
    obtain ⟨f0, f1, f2, f3, f4, f5⟩ := hf it (by simp)
    refine wpAny_pyNext_tuple_item st (show s.heap.IsTuple a its.toArray from p) (x := u) (by simpa using hu) fun h' st' sb => ?_
    have I1 : Inv X pins σ H { s with heap := h' } := I.turned (t' := s.toks) (fun b o hb e => (sb.2 b hb).trans e) f0 f1 f3 f4 f5
    obtain ⟨o, e, c, d⟩ := id st'
    exact ⟨u, rfl, go_of (s := { s with heap := h' }) e c d (by decide) ⟨x, H, I1, ru, ⟨rfl, fun ys hy => by rw [I.tuple_inj hy hq]; exact hx⟩, st', fun b hb => (hf b hb).1⟩⟩
  done := by
    intro X hP hw hK hc i pins s σ H E I hf st hg
    subst hP hw hK
    obtain ⟨xs, hq, hx⟩ := hg
    obtain ⟨its, rv, p, hz⟩ := I.tuple hq
    obtain ⟨f0, f1, f2, f3, f4, f5⟩ := hf it (by simp)
    have hl := rv.length
    exact wpAny_pyNext_tuple_end (I.ok.hd hc) st (show s.heap.IsTuple a its.toArray from p) (by simp; omega) fun h' eb => ⟨rfl, I.turned (t' := s.toks) (fun b o hb e => eb b o hb e) f0 f1 f3 f4 f5⟩
  self := fun _ _ _ _ _ st h => wpAny_pyIter_tupleiter st h
theorem turn_range {P : Program} {w : World} {K : PySem.W.Frag} {tg : Expr} (it : Addr) (lo : Int) (n : Nat) : Turn P w K tg (Itr lo n) [it] it (fun i h => IsRangeIter h it (lo + (i : Nat) * 1) ((n : Int) - (i : Nat)) 1) where
  mem := by simp
  obj := fun i h st b hb => by
    have e : b = it := by simpa using hb
    subst e
    exact ⟨_, st, fun v z => by
      have z' : Data.fields _ = Data.cell v := z
      cases z'⟩
  keep := fun i h h' st k => k it (by simp) _ st
  item := by
    intro X hP hw hK hc i pins s σ H E I hf st hg
    subst hP hw hK
    obtain ⟨f0, f1, f2, f3, f4, f5⟩ := hf it (by simp)
    have W := Walks.range (prog := X.prog) (w := X.w) (I.ok.hd hc) it lo 1 n
    refine W.item i s _ _ hg st fun v h' tk hv st' kk => ?_
    obtain ⟨t, rfl⟩ := hv
    have I1 : Inv X pins σ H { s with heap := h', toks := tk } := I.turned (fun b o hb e => kk b o (by simpa using hb) e) f0 f1 f3 f4 f5
    refine ⟨_, rfl, go_of (s := { s with heap := h', toks := tk }) (n := "range_iterator") st' rfl rfl (by decide) ⟨.int (lo + i), H, I1, ⟨t, ?_⟩, ⟨rfl, rfl⟩, st', fun b hb => (hf b hb).1⟩⟩
    rw [Int.mul_one]
  done := by
    intro X hP hw hK hc i pins s σ H E I hf st hg
    subst hP hw hK
    obtain ⟨f0, f1, f2, f3, f4, f5⟩ := hf it (by simp)
    exact wpAny_pyNext_range_end (I.ok.hd hc) st (by have : n ≤ i := hg; omega) fun h' eb => ⟨rfl, I.turned (t' := s.toks) (fun b o hb e => eb b o hb e) f0 f1 f3 f4 f5⟩
  self := fun _ _ _ _ _ st h => wpAny_pyIter_rangeiter st h
end L2
namespace L2
open PySem PySem.Spec PyProof.Rows
section
variable {X : Cx} {tg : Expr}
def iList (K : PySem.W.Frag) (tl : TE) : TI := fun σ H R => tl σ H fun x H1 => ∃ a, x = .ref a ∧ (∃ xs, SqL K H1 a xs) ∧ R (Itl K a) H1
def iTup (K : PySem.W.Frag) (tl : TE) : TI := fun σ H R => tl σ H fun x H1 => ∃ a, x = .ref a ∧ (∃ xs, SqT K H1 a xs) ∧ R (Itt K a) H1
theorem pi_list {l : Expr} {tl : TE} (hl : PE X l tl) : PI X tg l (iList X.K tl) := by
  intro pins s σ H R I h
  refine thn (hl pins s σ H _ I h) fun v s1 ⟨x, H1, I1, r1, q1⟩ => ?_
  obtain ⟨a, e, ⟨xs, hq⟩, q⟩ := q1
  subst e
  cases r1
  obtain ⟨its, rv, p, hz⟩ := I1.list hq
  refine wpAny_pyIter_list p.isList ?_
  refine ⟨s1.heap.objs.size, [s1.heap.objs.size], _, _, H1, rfl, I1.kept (t' := s1.toks) fun b o e => Heap.get?_push_of_some _ e, turn_list a _, ⟨_, Heap.get?_push_size _ rfl, rfl, rfl⟩, fun b hb => ?_, q⟩
  have e : b = s1.heap.objs.size := by simpa using hb
  subst e
  exact I1.fpOk (Nat.le_refl _) (I1.hok.fresh (Nat.le_refl _))
theorem pi_tup {l : Expr} {tl : TE} (hl : PE X l tl) : PI X tg l (iTup X.K tl) := by
  intro pins s σ H R I h
  refine thn (hl pins s σ H _ I h) fun v s1 ⟨x, H1, I1, r1, q1⟩ => ?_
  obtain ⟨a, e, ⟨xs, hq⟩, q⟩ := q1
  subst e
  cases r1
  obtain ⟨its, rv, p, hz⟩ := I1.tuple hq
  refine wpAny_pyIter_tuple (show s1.heap.IsTuple a its.toArray from p) ?_
  refine ⟨s1.heap.objs.size, [s1.heap.objs.size], _, _, H1, rfl, I1.kept (t' := s1.toks) fun b o e => Heap.get?_push_of_some _ e, turn_tuple a _, ⟨_, Heap.get?_push_size _ rfl, rfl, rfl⟩, fun b hb => ?_, q⟩
  have e : b = s1.heap.objs.size := by simpa using hb
  subst e
  exact I1.fpOk (Nat.le_refl _) (I1.hok.fresh (Nat.le_refl _))
theorem range_it {pins : List (Addr × Obj)} {σ : St} {H : Hp} {s : Shared} {R : It → Hp → Prop} {E : Value → Shared → Prop} {lo hi : Int} {t u v : Tok} {tk : Nat} (I : Inv X pins σ H s) (h1 : -(2 ^ 62) ≤ lo) (h2 : lo < 2 ^ 62) (h3 : -(2 ^ 62) ≤ hi) (h4 : hi < 2 ^ 62)
    (q : R (Itr lo (hi - lo).toNat) H) : wpAny (model X.prog X.w) X.A (pyIter (.ref s.heap.objs.size)) (PIE X pins σ tg R) E { s with heap := s.heap.push { cls := .type "range", data := .fields #[.int lo t, .int hi u, .int 1 v] }, toks := tk } := by
  refine wpAny_pyIter_range (IsRange.new ..) (small_one h1 h2 h3 h4) ?_
  have I1 : Inv X pins σ H { s with heap := s.heap.push { cls := .type "range", data := .fields #[.int lo t, .int hi u, .int 1 v] }, toks := tk } := I.kept fun b o e => Heap.get?_push_of_some _ e
  refine ⟨(s.heap.push { cls := .type "range", data := .fields #[.int lo t, .int hi u, .int 1 v] }).objs.size, [(s.heap.push { cls := .type "range", data := .fields #[.int lo t, .int hi u, .int 1 v] }).objs.size], _, _, H, rfl,
    I1.kept (t' := tk) fun b o e => Heap.get?_push_of_some _ e, turn_range _ lo (hi - lo).toNat, ?_, fun b hb => ?_, q⟩
  · have e1 : lo + ((0 : Nat) : Int) * 1 = lo := by simp
    have e2 : (((hi - lo).toNat : Nat) : Int) - ((0 : Nat) : Int) = Builtin.Range.rangeSize lo hi 1 := by rw [rangeSize_one]; split <;> omega
    show IsRangeIter _ _ (lo + ((0 : Nat) : Int) * 1) ((((hi - lo).toNat : Nat) : Int) - ((0 : Nat) : Int)) 1
    rw [e1, e2]
    exact Heap.get?_push_size _ rfl
  · have e : b = (s.heap.push { cls := .type "range", data := .fields #[.int lo t, .int hi u, .int 1 v] }).objs.size := by simpa using hb
    subst e
    exact I1.fpOk (Nat.le_refl _) (I1.hok.fresh (Nat.le_refl _))
def iRng1 (ta : TA) : TI := fun σ H R => ta σ H fun vs H1 => ∃ j : Int, vs = [.int j] ∧ -(2 ^ 62) ≤ j ∧ j < 2 ^ 62 ∧ R (Itr 0 j.toNat) H1
def iRng2 (ta : TA) : TI := fun σ H R => ta σ H fun vs H1 => ∃ i j : Int, vs = [.int i, .int j] ∧ (-(2 ^ 62) ≤ i ∧ i < 2 ^ 62 ∧ -(2 ^ 62) ≤ j ∧ j < 2 ^ 62) ∧ R (Itr i (j - i).toNat) H1
theorem pi_range1 {a : Expr} {ta : TA} {p pos : Pos} (hg : Gl X "range") (hm : X.mg "range" = none) (ha : PA X [a] ta) (hs : starEach [a] X.env = [(false, eval a X.env)] := by rfl) : PI X tg (.Call (.Name "range" p) [a] [] pos) (iRng1 ta) := by
  intro pins s σ H R I h
  refine Call_ (ld_blt I hg hm boot_range (PyProof.Rows.callWith_type1 (thn (ha pos pins s σ H _ I h) fun us s1 ⟨vs, H1, I1, r1, q1⟩ => ?_) hs rfl))
  obtain ⟨j, e, q1, q2, q⟩ := q1
  subst e
  cases r1 with
  | cons r rr =>
    cases rr
    obtain ⟨t, rfl⟩ := r
    exact call_range_1 (range_it I1 (by omega) (by omega) q1 q2 (by simpa using q))
def tFor (wi : TI) (g : TG) (tb : TS) : TS := fun D σ H => wi σ H fun J H1 => ∃ W : Nat → Nat → St → Hp → Prop, (∃ m, W 0 m σ H1) ∧ ∀ i m σ H, W i m σ H →
  (J.stop i H ∧ D.nx σ H) ∨ (J.go i H ∧ ∃ N : St → Hp → Prop, (∀ σ' H', N σ' H' → ∃ m', m' < m ∧ W (i + 1) m' σ' H') ∧ ∀ x H', J.yld i H x H' → g x σ H' fun σ2 H2 => tb { D with nx := N, ct := N, bk := D.nx } σ2 H2)
def pinsAt (fp : List Addr) (h : Heap) : List (Addr × Obj) := fp.filterMap fun b => (h.get? b).map fun o => (b, o)
theorem mem_pinsAt {fp : List Addr} {h : Heap} {b : Addr} {o : Obj} (hb : b ∈ fp) (e : h.get? b = some o) : (b, o) ∈ pinsAt fp h := List.mem_filterMap.mpr ⟨b, hb, by rw [e]; rfl⟩
theorem of_pinsAt {fp : List Addr} {h : Heap} {p : Addr × Obj} (hp : p ∈ pinsAt fp h) : p.1 ∈ fp ∧ h.get? p.1 = some p.2 := by
  obtain ⟨b, hb, e⟩ := List.mem_filterMap.mp hp
  cases q : h.get? b with
  | none => rw [q] at e; cases e
  | some o =>
    rw [q] at e
    have e' : (b, o) = p := Option.some.inj e
    subst e'
    exact ⟨hb, q⟩
theorem Inv.pinned {pins : List (Addr × Obj)} {σ : St} {H : Hp} {s : Shared} {fp : List Addr} (I : Inv X pins σ H s) (hf : ∀ b ∈ fp, FpOk X pins H b) (ho : ∀ b ∈ fp, ∃ o, s.heap.get? b = some o ∧ ∀ v, o.data ≠ .cell v) : Inv X (pins ++ pinsAt fp s.heap) σ H s :=
  I.pins_of fun p hp => (List.mem_append.mp hp).elim (fun z => I.pin p (List.mem_append_right _ z)) fun z => by
    obtain ⟨hb, e⟩ := of_pinsAt z
    obtain ⟨f0, f1, f2, _⟩ := hf p.1 hb
    obtain ⟨o, e', d⟩ := ho p.1 hb
    rw [e] at e'; cases e'
    exact ⟨e, f0, f1, f2, d⟩
theorem Inv.unpinned {pins pl : List (Addr × Obj)} {σ : St} {H : Hp} {s : Shared} (I : Inv X (pins ++ pl) σ H s) : Inv X pins σ H s := I.pins_of fun p hp => I.pin p (List.mem_append_right _ (List.mem_append_left _ hp))
theorem ps_for {iter : Expr} {body : List Stmt} {wi : TI} {g : TG} {tb : TS} {pos : Pos} (hp : PassesOwn (model X.prog X.w) X.A X.env X.xe) (hc : X.calm = true) (hi : PI X tg iter wi) (hg : PG X tg g) (hb : PSs X body tb)
    (hs : ∀ x, foldedSetIterable iter X.env x = pure x := by intro _; rfl) : PS X (.For tg iter body [] pos) (tFor wi g tb) := by
  intro pins s σ H D I h
  refine wpAny_For (thn (hi pins s σ H _ I h) fun v s1 h1 => thn h1 fun itv s2 h2 => ?_) hs
  obtain ⟨it, fp, tn, J, H2, e, I2, T, st2, f2, W, ⟨m0, w0⟩, turn⟩ := h2
  subst e
  -- what stays true of the iterator's objects through the loop
  have stat : ∀ {H' : Hp}, (∀ b ∈ fp, H' b = none) → ∀ b ∈ fp, FpOk X pins H' b := fun hn b hb => ⟨hn b hb, (f2 b hb).2⟩
  refine codeAny_forLoop_any (fun n s' => ∃ i σ' H', Inv X pins σ' H' s' ∧ tn i s'.heap ∧ (∀ b ∈ fp, H' b = none) ∧ W i n σ' H') ?_ m0 ⟨0, σ, H2, I2, st2, fun b hb => (f2 b hb).1, w0⟩
  rintro n s3 ⟨i, σ3, H3, I3, st3, fr3, w3⟩
  rcases turn i n σ3 H3 w3 with ⟨stop, qn⟩ | ⟨go, N, hN, step⟩
  · refine wpAny_passesOwn hp (thn (T.done X rfl rfl rfl hc i pins s3 σ3 H3 X.xe I3 (stat fr3) st3 stop) fun r s4 ⟨hr, I4⟩ => ?_)
    subst hr
    exact wpAny_execs_nil ⟨σ3, H3, I4, qn⟩
  · refine wpAny_passesOwn hp (thn (T.item X rfl rfl rfl hc i pins s3 σ3 H3 X.xe I3 (stat fr3) st3 go) fun r s4 ⟨u, hr, h4⟩ => ?_)
    subst hr
    refine wpAny_passesOwn hp (thn h4 fun _ s5 ⟨x, H5, I5, r5, y5, st5, fr5⟩ => ?_)
    have I5' := I5.pinned (stat fr5) (T.obj _ _ st5)
    refine wpAny_passesOwn hp (thn (hg _ s5 σ3 H5 x u _ I5' r5 (step x H5 y5)) fun _ s6 ⟨σ6, H6, I6, q6⟩ => ?_)
    refine wpAny_passesOwn hp (thn (hb _ s6 σ6 H6 _ I6 q6) fun f s7 q7 => ?_)
    have again : ∀ {σ7 : St} {H7 : Hp}, Inv X (pins ++ pinsAt fp s5.heap) σ7 H7 s7 → N σ7 H7 → ∃ m, m < n ∧ ∃ i σ' H', Inv X pins σ' H' s7 ∧ tn i s7.heap ∧ (∀ b ∈ fp, H' b = none) ∧ W i m σ' H' := fun {σ7 H7} I7 n7 => by
      obtain ⟨m', hm, w7⟩ := hN σ7 H7 n7
      refine ⟨m', hm, i + 1, σ7, H7, I7.unpinned, T.keep _ _ _ st5 fun b hb o e => (I7.pin (b, o) (List.mem_append_right _ (List.mem_append_right _ (mem_pinsAt hb e)))).1, fun b hb => ?_, w7⟩
      obtain ⟨o, e, d⟩ := T.obj _ _ st5 b hb
      exact (I7.pin (b, o) (List.mem_append_right _ (List.mem_append_right _ (mem_pinsAt hb e)))).2.1
    cases f with
    | next => obtain ⟨σ7, H7, I7, n7⟩ := q7; exact again I7 n7
    | cont => obtain ⟨σ7, H7, I7, n7⟩ := q7; exact again I7 n7
    | brk => obtain ⟨σ7, H7, I7, q7⟩ := q7; exact ⟨σ7, H7, I7.unpinned, q7⟩
    | ret v => obtain ⟨x7, σ7, H7, I7, r7, q7⟩ := q7; exact ⟨x7, σ7, H7, I7.unpinned, r7, q7⟩
end
theorem for_list {K : PySem.W.Frag} {a : Addr} {xs : List V} {g : TG} {tb : TS} {D : Ends} {σ : St} {H : Hp} (Pv : Nat → St → Hp → Prop) (h0 : Pv 0 σ H) (hl : ∀ i σ H, i ≤ xs.length → Pv i σ H → SqL K H a xs)
    (hs : ∀ i x σ H, xs[i]? = some x → Pv i σ H → g x σ H fun σ2 H2 => tb { D with nx := Pv (i + 1), ct := Pv (i + 1), bk := D.nx } σ2 H2) (hd : ∀ σ H, Pv xs.length σ H → D.nx σ H) :
    ∃ W : Nat → Nat → St → Hp → Prop, (∃ m, W 0 m σ H) ∧ ∀ i m σ H, W i m σ H →
      ((Itl K a).stop i H ∧ D.nx σ H) ∨ ((Itl K a).go i H ∧ ∃ N : St → Hp → Prop, (∀ σ' H', N σ' H' → ∃ m', m' < m ∧ W (i + 1) m' σ' H') ∧ ∀ x H', (Itl K a).yld i H x H' → g x σ H' fun σ2 H2 => tb { D with nx := N, ct := N, bk := D.nx } σ2 H2) := by
  refine ⟨fun i m σ H => m = xs.length - i ∧ i ≤ xs.length ∧ Pv i σ H, ⟨xs.length, by simp, Nat.zero_le _, h0⟩, ?_⟩
  rintro i m σ H ⟨rfl, hi, p⟩
  have q := hl i σ H hi p
  by_cases hlt : i < xs.length
  · refine .inr ⟨⟨xs, xs[i], q, by simp [hlt]⟩, Pv (i + 1), fun σ' H' p' => ⟨xs.length - (i + 1), by omega, rfl, hlt, p'⟩, fun x H' y => ?_⟩
    obtain ⟨e, y⟩ := y
    subst e
    exact hs i x σ _ (y xs q) p
  · have e : i = xs.length := by omega
    subst e
    exact .inl ⟨⟨xs, q, Nat.le_refl _⟩, hd σ H p⟩
theorem for_range {lo : Int} {n : Nat} {g : TG} {tb : TS} {D : Ends} {σ : St} {H : Hp} (Pv : Nat → St → Hp → Prop) (h0 : Pv 0 σ H)
    (hs : ∀ i σ H, i < n → Pv i σ H → g (.int (lo + i)) σ H fun σ2 H2 => tb { D with nx := Pv (i + 1), ct := Pv (i + 1), bk := D.nx } σ2 H2) (hd : ∀ σ H, Pv n σ H → D.nx σ H) :
    ∃ W : Nat → Nat → St → Hp → Prop, (∃ m, W 0 m σ H) ∧ ∀ i m σ H, W i m σ H →
      ((Itr lo n).stop i H ∧ D.nx σ H) ∨ ((Itr lo n).go i H ∧ ∃ N : St → Hp → Prop, (∀ σ' H', N σ' H' → ∃ m', m' < m ∧ W (i + 1) m' σ' H') ∧ ∀ x H', (Itr lo n).yld i H x H' → g x σ H' fun σ2 H2 => tb { D with nx := N, ct := N, bk := D.nx } σ2 H2) := by
  refine ⟨fun i m σ H => m = n - i ∧ i ≤ n ∧ Pv i σ H, ⟨n, by simp, Nat.zero_le _, h0⟩, ?_⟩
  rintro i m σ H ⟨rfl, hi, p⟩
  by_cases hlt : i < n
  · refine .inr ⟨hlt, Pv (i + 1), fun σ' H' p' => ⟨n - (i + 1), by omega, rfl, hlt, p'⟩, fun x H' y => ?_⟩
    obtain ⟨e, y⟩ := y
    subst e y
    exact hs i σ _ hlt p
  · have e : i = n := by omega
    subst e
    exact .inl ⟨Nat.le_refl _, hd σ H p⟩
end L2
namespace L2
open PySem PySem.Spec PyProof.Rows
abbrev R2 := V → V → Hp → VK → Prop
def OpR (X : Cx) (f : Value → Value → Sem Value) (r : R2) : Prop :=
  ∀ (pins : List (Addr × Obj)) (s : Shared) (σ : St) (H : Hp) (x y : V) (v u : Value) (Q : VK), Inv X pins σ H s → RelV x v → RelV y u → r x y H Q →
    wpAny (model X.prog X.w) X.A (f v u) (EP X pins σ Q) X.xe s
def UnR (X : Cx) (f : Value → Sem Value) (r : V → Hp → VK → Prop) : Prop :=
  ∀ (pins : List (Addr × Obj)) (s : Shared) (σ : St) (H : Hp) (x : V) (v : Value) (Q : VK), Inv X pins σ H s → RelV x v → r x H Q →
    wpAny (model X.prog X.w) X.A (f v) (EP X pins σ Q) X.xe s
def CallR (X : Cx) (f : Value) (r : List V → Hp → VK → Prop) : Prop :=
  ∀ (pins : List (Addr × Obj)) (s : Shared) (σ : St) (H : Hp) (xs : List V) (us : List Value) (Q : VK), Inv X pins σ H s → Vals xs us → r xs H Q →
    wpAny (model X.prog X.w) X.A (call f us) (EP X pins σ Q) X.xe s
def tOp (r : R2) (ta tb : TE) : TE := fun σ H Q => ta σ H fun x H1 => tb σ H1 fun y H2 => r x y H2 Q
def tUn (r : V → Hp → VK → Prop) (ta : TE) : TE := fun σ H Q => ta σ H fun x H1 => r x H1 Q
def rI (C : Int → Int → Prop) (g : Int → Int → V) : R2 := fun x y H Q => ∃ i j, x = .int i ∧ y = .int j ∧ C i j ∧ Q (g i j) H
def rI0 (g : Int → Int → V) : R2 := fun x y H Q => ∃ i j, x = .int i ∧ y = .int j ∧ Q (g i j) H
def rU (g : Int → V) : V → Hp → VK → Prop := fun x H Q => ∃ i, x = .int i ∧ Q (g i) H
section
variable {X : Cx} {a b c : Expr} {ta tb tc : TE} {pos : Pos}
theorem binT (ha : PE X a ta) (hb : PE X b tb) {pins : List (Addr × Obj)} {s : Shared} {σ : St} {H : Hp} {R : V → V → Hp → Prop} (I : Inv X pins σ H s)
    (h : ta σ H fun x H1 => tb σ H1 fun y H2 => R x y H2) {Q : Value → Shared → Prop} {f : Value → Value → Sem Value}
    (hf : ∀ v u s2 x y H2, Inv X pins σ H2 s2 → RelV x v → RelV y u → R x y H2 → wpAny (model X.prog X.w) X.A (f v u) Q X.xe s2) :
    wpAny (model X.prog X.w) X.A (eval a X.env) (fun v s₁ => wpAny (model X.prog X.w) X.A (eval b X.env) (fun u s₂ => wpAny (model X.prog X.w) X.A (f v u) Q X.xe s₂) X.xe s₁) X.xe s := by
  refine thn (ha pins s σ H _ I h) fun v s1 ⟨x, H1, I1, r1, q1⟩ => ?_
  refine thn (hb pins s1 σ H1 _ I1 q1) fun u s2 ⟨y, H2, I2, r2, q2⟩ => ?_
  exact hf v u s2 x y H2 I2 r1 r2 q2
theorem pe_op {op : Operator} {r : R2} (ho : OpR X (binaryOp op) r) (ha : PE X a ta) (hb : PE X b tb) : PE X (.BinOp a op b pos) (tOp r ta tb) := by
  intro pins s σ H Q I h
  exact wpAny_BinOp (binT ha hb I h fun v u s2 x y H2 I2 rx ry q => ho pins s2 σ H2 x y v u Q I2 rx ry q)
theorem pe_un {op : UnaryOp} {r : V → Hp → VK → Prop} (ho : UnR X (unaryOp op) r) (ha : PE X a ta) : PE X (.UnaryOp op a pos) (tUn r ta) := by
  intro pins s σ H Q I h
  exact UnaryOp_ (thn (ha pins s σ H _ I h) fun v s1 ⟨x, H1, I1, r1, q1⟩ => ho pins s1 σ H1 x v Q I1 r1 q1)
theorem opI {f : Value → Value → Sem Value} {C : Int → Int → Prop} {g : Int → Int → Int}
    (rule : ∀ (i j : Int) (t u : Tok) (s : Shared) (Q : Value → Shared → Prop) (E : Value → Shared → Prop), C i j → Q (.int (g i j) s.toks) { s with toks := s.toks + 1 } → wpAny (model X.prog X.w) X.A (f (.int i t) (.int j u)) Q E s) :
    OpR X f (rI C fun i j => .int (g i j)) := by
  intro pins s σ H x y v u Q I rx ry h
  obtain ⟨i, j, rfl, rfl, hc, q⟩ := h
  obtain ⟨t, rfl⟩ := rx
  obtain ⟨t', rfl⟩ := ry
  exact rule i j t t' s _ _ hc ⟨.int (g i j), H, I.tok _, ⟨_, rfl⟩, q⟩
theorem opI0 {f : Value → Value → Sem Value} {g : Int → Int → Int}
    (rule : ∀ (i j : Int) (t u : Tok) (s : Shared) (Q : Value → Shared → Prop) (E : Value → Shared → Prop), Q (.int (g i j) s.toks) { s with toks := s.toks + 1 } → wpAny (model X.prog X.w) X.A (f (.int i t) (.int j u)) Q E s) :
    OpR X f (rI0 fun i j => .int (g i j)) := by
  intro pins s σ H x y v u Q I rx ry h
  obtain ⟨i, j, rfl, rfl, q⟩ := h
  obtain ⟨t, rfl⟩ := rx
  obtain ⟨t', rfl⟩ := ry
  exact rule i j t t' s _ _ ⟨.int (g i j), H, I.tok _, ⟨_, rfl⟩, q⟩
theorem opB0 {f : Value → Value → Sem Value} {g : Int → Int → Bool}
    (rule : ∀ (i j : Int) (t u : Tok) (s : Shared) (Q : Value → Shared → Prop) (E : Value → Shared → Prop), Q (.bool (g i j)) s → wpAny (model X.prog X.w) X.A (f (.int i t) (.int j u)) Q E s) :
    OpR X f (rI0 fun i j => .bl (g i j)) := by
  intro pins s σ H x y v u Q I rx ry h
  obtain ⟨i, j, rfl, rfl, q⟩ := h
  obtain ⟨t, rfl⟩ := rx
  obtain ⟨t', rfl⟩ := ry
  exact rule i j t t' s _ _ ⟨.bl (g i j), H, I, rfl, q⟩
def CPow (i j : Int) : Prop := 0 ≤ j ∧ j ≤ 1000000 ∧ i.natAbs < 2 ^ 64
def CMul (i j : Int) : Prop := (-(2 ^ 64) < i ∧ i < 2 ^ 64) ∨ (-(2 ^ 64) < j ∧ j < 2 ^ 64)
theorem CMul.ok {i j : Int} (h : CMul i j) : IntMulOk i j := by
  rcases h with ⟨h1, h2⟩ | ⟨h1, h2⟩
  · exact .of_left (intBits_le_64 h1 h2)
  · exact .of_right (intBits_le_64 h1 h2)
theorem op_add : OpR X (binaryOp .Add) (rI0 fun i j => .int (i + j)) := opI0 fun _ _ _ _ _ _ _ q => add_int q
theorem op_sub : OpR X (binaryOp .Sub) (rI0 fun i j => .int (i - j)) := opI0 fun _ _ _ _ _ _ _ q => sub_int q
theorem op_mul : OpR X (binaryOp .Mult) (rI CMul fun i j => .int (i * j)) := opI fun _ _ _ _ _ _ _ hc q => mul_int q hc.ok
theorem op_mod : OpR X (binaryOp .Mod) (rI (fun _ j => 0 < j) fun i j => .int (i % j)) := opI fun i j _ _ _ _ _ hc q => by
  have h1 : (0 : Int) < j := hc
  exact mod_int' (by omega) (by rw [Int.fmod_eq_emod_of_nonneg i (by omega)]; exact q)
theorem op_pow : OpR X (binaryOp .Pow) (rI CPow fun i j => .int (i ^ j.toNat)) := opI fun _ _ _ _ _ _ _ hc q => pow_int_small hc.1 hc.2.1 hc.2.2 q
theorem op_shl : OpR X (binaryOp .LShift) (rI CPow fun i j => .int (i * 2 ^ j.toNat)) := opI fun _ _ _ _ _ _ _ hc q => lshift_int_small hc.1 hc.2.1 hc.2.2 q
theorem unI {f : Value → Sem Value} {g : Int → Int}
    (rule : ∀ (i : Int) (t : Tok) (s : Shared) (Q : Value → Shared → Prop) (E : Value → Shared → Prop), Q (.int (g i) s.toks) { s with toks := s.toks + 1 } → wpAny (model X.prog X.w) X.A (f (.int i t)) Q E s) :
    UnR X f (rU fun i => .int (g i)) := by
  intro pins s σ H x v Q I rx h
  obtain ⟨i, rfl, q⟩ := h
  obtain ⟨t, rfl⟩ := rx
  exact rule i t s _ _ ⟨.int (g i), H, I.tok _, ⟨_, rfl⟩, q⟩
theorem un_neg : UnR X (unaryOp .USub) (rU fun i => .int (-i)) := unI fun _ _ _ _ _ q => neg_int q
end
def scal : V → V → Bool
  | .non, .non => true | .non, .int _ => true | .int _, .non => true | .non, .bl _ => true | .bl _, .non => true | .non, .str _ => true | .str _, .non => true
  | .int _, .int _ => true | .bl _, .bl _ => true | .str _, .str _ => true | .byt _, .byt _ => true
  | .int _, .str _ => true | .str _, .int _ => true | .bl _, .str _ => true | .str _, .bl _ => true
  | _, _ => false
def rEq : R2 := fun x y H Q => scal x y = true ∧ Q (.bl (decide (x = y))) H
def rNe : R2 := fun x y H Q => scal x y = true ∧ Q (.bl (!decide (x = y))) H
theorem dec_int {i j : Int} : decide (V.int i = V.int j) = (i == j) := by
  rw [Bool.eq_iff_iff]
  simp
theorem dec_bl {i j : Bool} : decide (V.bl i = V.bl j) = (i == j) := by
  rw [Bool.eq_iff_iff]
  simp
theorem dec_str {i j : Str} : decide (V.str i = V.str j) = (i == j) := by
  rw [Bool.eq_iff_iff]
  simp
theorem dec_byt {i j : Array UInt8} : decide (V.byt i = V.byt j) = (i.toList == j.toList) := by
  rw [Bool.eq_iff_iff]
  cases i
  cases j
  simp
section
variable {X : Cx} {a b c : Expr} {ta tb tc : TE} {pos : Pos}
theorem fin_bl {pins : List (Addr × Obj)} {σ : St} {H : Hp} {s : Shared} {Q : VK} {k k' : Bool} (I : Inv X pins σ H s) (q : Q (.bl k) H) (e : k = k') : EP X pins σ Q (.bool k') s := by
  subst e
  exact ⟨.bl k, H, I, rfl, q⟩
theorem op_eq : OpR X (compareOp .Eq) rEq := by
  intro pins s σ H x y v u Q I rx ry h
  obtain ⟨hs, q⟩ := h
  cases x with
  | non =>
    cases rx
    cases y with
    | non => cases ry; exact PySem.EqNone.eq_none_none (fin_bl I q (by simp))
    | bl j => cases ry; exact PySem.EqNone.eq_none_bool (fin_bl I q (by simp))
    | int j => obtain ⟨t', rfl⟩ := ry; exact PySem.EqNone.eq_none_int (fin_bl I q (by simp))
    | str j => obtain ⟨t', rfl⟩ := ry; exact PySem.EqNone.eq_none_str (fin_bl I q (by simp))
    | _ => exact absurd (show false = true from hs) Bool.false_ne_true
  | bl i =>
    cases rx
    cases y with
    | non => cases ry; exact PySem.EqNone.eq_bool_none (fin_bl I q (by simp))
    | bl j => cases ry; exact eq_bool (fin_bl I q dec_bl)
    | str j => obtain ⟨t', rfl⟩ := ry; exact PySem.EqMixed.eq_bool_str (fin_bl I q (by simp))
    | _ => exact absurd (show false = true from hs) Bool.false_ne_true
  | int i =>
    obtain ⟨t, rfl⟩ := rx
    cases y with
    | non => cases ry; exact PySem.EqNone.eq_int_none (fin_bl I q (by simp))
    | int j => obtain ⟨t', rfl⟩ := ry; exact eq_int (fin_bl I q dec_int)
    | str j => obtain ⟨t', rfl⟩ := ry; exact PySem.EqMixed.eq_int_str (fin_bl I q (by simp))
    | _ => exact absurd (show false = true from hs) Bool.false_ne_true
  | str i =>
    obtain ⟨t, rfl⟩ := rx
    cases y with
    | non => cases ry; exact PySem.EqNone.eq_str_none (fin_bl I q (by simp))
    | bl j => cases ry; exact PySem.EqMixed.eq_str_bool (fin_bl I q (by simp))
    | int j => obtain ⟨t', rfl⟩ := ry; exact PySem.EqMixed.eq_str_int (fin_bl I q (by simp))
    | str j => obtain ⟨t', rfl⟩ := ry; exact eq_str (fin_bl I q dec_str)
    | _ => exact absurd (show false = true from hs) Bool.false_ne_true
  | byt i =>
    obtain ⟨t, rfl⟩ := rx
    cases y with
    | byt j => obtain ⟨t', rfl⟩ := ry; exact PySem.W.eq_bytes (fin_bl I q dec_byt)
    | _ => exact absurd (show false = true from hs) Bool.false_ne_true
  | _ => cases y <;> exact absurd (show false = true from hs) Bool.false_ne_true
theorem op_ne : OpR X (compareOp .NotEq) rNe := by
  intro pins s σ H x y v u Q I rx ry h
  obtain ⟨hs, q⟩ := h
  cases x with
  | non =>
    cases rx
    cases y with
    | non => cases ry; exact PySem.EqNone.ne_none_none (fin_bl I q (by simp))
    | bl j => cases ry; exact PySem.EqNone.ne_none_bool (fin_bl I q (by simp))
    | int j => obtain ⟨t', rfl⟩ := ry; exact PySem.EqNone.ne_none_int (fin_bl I q (by simp))
    | str j => obtain ⟨t', rfl⟩ := ry; exact PySem.EqNone.ne_none_str (fin_bl I q (by simp))
    | _ => exact absurd (show false = true from hs) Bool.false_ne_true
  | bl i =>
    cases rx
    cases y with
    | non => cases ry; exact PySem.EqNone.ne_bool_none (fin_bl I q (by simp))
    | bl j => cases ry; exact ne_bool (fin_bl I q (congrArg not dec_bl))
    | str j => obtain ⟨t', rfl⟩ := ry; exact PySem.EqMixed.ne_bool_str (fin_bl I q (by simp))
    | _ => exact absurd (show false = true from hs) Bool.false_ne_true
  | int i =>
    obtain ⟨t, rfl⟩ := rx
    cases y with
    | non => cases ry; exact PySem.EqNone.ne_int_none (fin_bl I q (by simp))
    | int j => obtain ⟨t', rfl⟩ := ry; exact ne_int (fin_bl I q (congrArg not dec_int))
    | str j => obtain ⟨t', rfl⟩ := ry; exact PySem.EqMixed.ne_int_str (fin_bl I q (by simp))
    | _ => exact absurd (show false = true from hs) Bool.false_ne_true
  | str i =>
    obtain ⟨t, rfl⟩ := rx
    cases y with
    | non => cases ry; exact PySem.EqNone.ne_str_none (fin_bl I q (by simp))
    | bl j => cases ry; exact PySem.EqMixed.ne_str_bool (fin_bl I q (by simp))
    | int j => obtain ⟨t', rfl⟩ := ry; exact PySem.EqMixed.ne_str_int (fin_bl I q (by simp))
    | str j => obtain ⟨t', rfl⟩ := ry; exact ne_str (fin_bl I q (congrArg not dec_str))
    | _ => exact absurd (show false = true from hs) Bool.false_ne_true
  | byt i =>
    obtain ⟨t, rfl⟩ := rx
    cases y with
    | byt j => obtain ⟨t', rfl⟩ := ry; exact PySem.W.ne_bytes (fin_bl I q (congrArg not dec_byt))
    | _ => exact absurd (show false = true from hs) Bool.false_ne_true
  | _ => cases y <;> exact absurd (show false = true from hs) Bool.false_ne_true
theorem op_lt : OpR X (compareOp .Lt) (rI0 fun i j => .bl (decide (i < j))) := opB0 fun _ _ _ _ _ _ _ q => lt_int q
theorem op_gt : OpR X (compareOp .Gt) (rI0 fun i j => .bl (decide (j < i))) := opB0 fun _ _ _ _ _ _ _ q => gt_int q
theorem op_isN : OpR X (compareOp .Is) (fun x y H Q => y = .non ∧ Q (.bl (decide (x = .non))) H) := by
  intro pins s σ H x y v u Q I rx ry h
  obtain ⟨rfl, q⟩ := h
  cases ry
  refine is_none_gen (fin_bl I q ?_)
  cases x <;> first
    | (cases rx; rfl)
    | (obtain ⟨t, rfl⟩ := rx; rfl)
def isObj : HO → Bool
  | .lst _ => true
  | .ins _ _ _ => true
  | _ => false
theorem obj_there {pins : List (Addr × Obj)} {s : Shared} {σ : St} {H : Hp} {a : Addr} {o : HO} (I : Inv X pins σ H s) (h : H a = some o) (p : isObj o = true) : ∃ ob, s.heap.get? a = some ob ∧ ob.cls ≠ .type "tuple" := by
  cases o with
  | lst xs =>
    obtain ⟨_, its, n, _, e⟩ : xs.length ≤ sizeLine ∧ ∃ (its : List Value) (n : Nat), Vals xs its ∧ s.heap.get? a = some { cls := .type "list", data := .seq its.toArray n } := I.hok a _ h
    exact ⟨_, e, (by show Value.type "list" ≠ .type "tuple"; decide +kernel)⟩
  | ins C dx fs =>
    have x := I.hok a _ h
    obtain ⟨_, _, _, e, _⟩ := x
    exact ⟨_, e, (by show Value.ref C ≠ .type "tuple"; exact fun z => by cases z)⟩
  | _ => exact absurd (show false = true from p) Bool.false_ne_true
theorem OpR.or {f : Value → Value → Sem Value} {r r' : R2} (h : OpR X f r) (h' : OpR X f r') : OpR X f (fun x y H Q => r x y H Q ∨ r' x y H Q) := by
  intro pins s σ H x y v u Q I rx ry q
  rcases q with q | q
  · exact h pins s σ H x y v u Q I rx ry q
  · exact h' pins s σ H x y v u Q I rx ry q
theorem nomark (b : Expr) {op : CmpOp} (h : op ≠ .In := by decide) (h2 : op ≠ .NotIn := by decide) : behindInMarks op b = false := by
  have e1 : (op == CmpOp.In) = false := by cases op <;> first | rfl | exact absurd rfl h
  have e2 : (op == CmpOp.NotIn) = false := by cases op <;> first | rfl | exact absurd rfl h2
  cases b <;> simp [behindInMarks, e1, e2]
theorem pe_cmpR {op : CmpOp} {r : R2} (ho : OpR X (compareOp op) r) (ha : PE X a ta) (hb : PE X b tb) (hm : behindInMarks op b = false) : PE X (.Compare a [op] [b] pos) (tOp r ta tb) := by
  intro pins s σ H Q I h
  exact wpAny_Compare1 (binT ha hb I h fun v u s2 x y H2 I2 rx ry q => ho pins s2 σ H2 x y v u Q I2 rx ry q) hm
def tTest (t : TE) : TT := fun σ H Q => t σ H fun x H' => ∃ k, x = .bl k ∧ Q k H'
theorem pt_cmpR {op : CmpOp} {r : R2} (ho : OpR X (compareOp op) r) (ha : PE X a ta) (hb : PE X b tb) (hm : behindInMarks op b = false) : PT X (.Compare a [op] [b] pos) (tTest (tOp r ta tb)) := by
  intro pins s σ H Q I h
  refine wpAny_isTrue_Compare1 (thn (ha pins s σ H _ I h) fun v s1 ⟨x, H1, I1, r1, q1⟩ => thn (hb pins s1 σ H1 _ I1 q1) fun u s2 ⟨y, H2, I2, r2, q2⟩ =>
    thn (ho pins s2 σ H2 x y v u _ I2 r1 r2 q2) fun c s3 ⟨z, H3, I3, r3, k, e, q3⟩ => ?_) hm
  subst e
  cases r3
  exact wpAny_truthy_bool ⟨H3, I3, q3⟩
theorem line63 : (sizeLine : Nat) < 2 ^ 63 := by rw [sizeLine_eq]; decide
theorem op_add_str : OpR X (binaryOp .Add) (fun x y H Q => ∃ i j, x = .str i ∧ y = .str j ∧ i.length + j.length ≤ sizeLine ∧ Q (.str (i ++ j)) H) := by
  intro pins s σ H x y v u Q I rx ry h
  obtain ⟨i, j, rfl, rfl, hz, q⟩ := h
  obtain ⟨t, rfl⟩ := rx
  obtain ⟨t', rfl⟩ := ry
  exact add_str (fun t' tk => ⟨.str (i ++ j), H, I.tok _, ⟨_, rfl⟩, q⟩) hz
theorem vals1 {x : V} {us : List Value} (r : Vals [x] us) : ∃ u, us = [u] ∧ RelV x u := by
  cases r with
  | cons r1 r2 => cases r2; exact ⟨_, rfl, r1⟩
theorem vals2 {x y : V} {us : List Value} (r : Vals [x, y] us) : ∃ u w', us = [u, w'] ∧ RelV x u ∧ RelV y w' := by
  cases r with
  | cons r1 r2 =>
    cases r2 with
    | cons r3 r4 => cases r4; exact ⟨_, _, rfl, r1, r3⟩
theorem call_max2 (hc : X.calm = true) : CallR X (.builtin "max") (fun xs H Q => ∃ i j, xs = [.int i, .int j] ∧ Q (.int (if j > i then j else i)) H) := by
  intro pins s σ H xs us Q I r h
  obtain ⟨i, j, rfl, q⟩ := h
  obtain ⟨u, w', rfl, ⟨t, rfl⟩, ⟨t', rfl⟩⟩ := vals2 r
  refine max_two_ints (I.ok.hd hc) fun h' tk k => ⟨_, H, I.kept k, ?_, q⟩
  by_cases hj : j > i
  · rw [if_pos hj, if_pos hj]; exact ⟨_, rfl⟩
  · rw [if_neg hj, if_neg hj]; exact ⟨_, rfl⟩
theorem call_min2 (hc : X.calm = true) : CallR X (.builtin "min") (fun xs H Q => ∃ i j, xs = [.int i, .int j] ∧ Q (.int (if j < i then j else i)) H) := by
  intro pins s σ H xs us Q I r h
  obtain ⟨i, j, rfl, q⟩ := h
  obtain ⟨u, w', rfl, ⟨t, rfl⟩, ⟨t', rfl⟩⟩ := vals2 r
  refine min_two_ints (I.ok.hd hc) fun h' tk k => ⟨_, H, I.kept k, ?_, q⟩
  by_cases hj : j < i
  · rw [if_pos hj, if_pos hj]; exact ⟨_, rfl⟩
  · rw [if_neg hj, if_neg hj]; exact ⟨_, rfl⟩
theorem call_int1 : CallR X (.type "int") (fun xs H Q => (∃ i, xs = [.int i] ∧ Q (.int i) H) ∨ ∃ k, xs = [.bl k] ∧ Q (.int (if k then 1 else 0)) H) := by
  intro pins s σ H xs us Q I r h
  rcases h with ⟨i, rfl, q⟩ | ⟨k, rfl, q⟩
  · obtain ⟨u, rfl, t, rfl⟩ := vals1 r
    exact call_int_int ⟨.int i, H, I, ⟨_, rfl⟩, q⟩
  · obtain ⟨u, rfl, r1⟩ := vals1 r
    cases r1
    exact call_int_bool ⟨.int (if k then 1 else 0), H, I.tok _, ⟨_, rfl⟩, q⟩
theorem call_str_int : CallR X (.type "str") (fun xs H Q => ∃ i, xs = [.int i] ∧ i.natAbs.log2 < 1920 ∧ Q (.str (toString i)) H) := by
  intro pins s σ H xs us Q I r h
  obtain ⟨i, rfl, hz, q⟩ := h
  obtain ⟨u, rfl, t, rfl⟩ := vals1 r
  exact PySem.P.str_of_int hz ⟨.str _, H, I.tok _, ⟨_, rfl⟩, q⟩
end
end L2
namespace L2
open PySem PySem.Spec PyProof.Rows
structure ObjM (h : Heap) (x dx C : Addr) (mA : Str → Option Value) : Prop where
  obj : h.get? x = some (PySem.W.instObj C dx)
  ns : h.Ns1 dx mA
  ne : dx ≠ x
theorem lookIn_ns {h : Heap} {dx : Addr} {mA : Str → Option Value} (n : h.Ns1 dx mA) : ∃ od, h.get? dx = some od ∧ ∀ name, PySem.W.lookIn name od = some (mA name) := by
  obtain ⟨o, es, ep, ho, hd, hk, _, hm⟩ := n
  refine ⟨o, ho, fun name => ?_⟩
  have e := hm name
  unfold nsFind findBy at e
  rw [← Array.find?_toList] at e
  unfold PySem.W.lookIn
  rw [hd]
  dsimp only
  split
  · rename_i y q
    rw [q] at e
    exact congrArg some e
  · rename_i q
    rw [q] at e
    have a : es.toList.any (·.refKey) = false := by
      rw [List.any_eq_false]
      intro y hy
      obtain ⟨z, t, hkey⟩ := hk y (Array.mem_toList_iff.mp hy)
      simp [DictEntry.refKey, hkey]
    have a' : ¬ es.toList.any (·.refKey) = true := by rw [a]; exact Bool.false_ne_true
    rw [if_neg a']
    exact congrArg some e
theorem ObjM.look {h : Heap} {x dx C : Addr} {mA : Str → Option Value} (I : ObjM h x dx C mA) : ∃ od, PySem.W.InstAt h x (PySem.W.instObj C dx) C (some od) ∧ ∀ name, PySem.W.lookIn name od = some (mA name) :=
  let ⟨od, ho, hl⟩ := lookIn_ns I.ns
  ⟨od, ⟨I.obj, rfl, rfl, ho⟩, hl⟩
section
variable {prog : Program} {w : World} {A : Around} {E : Value → Shared → Prop} {s : Shared} {K : PySem.W.Frag} {x dx C f : Addr} {mA : Str → Option Value} {name : Str} {v : Value}
end
theorem RelO.some_of {v : V} {o : Option Value} (r : RelO (some v) o) : ∃ u, o = some u ∧ RelV v u := by
  cases o with
  | none => exact (show False from r).elim
  | some u => exact ⟨u, rfl, r⟩
theorem RelO.none_of {o : Option Value} (r : RelO none o) : o = none := by
  cases o with
  | none => rfl
  | some u => exact (show False from r).elim
theorem handed_of {v : V} {u : Value} (r : RelV v u) : PySem.W.handedIn u = true := by
  cases v with
  | non => cases (show u = Value.none from r); rfl
  | bl b => cases (show u = Value.bool b from r); rfl
  | int i => obtain ⟨t, e⟩ := (show ∃ t, u = Value.int i t from r); cases e; rfl
  | str x => obtain ⟨t, e⟩ := (show ∃ t, u = Value.str x t from r); cases e; rfl
  | byt b => obtain ⟨t, e⟩ := (show ∃ t, u = Value.bytes b t from r); cases e; rfl
  | flt b => obtain ⟨t, e⟩ := (show ∃ t, u = Value.float b t from r); cases e; rfl
  | ref a => cases (show u = Value.ref a from r); rfl
  | ty n => cases (show u = Value.type n from r); rfl
section
variable {P : Program} {w : World} {H H' : Hp} {h h' : Heap} {a C dx : Addr} {fs fs' : List (Str × V)}
theorem ins_get (hok : HOk P w H h) (e : H a = some (.ins C dx fs)) : ∃ mA, ObjM h a dx C mA ∧ (∀ f, RelO (fs.lookup f) (mA f)) ∧ PySem.Within mA (fs.map (·.1)) ∧ fs.length ≤ 1000 ∧ H dx = some (.own a) := by
  obtain ⟨d, z, ne, ob, mA, n, r, q⟩ := (show ObjOk P w H h a (.ins C dx fs) from hok a _ e)
  exact ⟨mA, ⟨ob, n, ne⟩, r, q, z, d⟩
end
structure Cls (K : PySem.W.Frag) (C : Addr) : Prop where
  pg : PySem.W.plainGet K C Str.empty = true
  hd : PySem.W.hasDictIn K C = true
  po : PySem.W.plainOver K C = true
  sa : PySem.W.findIn K (.ref C) "__setattr__" = some (some (.builtin "object.__setattr__"))
theorem Cls.get {K : PySem.W.Frag} {C : Addr} (c : Cls K C) (f : Str) : PySem.W.plainGet K C f = true := c.pg
structure Con (K : PySem.W.Frag) (C : Addr) (f : Str) (v : V) (u : Value) : Prop where
  at_ : PySem.W.findIn K (.ref C) f = some (some u)
  rel : RelV v u
  get : PySem.W.specialIn K u "__get__" = some none
  cp : PySem.W.copiedNames.contains f = false
structure Meth (K : PySem.W.Frag) (C : Addr) (m : Str) (f : Addr) : Prop where
  at_ : PySem.W.findIn K (.ref C) m = some (some (.ref f))
  fn : PySem.W.isFn K (.ref f) = true
  kp : PySem.W.keepIn K (.ref f) = true
section
variable {X : Cx} {pins : List (Addr × Obj)} {σ : St} {H : Hp} {s : Shared} {a C dx : Addr} {fs : List (Str × V)} {f : Str} {v : V} {A : Around} {E : Value → Shared → Prop}
theorem Inv.made (I : Inv X pins σ H s) : Inv X pins σ (upd (upd H s.heap.objs.size (.own (s.heap.objs.size + 1))) (s.heap.objs.size + 1) (.ins C s.heap.objs.size []))
    { s with heap := (s.heap.push PySem.W.emptyDict).push (PySem.W.instObj C s.heap.objs.size) } := by
  have e1 : (s.heap.push PySem.W.emptyDict).get? s.heap.objs.size = some PySem.W.emptyDict := Heap.get?_push_size s.heap rfl
  have e2 : ((s.heap.push PySem.W.emptyDict).push (PySem.W.instObj C s.heap.objs.size)).get? (s.heap.objs.size + 1) = some (PySem.W.instObj C s.heap.objs.size) := by
    have := Heap.get?_push_size (s.heap.push PySem.W.emptyDict) (o := PySem.W.instObj C s.heap.objs.size) rfl
    rwa [Heap.size_push] at this
  have e3 : (s.heap.push PySem.W.emptyDict).Ns s.heap.objs.size (fun _ => none) := ⟨PySem.W.emptyDict, #[], _, e1, rfl, (fun e he => absurd he (by simp)), fun _ => rfl⟩
  have I1 := I.laid (a := s.heap.objs.size) (o := .own (s.heap.objs.size + 1)) (h' := s.heap.push PySem.W.emptyDict) (t' := s.toks) (fun b u q => Heap.get?_push_of_some _ q) (Nat.le_refl _) ⟨_, e1⟩
  refine I1.laid (a := s.heap.objs.size + 1) (o := .ins C s.heap.objs.size []) (t' := s.toks) (fun b u q => Heap.get?_push_of_some _ q) (Nat.le_of_eq (Heap.size_push _ _)) ?_
  have ne : s.heap.objs.size ≠ s.heap.objs.size + 1 := Nat.ne_of_lt (Nat.lt_succ_self _)
  refine ⟨by rw [upd_ne ne, upd_same], Nat.zero_le _, ne, e2, fun _ => none, (Heap.Ns1.of_empty e3).at fun o q => Heap.get?_push_of_some _ q, fun _ => True.intro, fun y hy => absurd rfl hy⟩
theorem attr_of {prog : Program} {w : World} {env : Env} {e : Expr} {f : Str} {pos : Pos} {s : Shared} {Q : Value → Shared → Prop} (hb : attributeBase e f env (eval e env) = eval e env)
    (h : wpAny (model prog w) A (eval e env) (fun o s₁ => wpAny (model prog w) A (getAttr o f true) Q E s₁) E s) : wpAny (model prog w) A (eval (.Attribute e f pos) env) Q E s :=
  Attribute_any_ h (by rw [arm_eval_Attribute, hb])
end
section
variable {X : Cx} {o e value : Expr} {f : Str} {pos pos' tpos : Pos} {ta tv : TE}
end
section
variable {X : Cx} {pins : List (Addr × Obj)} {σ : St} {H : Hp} {s : Shared} {A : Around} {E : Value → Shared → Prop} {Q : Value → Shared → Prop} {c : Value} {b : Bool}
inductive TyOf (K : PySem.W.Frag) (H : Hp) : V → Value → Prop where
  | non : TyOf K H .non (.type "NoneType")
  | bl (x : Bool) : TyOf K H (.bl x) (.type "bool")
  | int (i : Int) : TyOf K H (.int i) (.type "int")
  | str (x : Str) : TyOf K H (.str x) (.type "str")
  | flt (x : UInt64) : TyOf K H (.flt x) (.type "float")
  | lst {a : Addr} {xs : List V} (e : H a = some (.lst xs)) : TyOf K H (.ref a) (.type "list")
  | frz {a : Addr} {o : Obj} {xs : List V} (e : H a = some (.frz o (.lst xs))) : TyOf K H (.ref a) (.type "list")
  | tup {a : Addr} {xs : List V} (e : H a = some (.tup xs)) : TyOf K H (.ref a) (.type "tuple")
  | dK {a : Addr} {kvs : List (Key × V)} (e : H a = some (.dK kvs)) : TyOf K H (.ref a) (.type "dict")
  | dT {a : Addr} {kvs : List (List Key × V)} (e : H a = some (.dT kvs)) : TyOf K H (.ref a) (.type "dict")
  | ins {a C dx : Addr} {fs : List (Str × V)} (e : H a = some (.ins C dx fs)) (cl : Cls K C) (ha : PySem.W.findIn K (.ref C) "__class__" = some (some (.builtin "object.__class__")))
      (hn : PySem.W.specialIn K (.builtin "object.__class__") "__get__" = some (some (.builtin "getset_descriptor.__get__"))) (htk : PySem.W.takesIn K (.builtin "object.__class__") = some true)
      (hm : PySem.W.mroIn K C (.type "object") = some true) : TyOf K H (.ref a) (.ref C)
theorem isinst_ok {x : V} {u t : Value} (I : Inv X pins σ H s) (rx : RelV x u) (ty : TyOf X.K H x t) (e : PySem.W.kitOne X.K t c = some b) (h : ∀ tk, Q (.bool b) { s with toks := tk }) :
    wpAny (model X.prog X.w) A (call (.builtin "isinstance") [u, c]) Q E s := by
  cases ty with
  | non => cases (show u = Value.none from rx); exact PySem.W.kia_one PySem.W.kitx_none I.kIn True.intro e (fun z => nomatch z) h
  | bl y => cases (show u = Value.bool y from rx); exact PySem.W.kia_one PySem.W.kitx_bool I.kIn True.intro e (fun z => nomatch z) h
  | int i => obtain ⟨t, q⟩ := (show ∃ t, u = Value.int i t from rx); cases q; exact PySem.W.kia_one PySem.W.kitx_int I.kIn True.intro e (fun z => nomatch z) h
  | str y => obtain ⟨t, q⟩ := (show ∃ t, u = Value.str y t from rx); cases q; exact PySem.W.kia_one PySem.W.kitx_str I.kIn True.intro e (fun z => nomatch z) h
  | flt y => obtain ⟨t, q⟩ := (show ∃ t, u = Value.float y t from rx); cases q; exact PySem.W.kia_one PySem.W.kitx_float I.kIn True.intro e (fun z => nomatch z) h
  | @lst a xs ea =>
    cases (show u = Value.ref a from rx)
    obtain ⟨_, _, n, _, h1⟩ := (show ObjOk X.prog X.w H s.heap a (.lst xs) from I.hok a _ ea)
    exact PySem.W.kia_one PySem.W.kitx_list I.kIn ⟨_, h1, rfl⟩ e (fun z => nomatch z) h
  | @frz a ob xs ea =>
    cases (show u = Value.ref a from rx)
    obtain ⟨_, _, _, n, _, h1⟩ := (show ObjOk X.prog X.w H s.heap a (.frz ob (.lst xs)) from I.hok a _ ea)
    exact PySem.W.kia_one PySem.W.kitx_list I.kIn ⟨_, h1, rfl⟩ e (fun z => nomatch z) h
  | @tup a xs ea =>
    cases (show u = Value.ref a from rx)
    obtain ⟨_, _, _, p⟩ := (show ObjOk X.prog X.w H s.heap a (.tup xs) from I.hok a _ ea)
    obtain ⟨o, h1, h2, _⟩ := p
    exact PySem.W.kia_one PySem.W.kitx_tuple I.kIn ⟨o, h1, h2⟩ e (fun z => nomatch z) h
  | @dK a kvs ea =>
    cases (show u = Value.ref a from rx)
    obtain ⟨_, _, vs, _, p⟩ := (show ObjOk X.prog X.w H s.heap a (.dK kvs) from I.hok a _ ea)
    obtain ⟨o, es, ep, h1, h2, _⟩ := p
    exact PySem.W.kia_one PySem.W.kitx_dict I.kIn ⟨o, h1, h2.1⟩ e (fun z => nomatch z) h
  | @dT a kvs ea =>
    cases (show u = Value.ref a from rx)
    obtain ⟨_, _, xs, _, o, es, ep, h1, h2, _⟩ := (show ObjOk X.prog X.w H s.heap a (.dT kvs) from I.hok a _ ea)
    exact PySem.W.kia_one PySem.W.kitx_dict I.kIn ⟨o, h1, h2.1⟩ e (fun z => nomatch z) h
  | @ins a C dx fs ea cl ha hn htk hm =>
    cases (show u = Value.ref a from rx)
    obtain ⟨mA, O, _⟩ := ins_get I.hok ea
    obtain ⟨od, J, _⟩ := O.look
    exact PySem.W.kia_one (PySem.W.kitx_own (cl.get _) cl.hd ha hn htk hm) I.kIn J e (fun z => nomatch z) h
end
end L2
namespace L2
open PySem PySem.Spec PyProof.Rows
structure Room (k : Nat) (A : Around) : Prop where
  hd : A.handled = none
  dp : A.depth + 3 * k + 5 < recursionLimit
  un : A.units + 16 * k + 200 < cLine
theorem Room.mono {j k : Nat} {A : Around} (r : Room k A) (h : j ≤ k) : Room j A := ⟨r.hd, by have := r.dp; omega, by have := r.un; omega⟩
theorem Room.deeper {k : Nat} {A : Around} (r : Room (k + 1) A) (env : Env) : Room k (A.deeper env) :=
  ⟨r.hd, by have := r.dp; show A.depth + 1 + 3 * k + 5 < _; omega, by have := r.un; show A.units + 3 + 16 * k + 200 < _; omega⟩
theorem Room.in1 {k : Nat} {A : Around} (r : Room (k + 1) A) : Room k A.in1 :=
  ⟨r.hd, by have := r.dp; show A.depth + 3 * k + 5 < _; omega, by have := r.un; show A.units + 1 + 16 * k + 200 < _; omega⟩
theorem make_depth {A : Around} {C : Addr} {us : List Value} {kw : List (Str × Value)} : (A.under (.builtin "type.__call__" ⟨.ref C :: us, kw⟩)).depth = A.depth + 1 := by
  first | rfl | simp [Around.under, Code.weight, Code.isCreation, Code.isGuard, Code.isCaller, Code.frames, Code.isFrame, guardIds]
theorem make_units {A : Around} {C : Addr} {us : List Value} {kw : List (Str × Value)} : (A.under (.builtin "type.__call__" ⟨.ref C :: us, kw⟩)).units = A.units + 1 := by
  first | rfl | simp [Around.under, Code.cUnits, Code.frames, Code.isFrame]
theorem Room.make {k : Nat} {A : Around} (r : Room (k + 1) A) (C : Addr) (us : List Value) (kw : List (Str × Value)) : Room k (A.under (.builtin "type.__call__" ⟨.ref C :: us, kw⟩)) :=
  ⟨r.hd, by have := r.dp; rw [make_depth]; omega, by have := r.un; rw [make_units]; omega⟩
theorem Room.depth {k : Nat} {A : Around} (r : Room k A) : A.depth < recursionLimit := by have := r.dp; omega
theorem Room.units {k : Nat} {A : Around} (r : Room k A) : A.units + 64 < cLine := by have := r.un; omega
def tNil : TA := fun _ H Q => Q [] H
def tCons (ta : TE) (tr : TA) : TA := fun σ H Q => ta σ H fun x H1 => tr σ H1 fun xs H2 => Q (x :: xs) H2
section
variable {X : Cx} {e : Expr} {es : List Expr} {te : TE} {t : TA} {pos : Pos}
theorem pa_nil : PA X [] tNil := fun _ _ _ _ H Q I h => Calls.spliced_nil ⟨[], H, I, .nil, h⟩
theorem pa_cons (ha : PE X e te) (hr : PA X es t) (hs : starEach (e :: es) X.env = (false, eval e X.env) :: starEach es X.env := by rfl) : PA X (e :: es) (tCons te t) := by
  intro pos pins s σ H Q I h
  rw [hs]
  show wpAny _ _ (spliced ((false, eval e X.env) :: backTo pos (starEach es X.env))) _ _ s
  refine Calls.spliced_cons (thn (ha pins s σ H _ I h) fun u s1 ⟨x, H1, I1, r1, q1⟩ => ?_)
  exact thn (hr pos pins s1 σ H1 _ I1 q1) fun us s2 ⟨xs, H2, I2, r2, q2⟩ => ⟨x :: xs, H2, I2, .cons r1 r2, q2⟩
def tTup (t : TA) : TE := fun σ H Q => t σ H fun xs H1 => xs.length ≤ sizeLine ∧ ∀ p, H1 p = none → Q (.ref p) (upd H1 p (.tup xs))
def tLst (t : TA) : TE := fun σ H Q => t σ H fun xs H1 => xs.length ≤ sizeLine ∧ ∀ p, H1 p = none → Q (.ref p) (upd H1 p (.lst xs))
theorem pe_tup {x1} (h : PA X es t) : PE X (.Tuple es x1 pos) (tTup t) := by
  intro pins s σ H Q I hq
  refine wpAny_Tuple_spliced (thn (h pos pins s σ H _ I hq) fun us s1 ⟨xs, H1, I1, r, z, q⟩ => ⟨by rw [← r.length]; exact z, ?_⟩)
  have hf : H1 s1.heap.objs.size = none := I1.hok.fresh (Nat.le_refl _)
  refine ⟨.ref s1.heap.objs.size, upd H1 s1.heap.objs.size (.tup xs), I1.laid (t' := s1.toks) (fun b u e => Heap.get?_push_of_some _ e) (Nat.le_refl _) ?_, rfl, q _ hf⟩
  exact ⟨z, us, r, ⟨_, Heap.get?_push_size _ rfl, rfl, _, rfl⟩⟩
theorem pe_lst (h : PA X es t) : PE X (.List es pos) (tLst t) := by
  intro pins s σ H Q I hq
  refine wpAny_List_spliced (thn (h pos pins s σ H _ I hq) fun us s1 ⟨xs, H1, I1, r, z, q⟩ => ⟨by rw [← r.length]; exact z, ?_⟩)
  have hf : H1 s1.heap.objs.size = none := I1.hok.fresh (Nat.le_refl _)
  refine ⟨.ref s1.heap.objs.size, upd H1 s1.heap.objs.size (.lst xs), I1.laid (t' := s1.toks) (fun b u e => Heap.get?_push_of_some _ e) (Nat.le_refl _) ?_, rfl, q _ hf⟩
  exact ⟨z, us, 0, r, Heap.get?_push_size _ rfl⟩
end
abbrev Sp := List V → Hp → VK → XK → Prop
abbrev CXT := List Env → Hp → Shared → XK → Value → Shared → Prop
structure Env0 (P : Program) (w : World) (K : PySem.W.Frag) (mg : Str → Option Value) (base : Heap) (A : Around) (outer : List Env) (s : Shared) (H : Hp) : Prop where
  frames : A.frames = some outer
  mod : Mod K mg base
  bs : ∀ b o, base.get? b = some o → s.heap.get? b = some o ∧ H b = none
  bsz : base.objs.size ≤ s.heap.objs.size
  funs : s.heap.FunFrames base outer
  frf : ∀ b ∈ frs outer, H b = none
  hok : HOk P w H s.heap
  bare : AllBare s.gens
def CE (outer : List Env) (P : Program) (w : World) (H : Hp) (s : Shared) (Q : VK) (u : Value) (s' : Shared) : Prop :=
  ∃ v H', s'.os = s.os ∧ AllBare s'.gens ∧ Un (frs outer) [] H H' s.heap s'.heap ∧ HOk P w H' s'.heap ∧ RelV v u ∧ Q v H'
def CR (CX : CXT) (outer : List Env) (P : Program) (w : World) (H : Hp) (s : Shared) (Q : VK) (E : XK) (r : Result) (s' : Shared) : Prop :=
  match r with
  | .ok (.ret u) => CE outer P w H s Q u s'
  | .ok _ => False
  | .error e => CX outer H s E e s'
structure FnOk (P : Program) (w : World) (K : PySem.W.Frag) (mg : Str → Option Value) (base : Heap) (CX : CXT) (k : Nat) (f : Addr) (fd : FuncData) (ps : List Str) (sp : Sp) : Prop where
  len : ∀ vs H Q E, sp vs H Q E → vs.length = ps.length
  run : ∀ (A : Around) (outer : List Env) (s : Shared) (H : Hp) (args : Args) (us : List Value) (vs : List V) (Q : VK) (E : XK), Room k A → Env0 P w K mg base A outer s H → BindsTo s fd args (ps.zip us) → Vals vs us → sp vs H Q E →
    codeAny (model P w) A (.call (.ref f) args) (CR CX outer P w H s Q E) s
theorem FnOk.mono {P : Program} {w : World} {K : PySem.W.Frag} {mg : Str → Option Value} {base : Heap} {CX : CXT} {j k : Nat} {f : Addr} {fd : FuncData} {ps : List Str} {sp : Sp} (F : FnOk P w K mg base CX j f fd ps sp) (h : j ≤ k) :
    FnOk P w K mg base CX k f fd ps sp := ⟨F.len, fun A outer s H args us vs Q E hr => F.run A outer s H args us vs Q E (hr.mono h)⟩
theorem FnOk.imp {P : Program} {w : World} {K : PySem.W.Frag} {mg : Str → Option Value} {base : Heap} {CX : CXT} {k : Nat} {f : Addr} {fd : FuncData} {ps : List Str} {sp sp' : Sp} (F : FnOk P w K mg base CX k f fd ps sp)
    (h : ∀ vs H Q E, sp' vs H Q E → sp vs H Q E) : FnOk P w K mg base CX k f fd ps sp' :=
  ⟨fun vs H Q E q => F.len vs H Q E (h _ _ _ _ q), fun A outer s H args us vs Q E hr he hb hv hs => F.run A outer s H args us vs Q E hr he hb hv (h _ _ _ _ hs)⟩
theorem Env0.make {P : Program} {w : World} {K : PySem.W.Frag} {mg : Str → Option Value} {base : Heap} {A : Around} {outer : List Env} {s : Shared} {H : Hp} (e : Env0 P w K mg base A outer s H) (C : Addr) (us : List Value) (kw : List (Str × Value)) :
    Env0 P w K mg base (A.under (.builtin "type.__call__" ⟨.ref C :: us, kw⟩)) outer s H := ⟨by first | exact e.frames | (simpa [Around.under, Code.envs, Code.isFrame, pushEnvs] using e.frames), e.mod, e.bs, e.bsz, e.funs, e.frf, e.hok, e.bare⟩
theorem Env0.in1 {P : Program} {w : World} {K : PySem.W.Frag} {mg : Str → Option Value} {base : Heap} {A : Around} {outer : List Env} {s : Shared} {H : Hp} (e : Env0 P w K mg base A outer s H) :
    Env0 P w K mg base A.in1 outer s H := ⟨e.frames, e.mod, e.bs, e.bsz, e.funs, e.frf, e.hok, e.bare⟩
section
variable {X : Cx} {pins : List (Addr × Obj)} {σ : St} {H : Hp} {s s' : Shared}
theorem Inv.env0 (I : Inv X pins σ H s) : Env0 X.prog X.w X.K X.mg X.base X.A X.stack s H :=
  ⟨I.ok.frames, I.ok.mod, I.bs, Nat.le_trans I.ok.bsz I.sz, I.stack, I.stkFree, I.hok, I.bare⟩
theorem Inv.after {Q : VK} {u : Value} (I : Inv X pins σ H s) (h : CE X.stack X.prog X.w H s Q u s') : EP X pins σ Q u s' := by
  obtain ⟨v, H', os, bare, un, hok, r, q⟩ := h
  obtain ⟨hh, g, d, t, os'⟩ := s'
  obtain rfl : os' = s.os := os
  exact ⟨v, H', I.call (h' := hh) (g' := g) (d' := d) (t' := t) (ch := []) un hok bare (fun b z => absurd z (by simp)), r, q⟩
end
def tCall (sp : Sp) (dvs : List V) (E : XK) (t : TA) : TE := fun σ H Q => t σ H fun vs H1 => sp (vs ++ dvs) H1 Q E
def Binds (K : PySem.W.Frag) (fd : FuncData) (ps : List Str) (ds : List Value) : Prop :=
  ∀ (s : Shared) (us : List Value), K.In s.heap → (us ++ ds).length = ps.length → BindsTo s fd ⟨us, []⟩ (ps.zip (us ++ ds))
theorem Binds.all {K : PySem.W.Frag} {fd : FuncData} {ps : List Str} (h : ∀ us : List Value, us.length = ps.length → bindArgs fd ⟨us, []⟩ = pure (ps.zip us)) : Binds K fd ps [] := fun s us _ hl => by
  rw [List.append_nil] at hl ⊢
  exact .of_eq (h us hl)
def Passes (CX : CXT) (X : Cx) (E : XK) : Prop := ∀ (pins : List (Addr × Obj)) (σ : St) (H : Hp) (s : Shared) (e : Value) (s' : Shared), Inv X pins σ H s → CX X.stack H s E e s' → X.xe e s'
section
variable {X : Cx} {CX : CXT} {k : Nat} {f C : Addr} {fd : FuncData} {ps : List Str} {sp : Sp} {dvs : List V} {ds : List Value} {E : XK} {x m : Str} {p pos apos : Pos} {e o : Expr} {es : List Expr} {ta : TE} {t : TA}
theorem run_fn {pins : List (Addr × Obj)} {σ : St} {H : Hp} {s : Shared} {Q : VK} {us : List Value} {vs : List V} (F : FnOk X.prog X.w X.K X.mg X.base CX k f fd ps sp) (hr : Room k X.A) (hb : Binds X.K fd ps ds) (hd : Vals dvs ds) (hx : Passes CX X E)
    (I : Inv X pins σ H s) (r : Vals vs us) (h : sp (vs ++ dvs) H Q E) : wpAny (model X.prog X.w) X.A (call (.ref f) us) (EP X pins σ Q) X.xe s := by
  have r2 : Vals (vs ++ dvs) (us ++ ds) := r.append hd
  have hl : (us ++ ds).length = ps.length := by rw [← r2.length]; exact F.len _ _ _ _ h
  refine wpAny_call (codeAny_mono (F.run X.A X.stack s H ⟨us, []⟩ (us ++ ds) (vs ++ dvs) Q E hr I.env0 (hb s us I.kIn hl) r2 h) fun r s' hq => ?_)
  cases r with
  | error e => exact hx pins σ H s e s' I hq
  | ok fl =>
    cases fl with
    | ret u => exact I.after hq
    | next => exact False.elim hq
    | brk => exact False.elim hq
    | cont => exact False.elim hq
theorem pe_call (F : FnOk X.prog X.w X.K X.mg X.base CX k f fd ps sp) (hr : Room k X.A) (hg : Gl X x) (hm : X.mg x = some (.ref f)) (hk : PySem.W.keepIn X.K (.ref f) = true) (hb : Binds X.K fd ps ds) (hd : Vals dvs ds) (hx : Passes CX X E)
    (ha : PA X (e :: es) t) (hdb : (x == ("__debug__" : Str)) = false := by decide) (he : starEach (e :: es) X.env = (false, eval e X.env) :: starEach es X.env := by rfl) (hpl : (backTo pos (starEach es X.env)).any (·.1) = false := by rfl) :
    PE X (.Call (.Name x p) (e :: es) [] pos) (tCall sp dvs E t) := by
  intro pins s σ H Q I h
  refine wpAny_Call_Name_kw (ld_glob I hg hm ?_ hdb)
  refine PySem.W.callWith_K (h₀ := X.base) I.ok.mod.kin hk (thn (ha pos pins s σ H _ I h) fun us s1 ⟨vs, H1, I1, r, q⟩ => ⟨I1.kIn, ?_⟩) he hpl
  exact run_fn F hr hb hd hx I1 r q
structure Mk (K : PySem.W.Frag) (C f : Addr) : Prop where
  makes : PySem.W.makesIn K C = true
  init : PySem.W.findIn K (.ref C) "__init__" = some (some (.ref f))
  fn : PySem.W.isFn K (.ref f) = true
  kp : PySem.W.keepIn K (.ref C) = true
end
section
variable {X : Cx} {CX : CXT} {k : Nat} {f C : Addr} {fd : FuncData} {ps ks : List Str} {sp : Sp} {E : XK} {x m : Str} {p pos apos kpos : Pos} {e o : Expr} {es : List Expr} {kws : List Keyword} {te ta : TE} {t tk : TA} {nm : Option Str}
structure KBinds (K : PySem.W.Frag) (fd : FuncData) (ps ks : List Str) (g : List Value → List Value → List Value) (gV : List V → List V → List V) : Prop where
  to : ∀ (s : Shared) (us ws : List Value), K.In s.heap → (g us ws).length = ps.length → BindsTo s fd ⟨us, ks.zip ws⟩ (ps.zip (g us ws))
  rel : ∀ {vs : List V} {us : List Value} {zs : List V} {ws : List Value}, Vals vs us → Vals zs ws → Vals (gV vs zs) (g us ws)
variable {g : List Value → List Value → List Value} {gV : List V → List V → List V}
end
structure FnScope (N P : List Str) (sc : Scope) : Prop where
  kind : sc.kind = .function
  co : sc.isCoroutine = false
  gen : sc.isGenerator = false
  nd : N.Nodup
  pre : N.take P.length = P
  par : ∀ x ∈ P, sc.names.lookup x = some .local ∨ sc.names.lookup x = some .cell
  nofree : ∀ y ∈ sc.names, y.2 ≠ .free
theorem bindL_out {kindOf : Str → Option NameKind} {x : Str} : ∀ {binds : List (Str × Value)} {m : Str → Option Value}, (∀ v, (x, v) ∉ binds) → bindL kindOf binds m x = m x
  | [], _, _ => rfl
  | (n, v) :: r, m, h => by
    unfold bindL
    rw [bindL_out fun w hw => h w (List.mem_cons_of_mem _ hw)]
    split
    · have : x ≠ n := by rintro rfl; exact h v List.mem_cons_self
      simp [this]
    · rfl
theorem bindC_out {kindOf : Str → Option NameKind} {x : Str} : ∀ {binds : List (Str × Value)} {m : Str → Option Value}, (∀ v, (x, v) ∉ binds) → bindC kindOf binds m x = m x
  | [], _, _ => rfl
  | (n, v) :: r, m, h => by
    unfold bindC
    rw [bindC_out fun w hw => h w (List.mem_cons_of_mem _ hw)]
    split
    · rfl
    · have : x ≠ n := by rintro rfl; exact h v List.mem_cons_self
      simp [this]
theorem bindL_get {kindOf : Str → Option NameKind} {x : Str} {v : Value} : ∀ {P : List Str} {vs : List Value} {i : Nat} {m : Str → Option Value}, P.Nodup → P[i]? = some x → vs[i]? = some v → kindOf x = some .local →
    bindL kindOf (P.zip vs) m x = some v
  | [], _, _, _, _, h, _, _ => by simp at h
  | _ :: _, [], _, _, _, _, h, _ => by simp at h
  | p :: P, w :: vs, 0, m, nd, h1, h2, hk => by
    simp at h1 h2; subst h1; subst h2
    show bindL kindOf ((p, w) :: P.zip vs) m p = _
    unfold bindL
    rw [bindL_out fun v hv => (List.nodup_cons.mp nd).1 (List.of_mem_zip hv).1, if_pos hk]
    simp
  | p :: P, w :: vs, i + 1, m, nd, h1, h2, hk => by
    show bindL kindOf ((p, w) :: P.zip vs) m x = _
    unfold bindL
    exact bindL_get (i := i) (List.nodup_cons.mp nd).2 (by simpa using h1) (by simpa using h2) hk
theorem bindC_get {kindOf : Str → Option NameKind} {x : Str} {v : Value} : ∀ {P : List Str} {vs : List Value} {i : Nat} {m : Str → Option Value}, P.Nodup → P[i]? = some x → vs[i]? = some v → kindOf x ≠ some .local →
    bindC kindOf (P.zip vs) m x = some v
  | [], _, _, _, _, h, _, _ => by simp at h
  | _ :: _, [], _, _, _, _, h, _ => by simp at h
  | p :: P, w :: vs, 0, m, nd, h1, h2, hk => by
    simp at h1 h2; subst h1; subst h2
    show bindC kindOf ((p, w) :: P.zip vs) m p = _
    unfold bindC
    rw [bindC_out fun v hv => (List.nodup_cons.mp nd).1 (List.of_mem_zip hv).1, if_neg hk]
    simp
  | p :: P, w :: vs, i + 1, m, nd, h1, h2, hk => by
    show bindC kindOf ((p, w) :: P.zip vs) m x = _
    unfold bindC
    exact bindC_get (i := i) (List.nodup_cons.mp nd).2 (by simpa using h1) (by simpa using h2) hk
def start (N : List Str) (vs : List V) : St := vs.map some ++ List.replicate (N.length - vs.length) none
def cxOf (CX : CXT) (P : Program) (w : World) (K : PySem.W.Frag) (mg : Str → Option Value) (base : Heap) (N : List Str) (qual : Str) (scope : Scope) (f : Addr) (cd : Value) (A : Around) (outer : List Env) (s : Shared) (H : Hp) (E : XK) : Cx where
  prog := P
  w := w
  K := K
  mg := mg
  base := base
  A := A.deeper (envOfC qual scope s.heap.objs.size f cd)
  N := N
  s_0 := s
  H_0 := H
  env := envOfC qual scope s.heap.objs.size f cd
  outer := outer
  stack := envOfC qual scope s.heap.objs.size f cd :: outer
  ex := []
  calm := true
  fn := fun _ => true
  pn := []
  xe := fun e s' => wpAny (model P w) (A.deeper (envOfC qual scope s.heap.objs.size f cd)) (leaving (envOfC qual scope s.heap.objs.size f cd) e) (fun _ s'' => CX outer H s E e s'') (fun e' s'' => CX outer H s E e' s'') s'
theorem cell_has {sc : Scope} {n : Nat} {x : Str} (h : sc.names.lookup x = some .cell) : ∃ c, (cellsFrom n sc.names []).lookup x = some c := by
  have q := PySem.W.cellsFrom_some sc.names n [] (.inl h)
  exact Option.isSome_iff_exists.mp q
theorem inv_start {CX : CXT} {P : Program} {w : World} {K : PySem.W.Frag} {mg : Str → Option Value} {base : Heap} {N ps : List Str} {qual : Str} {scope : Scope} {f : Addr} {cd : Value} {A : Around} {outer : List Env} {s s1 : Shared} {H : Hp} {E : XK} {us : List Value} {vs : List V}
    (S : FnScope N ps scope) (hd : A.handled = none) (e0 : Env0 P w K mg base A outer s H) (hl : vs.length = ps.length) (r : Vals vs us)
    (x : InCallC s s.heap.objs.size (bindL (envOfC qual scope s.heap.objs.size f cd).kindOf (ps.zip us) fun _ => none) (cellsFrom (s.heap.objs.size + 1) scope.names []) (bindC (envOfC qual scope s.heap.objs.size f cd).kindOf (ps.zip us) fun _ => none) s1) :
    Inv (cxOf CX P w K mg base N qual scope f cd A outer s H E) [] (start N vs) H s1 := by
  have hpl : ps.length ≤ N.length := by have := congrArg List.length S.pre; rw [List.length_take] at this; omega
  obtain ⟨h1, tk, rfl, hk⟩ := x.done
  have noA : ∀ b : Addr, b ∉ (cxOf CX P w K mg base N qual scope f cd A outer s H E).ex := fun b z => absurd (show b ∈ ([] : List Addr) from z) (by simp)
  refine ⟨⟨e0.mod, S.kind, rfl, rfl, Nat.le_refl _, fun y z c h1 h2 => ?_, fun y hy => ?_, fun y c _ h => ?_, fun _ => hd, Around.frames_deeper e0.frames, .inr ⟨rfl, rfl⟩, fun b z => absurd z (noA b), e0.bs, e0.bsz, fun b _ _ => noA b, fun b z => absurd z (noA b), e0.funs, e0.frf⟩,
    rfl, e0.bare, Un.kept hk, ⟨_, x.toInCall.ns, fun i y v h1 h2 h3 => ?_⟩, fun y c h => ⟨_, x.cell y c h⟩, e0.hok.fresh (Nat.le_refl _), fun y c h => ?_, fun p hp => absurd (show p ∈ ([] : List (Addr × Obj)) from hp) (by simp), e0.hok.kept hk, ?_⟩
  · exact name_of_addr x.apart (PySem.mem_of_lookup h1) (PySem.mem_of_lookup h2)
  · have hy : scope.names.lookup y = some .cell ∨ scope.names.lookup y = some .free := hy
    rcases hy with hy | hy
    · exact cell_has hy
    · exact absurd rfl (S.nofree _ (PySem.mem_of_lookup hy))
  · exact Nat.le_of_lt (x.above y c (PySem.mem_of_lookup h))
  · have hi : i < vs.length := by
      unfold start at h2
      by_cases hi : i < vs.length
      · exact hi
      · rw [List.getElem?_append_right (by simpa using hi)] at h2
        rw [List.getElem?_replicate] at h2
        split at h2 <;> cases h2
    have ha : vs[i]? = some v := by
      unfold start at h2
      rw [List.getElem?_append_left (by simpa using hi), List.getElem?_map] at h2
      cases e : vs[i]? with
      | none => rw [e] at h2; cases h2
      | some a => rw [e] at h2; cases h2; rfl
    obtain ⟨u, hu, rv⟩ := r.get ha
    have hp : ps[i]? = some y := by
      rw [← S.pre, List.getElem?_take_of_lt (by omega)]; exact h1
    have ndP : ps.Nodup := by rw [← S.pre]; exact S.nd.sublist (List.take_sublist _ _)
    refine ⟨u, rv, ?_⟩
    rcases S.par y (List.mem_of_getElem? hp) with k | k
    · exact .inl ⟨k, bindL_get ndP hp hu k⟩
    · obtain ⟨c, e⟩ := cell_has (n := s.heap.objs.size + 1) k
      refine .inr ⟨.inl k, c, e, ?_⟩
      have q := x.cell y c e
      rw [bindC_get ndP hp hu (by show scope.names.lookup y ≠ _; rw [k]; decide)] at q
      exact q
  · exact e0.hok.fresh (Nat.le_of_lt (x.above y c (PySem.mem_of_lookup h)))
  · unfold start
    show _ = N.length
    rw [List.length_append, List.length_map, List.length_replicate]
    omega
theorem fn_of {CX : CXT} {P : Program} {w : World} {K : PySem.W.Frag} {mg : Str → Option Value} {base : Heap} {k : Nat} {f : Addr} {name qual : Str} {params : Arguments} {body : List Stmt} {scope : Scope} {dV kV doc pm cdv ct oc : Value} {an od : Option Addr}
    {osl : Array (Option Value)} {N ps : List Str} {sp : Sp} (lk : K.lookup f = some ⟨oc, od, .func (PySem.W.fnOf name qual params body scope dV kV doc pm an cdv ct), osl⟩) (hcd : PySem.W.codeIn K cdv qual = true) (S : FnScope N ps scope)
    (len : ∀ vs H Q E, sp vs H Q E → vs.length = ps.length)
    (hbody : ∀ (A : Around) (outer : List Env) (s : Shared) (H : Hp) (vs : List V) (Q : VK) (E : XK), Room k (A.deeper (envOfC qual scope s.heap.objs.size f cdv)) → sp vs H Q E →
      ∃ t, PSs (cxOf CX P w K mg base N qual scope f cdv A outer s H E) body t ∧ t { nx := fun _ H' => Q .non H', rt := Q } (start N vs) H) :
    FnOk P w K mg base CX (k + 1) f (PySem.W.fnOf name qual params body scope dV kV doc pm an cdv ct) ps sp := by
  refine ⟨len, fun A outer s H args us vs Q E hr e0 hb r hsp => ?_⟩
  have hl := len _ _ _ _ hsp
  have KX : K.In s.heap := e0.mod.kin.keeps fun b o e => (e0.bs b o e).1
  have lim : s.heap.NoLimit := e0.mod.nolimit.keeps fun b o e => (e0.bs b o e).1
  have hkind : ∀ y ∈ ps.zip us, scope.names.lookup y.1 = some .local ∨ (scope.names.lookup y.1 = some .cell ∧ ((cellsFrom (s.heap.objs.size + 1) scope.names []).lookup y.1).isSome = true) := fun ⟨n, v⟩ hy => by
    rcases S.par n (List.of_mem_zip hy).1 with q | q
    · exact .inl q
    · exact .inr ⟨q, PySem.W.cellsFrom_some _ _ _ (.inl q)⟩
  refine codeAny_call_function hr.depth (KX _ _ lk) rfl S.co S.gen rfl (PySem.W.codeRec_of KX hcd) (hb _ _ _ _ ?_)
  refine wpAny_newFunctionEnv_cells S.kind hkind fun env he s1 x => ?_
  subst he
  refine ⟨lim.keeps x.toInCall.keep, codeAny_func ?_⟩
  obtain ⟨t, ht, hq⟩ := hbody A outer s H vs Q E (hr.deeper _) hsp
  have I : Inv (cxOf CX P w K mg base N qual scope f cdv A outer s H E) [] (start N vs) H s1 := inv_start S hr.hd e0 hl r x
  refine wpAny_mono (ht [] s1 (start N vs) H _ I hq) (fun fl s' hs => ?_) fun e s' hs => hs
  have fin : ∀ {σ' : St} {H' : Hp} {v : V} {u : Value}, Inv (cxOf CX P w K mg base N qual scope f cdv A outer s H E) [] σ' H' s' → RelV v u → Q v H' → CE outer P w H s Q u s' :=
    fun {σ' H' v u} J rv q => ⟨v, H', J.os, J.bare, J.base, J.hok, rv, q⟩
  cases fl with
  | ret u =>
    obtain ⟨v, σ', H', J, rv, q⟩ := hs
    exact fin J rv q
  | next =>
    obtain ⟨σ', H', J, q⟩ := hs
    exact fin (v := V.non) (u := Value.none) J rfl q
  | brk =>
    obtain ⟨_, _, _, q⟩ := hs
    exact False.elim q
  | cont =>
    obtain ⟨_, _, _, q⟩ := hs
    exact False.elim q
end L2
namespace L2
open PySem PySem.Spec PyProof.Rows
section
variable {X : Cx} {x : Str} {p pos : Pos} {e : Expr} {es : List Expr} {t : TA} {id T : String} {r : List V → Hp → VK → Prop}
def tCB (r : List V → Hp → VK → Prop) (t : TA) : TE := fun σ H Q => t σ H fun vs H1 => r vs H1 Q
theorem pe_callB (hc : CallR X (.builtin id) r) (hg : Gl X x) (hm : X.mg x = none) (hv : bootBuiltins x = some (.builtin id)) (ha : PA X (e :: es) t) (hn : x ≠ "__name__" := by decide) (hdb : (x == ("__debug__" : Str)) = false := by decide)
    (he : starEach (e :: es) X.env = (false, eval e X.env) :: starEach es X.env := by rfl) (hpl : (backTo pos (starEach es X.env)).any (·.1) = false := by rfl) : PE X (.Call (.Name x p) (e :: es) [] pos) (tCB r t) := by
  intro pins s σ H Q I h
  refine wpAny_Call_Name_kw (ld_blt I hg hm hv ?_ hn hdb)
  exact PyProof.Rows.callWith_builtin1 (thn (ha pos pins s σ H _ I h) fun us s1 ⟨vs, H1, I1, r1, q1⟩ => hc pins s1 σ H1 vs us Q I1 r1 q1) he hpl
theorem pe_callTy (hc : CallR X (.type T) r) (hg : Gl X x) (hm : X.mg x = none) (hv : bootBuiltins x = some (.type T)) (ha : PA X (e :: es) t) (hn : x ≠ "__name__" := by decide) (hdb : (x == ("__debug__" : Str)) = false := by decide)
    (he : starEach (e :: es) X.env = (false, eval e X.env) :: starEach es X.env := by rfl) (hpl : (backTo pos (starEach es X.env)).any (·.1) = false := by rfl) : PE X (.Call (.Name x p) (e :: es) [] pos) (tCB r t) := by
  intro pins s σ H Q I h
  refine wpAny_Call_Name_kw (ld_blt I hg hm hv ?_ hn hdb)
  exact PyProof.Rows.callWith_type1 (thn (ha pos pins s σ H _ I h) fun us s1 ⟨vs, H1, I1, r1, q1⟩ => hc pins s1 σ H1 vs us Q I1 r1 q1) he hpl
end
end L2
namespace HT
open PySem PyProof.Rows
section
open PySem.SeqAt
open PySem.AutoSeq1 (wpAny_loadPart')
open PySem.MeetsSeq PySem.MeetsSeq2 PySem.MeetsSeq3
end
section
variable {prog : Program} {w : World} {A : Around} {E : Value → Shared → Prop} {s : Shared}
def sIx (n d : Nat) : Option Int → Nat
  | none => d
  | some v => if v < 0 then (v + (n : Int)).toNat else min v.toNat n
theorem sIx_none (n d : Nat) : sIx n d none = d := rfl
theorem sIx_nat (n d k : Nat) : sIx n d (some (k : Int)) = min k n := by
  show (if (k : Int) < 0 then ((k : Int) + (n : Int)).toNat else min (k : Int).toNat n) = min k n
  rw [if_neg (by omega), Int.toNat_natCast]
theorem sIx_le (n d : Nat) (hd : d ≤ n) (o : Option Int) : sIx n d o ≤ n := by
  cases o with
  | none => exact hd
  | some v =>
    show (if v < 0 then (v + (n : Int)).toNat else min v.toNat n) ≤ n
    by_cases hv : v < 0
    · rw [if_pos hv]; omega
    · rw [if_neg hv]; exact Nat.min_le_right _ _
theorem clip_eq (v : Int) (n d : Nat) : (if v < 0 then max (v + (n : Int)) 0 else min v (n : Int)) = ((sIx n d (some v) : Nat) : Int) := by
  show (if v < 0 then max (v + (n : Int)) 0 else min v (n : Int)) = (((if v < 0 then (v + (n : Int)).toNat else min v.toNat n) : Nat) : Int)
  by_cases hv : v < 0
  · simp only [if_pos hv]; omega
  · simp only [if_neg hv]; omega
theorem adjust_gen (lo hi : Option Int) (n : Nat) : Builtin.Slice.sliceAdjust lo hi 1 (n : Int) = (((sIx n 0 lo : Nat) : Int), ((sIx n n hi : Nat) : Int)) := by
  have h1 : ¬ ((1 : Int) < 0) := by omega
  unfold Builtin.Slice.sliceAdjust
  simp only [h1, if_false]
  refine Prod.ext ?_ ?_
  · cases lo with
    | none => rfl
    | some v => exact clip_eq v n 0
  · cases hi with
    | none => rfl
    | some v => exact clip_eq v n n
theorem places_gen (i j : Nat) : Builtin.Slice.slicePlaces (i : Int) (j : Int) 1 = j - i := by
  unfold Builtin.Slice.slicePlaces
  have h1 : (1 : Int) > 0 := by omega
  simp only [h1, if_true, Int.ediv_one]
  split <;> omega
theorem slicePart_ {v : Value} {o : Option Int} {Q : Option Int → Shared → Prop} (p : IsPart v o) (h : Q o s) : wpAny (model prog w) A (Builtin.Slice.slicePartIndex v) Q E s := by
  cases p with
  | none => exact slicePart_none h
  | int i t => exact slicePart_int h
theorem sliceApplied_gen {sl : Addr} {vl vu : Value} {lo hi : Option Int} {n : Nat} {Q : Int × Int × Nat → Shared → Prop} (hs : s.heap.IsSliceOf sl vl vu .none) (pl : IsPart vl lo) (pu : IsPart vu hi)
    (h : Q (((sIx n 0 lo : Nat) : Int), 1, sIx n n hi - sIx n 0 lo) s) : wpAny (model prog w) A (Builtin.Slice.sliceApplied (.ref sl) (pure (n : Int))) Q E s := by
  obtain ⟨os, hos, hcs, hds⟩ := id hs
  unfold Builtin.Slice.sliceApplied Builtin.Slice.sliceFields
  refine wpAny_bind (wpAny_bind (wpAny_field hos hds (x := vl) rfl (wpAny_bind (wpAny_field hos hds (x := vu) rfl (wpAny_bind (wpAny_field hos hds (x := .none) rfl (wpAny_pure ?_)))))))
  refine wpAny_bind (slicePart_none ?_)
  show wpAny _ _ (if ((1 : Int) == 0) = true then _ else _) _ _ s
  rw [if_neg (by decide)]
  refine wpAny_bind (slicePart_ pl (wpAny_bind (slicePart_ pu (wpAny_bind (wpAny_pure ?_)))))
  show wpAny _ _ (match Builtin.Slice.sliceAdjust lo hi 1 (n : Int) with | (lo, hi) => pure (lo, (1 : Int), Builtin.Slice.slicePlaces lo hi 1)) _ _ s
  rw [adjust_gen lo hi n]
  show wpAny _ _ (pure (((sIx n 0 lo : Nat) : Int), (1 : Int), Builtin.Slice.slicePlaces ((sIx n 0 lo : Nat) : Int) ((sIx n n hi : Nat) : Int) 1)) _ _ s
  rw [places_gen]
  exact wpAny_pure h
theorem pick_gen (xs : Array Value) (i k : Nat) : ((List.range k).filterMap fun (m : Nat) => xs[((i : Int) + (m : Int) * 1).toNat]?).toArray = ((xs.toList.drop i).take k).toArray := by
  have e : (fun (m : Nat) => xs[((i : Int) + (m : Int) * 1).toNat]?) = fun m => xs[i + m]? := by
    funext m
    have : ((i : Int) + (m : Int) * 1).toNat = i + m := by omega
    rw [this]
  rw [e]
  have := pick_run xs i k
  rw [List.filterMap_map] at this
  have e2 : ((fun x => xs[x]?) ∘ fun x => i + x) = fun m => xs[i + m]? := rfl
  rw [e2] at this
  rw [this]
theorem getItem_tuple_cut {t sl : Addr} {items : Array Value} {vl vu : Value} {lo hi : Option Int} {Q : Value → Shared → Prop} (ht : IsTup s.heap t items) (hs : s.heap.IsSliceOf sl vl vu .none) (pl : IsPart vl lo) (pu : IsPart vu hi)
    (hw : ¬ (sIx items.size 0 lo = 0 ∧ sIx items.size items.size hi = items.size))
    (h : Q (.ref s.heap.objs.size) { s with heap := s.heap.push { cls := .type "tuple", data := .seq ((items.toList.drop (sIx items.size 0 lo)).take (sIx items.size items.size hi - sIx items.size 0 lo)).toArray } })
    (hsz : items.size ≤ sizeLine) : wpAny (model prog w) A (getItem (.ref t) (.ref sl)) Q E s := by
  have htake : sizeOk (.seq ((items.toList.drop (sIx items.size 0 lo)).take (sIx items.size items.size hi - sIx items.size 0 lo)).toArray) := by
    show ((items.toList.drop (sIx items.size 0 lo)).take (sIx items.size items.size hi - sIx items.size 0 lo)).toArray.size ≤ sizeLine
    rw [List.size_toArray, List.length_take, List.length_drop, Array.length_toList]
    omega
  have hj : sIx items.size items.size hi ≤ items.size := sIx_le _ _ (Nat.le_refl _) hi
  obtain ⟨os, hos, hcs, hds⟩ := id hs
  have hTs : s.TypeIs (.ref sl) "slice" := ⟨os, hos, hcs⟩
  unfold getItem
  try with_reducible refine wpAny_holding ?_
  first | refine wpAny_bind (wpAny_pure ?_) | skip
  refine wpAny_bind (wpAny_sequenceKey ht.typeIs (by decide) ?_)
  refine wpAny_bind (wpAny_callSpecial?_slot (name := Str.ofString "__getitem__") ht.typeIs PyProof.Rows.slot_tuple_getitem
    (wpAny_call_entry PyProof.Rows.slot_tuple_getitem ht.typeIs entry_tuple_getitem ?_ (args_tuple_getitem _ _)))
  show wpAny _ _ (Builtin.Tuple.tupleItemsOf (.ref t) >>= _) _ _ s
  refine wpAny_bind (tupleItemsOf_ ht ?_)
  refine wpAny_bind (wpAny_typeOf hTs ?_)
  rw [if_pos (by decide)]
  refine wpAny_bind (sliceApplied_gen hs pl pu ?_)
  have hno : ¬ ((((sIx items.size 0 lo : Nat) : Int) == 0 && (1 : Int) == 1 && (sIx items.size items.size hi - sIx items.size 0 lo) == items.size) = true) := by
    intro q
    rw [Bool.and_eq_true, Bool.and_eq_true] at q
    have q1 : ((sIx items.size 0 lo : Nat) : Int) = 0 := eq_of_beq q.1.1
    have q2 : sIx items.size items.size hi - sIx items.size 0 lo = items.size := eq_of_beq q.2
    exact hw ⟨by omega, by omega⟩
  show wpAny _ _ (if (((sIx items.size 0 lo : Nat) : Int) == 0 && (1 : Int) == 1 && (sIx items.size items.size hi - sIx items.size 0 lo) == items.size) = true then _ else _) _ _ s
  rw [if_neg hno, pick_gen]
  first
    | exact wpAny_bind (m := Builtin.Tuple.tupleExact _) (wpAny_newObj_type (wpAny_pure ⟨_, rfl, wpAny_pure h⟩) htake)
    | exact wpAny_bind (m := Builtin.Tuple.tupleExact _) (wpAny_newObj_type (wpAny_bind (wpAny_pure (wpAny_pure ⟨_, rfl, wpAny_pure h⟩))) htake)
    | exact wpAny_bind (wpAny_bind (m := Builtin.Tuple.tupleExact _) (wpAny_newObj_type (wpAny_pure (wpAny_pure ⟨_, rfl, wpAny_pure h⟩)) htake))
    | exact wpAny_bind (wpAny_bind (m := Builtin.Tuple.tupleExact _) (wpAny_newObj_type (wpAny_pure ⟨_, rfl, wpAny_pure h⟩) htake))
end
end HT
namespace L2
open PySem PySem.Spec PyProof.Rows
abbrev TO := St → Hp → (Option Int → Hp → Prop) → Prop
def PO (X : Cx) (e : Option Expr) (t : TO) : Prop :=
  ∀ (pins : List (Addr × Obj)) (s : Shared) (σ : St) (H : Hp) (Q : Option Int → Hp → Prop), Inv X pins σ H s → t σ H Q →
    wpAny (model X.prog X.w) X.A (evalPart e X.env) (fun u s' => ∃ o H', Inv X pins σ H' s' ∧ IsPart u o ∧ Q o H') X.xe s
def tNoPart : TO := fun _ H Q => Q none H
def tPart (t : TE) : TO := fun σ H Q => t σ H fun x H1 => ∃ i, x = .int i ∧ Q (some i) H1
section
variable {X : Cx} {e : Expr} {te : TE} {lo hi : Option Expr} {tl th : TO} {pos p2 : Pos}
theorem po_none : PO X none tNoPart := by
  intro pins s σ H Q I h
  rw [evalPart_none]
  exact wpAny_pure ⟨none, H, I, .none, h⟩
theorem po_some (h : PE X e te) : PO X (some e) (tPart te) := by
  intro pins s σ H Q I hw
  rw [evalPart_some]
  refine thn (h pins s σ H _ I hw) fun u s1 ⟨x, H1, I1, r1, q1⟩ => ?_
  obtain ⟨i, rfl, q⟩ := q1
  obtain ⟨t, rfl⟩ := r1
  exact ⟨some i, H1, I1, .int i t, q⟩
def SlR (X : Cx) (r : V → Option Int → Option Int → Hp → VK → Prop) : Prop :=
  ∀ (pins : List (Addr × Obj)) (s : Shared) (σ : St) (H : Hp) (x : V) (v vl vu : Value) (lo hi : Option Int) (sl : Addr) (Q : VK), Inv X pins σ H s → RelV x v → s.heap.IsSliceOf sl vl vu .none → IsPart vl lo → IsPart vu hi → r x lo hi H Q →
    ∃ T id, typeLookup (.type T) "__getitem__" = pure (some (.builtin id)) ∧ s.TypeIs v T ∧ wpAny (model X.prog X.w) X.A (getItem v (.ref sl)) (EP X pins σ Q) X.xe s
theorem SlR.or {r r' : V → Option Int → Option Int → Hp → VK → Prop} (h : SlR X r) (h' : SlR X r') : SlR X (fun x lo hi H Q => r x lo hi H Q ∨ r' x lo hi H Q) := by
  intro pins s σ H x v vl vu lo hi sl Q I rx hs pl pu q
  rcases q with q | q
  · exact h pins s σ H x v vl vu lo hi sl Q I rx hs pl pu q
  · exact h' pins s σ H x v vl vu lo hi sl Q I rx hs pl pu q
def tSl (r : V → Option Int → Option Int → Hp → VK → Prop) (te : TE) (tl th : TO) : TE := fun σ H Q => te σ H fun x H1 => tl σ H1 fun l H2 => th σ H2 fun u H3 => r x l u H3 Q
theorem pe_slice {r : V → Option Int → Option Int → Hp → VK → Prop} (hr : SlR X r) (he : PE X e te) (hl : PO X lo tl) (hu : PO X hi th) : PE X (.Subscript e (.Slice lo hi none p2) pos) (tSl r te tl th) := by
  intro pins s σ H Q I h
  refine Subscript_ (thn (he pins s σ H _ I h) fun v s1 ⟨x, H1, I1, r1, q1⟩ => ?_)
  refine wpAny_Slice (thn (hl pins s1 σ H1 _ I1 q1) fun vl s2 ⟨l, H2, I2, pl, q2⟩ => thn (hu pins s2 σ H2 _ I2 q2) fun vu s3 ⟨u, H3, I3, pu, q3⟩ => ?_)
  rw [evalPart_none]
  refine wpAny_pure ?_
  have I4 : Inv X pins σ H3 { s3 with heap := s3.heap.push { cls := .type "slice", data := .fields #[vl, vu, .none] } } := I3.kept (t' := s3.toks) fun b ob q => Heap.get?_push_of_some _ q
  obtain ⟨T, id, hT, ht, hg⟩ := hr pins { s3 with heap := s3.heap.push { cls := .type "slice", data := .fields #[vl, vu, .none] } } σ H3 x v vl vu l u s3.heap.objs.size Q I4 r1 (Heap.IsSliceOf.new ..) pl pu q3
  show wpAny (model X.prog X.w) X.A (subscriptTail e (.Slice lo hi none p2) v (.ref s3.heap.objs.size)) (EP X pins σ Q) X.xe { s3 with heap := s3.heap.push { cls := .type "slice", data := .fields #[vl, vu, .none] } }
  exact tail_any (ops := [.ref s3.heap.objs.size, v]) ht hT hg (by with_unfolding_all rfl)
def cutV (xs : List V) (lo hi : Option Int) : List V := (xs.drop (HT.sIx xs.length 0 lo)).take (HT.sIx xs.length xs.length hi - HT.sIx xs.length 0 lo)
theorem cutV_length (xs : List V) (lo hi : Option Int) : (cutV xs lo hi).length ≤ xs.length := by
  unfold cutV
  rw [List.length_take, List.length_drop]
  omega
def rSlT (K : PySem.W.Frag) : V → Option Int → Option Int → Hp → VK → Prop := fun x lo hi H Q => ∃ a xs, x = .ref a ∧ SqT K H a xs ∧
  ¬ (HT.sIx xs.length 0 lo = 0 ∧ HT.sIx xs.length xs.length hi = xs.length) ∧ ∀ p, H p = none → Q (.ref p) (upd H p (.tup (cutV xs lo hi)))
theorem sl_tup : SlR X (rSlT X.K) := by
  intro pins s σ H x v vl vu lo hi sl Q I rx hs pl pu h
  obtain ⟨a, xs, rfl, hx, hw, q⟩ := h
  cases rx
  obtain ⟨its, r, ht, hz⟩ := I.tuple hx
  have hlen : its.toArray.size = xs.length := by rw [List.size_toArray]; exact r.length.symm
  refine ⟨"tuple", _, PyProof.Rows.slot_tuple_getitem.lookup, ht.typeIs, ?_⟩
  refine HT.getItem_tuple_cut ht hs pl pu (by rw [hlen]; exact hw) ?_ (by rw [hlen]; exact hz)
  rw [hlen]
  refine ⟨.ref s.heap.objs.size, _, I.laid (t' := s.toks) (o := .tup (cutV xs lo hi)) (fun b ob q => Heap.get?_push_of_some _ q) (Nat.le_refl _) ?_, rfl, q _ (I.hok.fresh (Nat.le_refl _))⟩
  exact ⟨Nat.le_trans (cutV_length xs lo hi) hz, _, (r.drop (HT.sIx xs.length 0 lo)).take (HT.sIx xs.length xs.length hi - HT.sIx xs.length 0 lo), IsTup.new _ _⟩
end
end L2
namespace L2
open PySem PySem.Spec PyProof.Rows
def ixN (n : Nat) (i : Int) : Option Nat := if 0 ≤ i then (if i < n then some i.toNat else none) else if -(n : Int) ≤ i then some (i + n).toNat else none
def atI {α : Type} (xs : List α) (i : Int) : Option α := (ixN xs.length i).bind fun j => xs[j]?
theorem ixN_seq {n : Nat} {i : Int} {j : Nat} (h : ixN n i = some j) : seqIndex? i n = some j ∧ j < n ∧ -(n : Int) ≤ i ∧ i < n := by
  unfold ixN at h
  by_cases h0 : 0 ≤ i
  · rw [if_pos h0] at h
    by_cases h1 : i < n
    · rw [if_pos h1] at h
      have e : i.toNat = j := Option.some.inj h
      exact ⟨by rw [seqIndex_of h0 h1, e], by omega, by omega, h1⟩
    · rw [if_neg h1] at h; cases h
  · rw [if_neg h0] at h
    by_cases h1 : -(n : Int) ≤ i
    · rw [if_pos h1] at h
      have e : (i + n).toNat = j := Option.some.inj h
      exact ⟨by rw [seqIndex_neg (by omega) h1, e], by omega, h1, by omega⟩
    · rw [if_neg h1] at h; cases h
theorem atI_get {α : Type} {xs : List α} {i : Int} {v : α} (h : atI xs i = some v) : ∃ j, seqIndex? i xs.length = some j ∧ xs[j]? = some v ∧ j < xs.length ∧ -(xs.length : Int) ≤ i ∧ i < xs.length := by
  unfold atI at h
  cases e : ixN xs.length i with
  | none => rw [e] at h; cases h
  | some j =>
    rw [e] at h
    obtain ⟨h1, h2, h3, h4⟩ := ixN_seq e
    exact ⟨j, h1, h, h2, h3, h4⟩
theorem atI_nat {α : Type} {xs : List α} {j : Nat} {v : α} (h : xs[j]? = some v) : atI xs (j : Int) = some v := by
  have hj : j < xs.length := (List.getElem?_eq_some_iff.mp h).1
  have e : ixN xs.length (j : Int) = some j := by
    unfold ixN
    rw [if_pos (by omega), if_pos (by omega)]; simp
  unfold atI; rw [e]; exact h
def PlainIx (b : Expr) : Prop := ∀ o i, subscripted b false o i = operate [o, i] (getItem o i)
def IxR (X : Cx) (r : R2) : Prop :=
  ∀ (value slice : Expr) (pins : List (Addr × Obj)) (s : Shared) (σ : St) (H : Hp) (x y : V) (v u : Value) (Q : VK), Inv X pins σ H s → RelV x v → RelV y u → r x y H Q →
    subscripted slice false v u = operate [v, u] (getItem v u) → wpAny (model X.prog X.w) X.A (subscriptTail value slice v u) (EP X pins σ Q) X.xe s
def MtR (X : Cx) (id : String) (r : V → List V → Hp → VK → Prop) : Prop :=
  ∀ (pins : List (Addr × Obj)) (s : Shared) (σ : St) (H : Hp) (x : V) (xs : List V) (v : Value) (us : List Value) (Q : VK), Inv X pins σ H s → RelV x v → Vals xs us → r x xs H Q →
    wpAny (model X.prog X.w) X.A (call (.builtin id) (v :: us)) (EP X pins σ Q) X.xe s
section
variable {X : Cx} {a b : Expr} {ta tb : TE} {pos : Pos}
theorem IxR.or {r r' : R2} (h : IxR X r) (h' : IxR X r') : IxR X (fun x y H Q => r x y H Q ∨ r' x y H Q) := by
  intro value slice pins s σ H x y v u Q I rx ry q hs
  rcases q with q | q
  · exact h value slice pins s σ H x y v u Q I rx ry q hs
  · exact h' value slice pins s σ H x y v u Q I rx ry q hs
theorem MtR.or {id : String} {r r' : V → List V → Hp → VK → Prop} (h : MtR X id r) (h' : MtR X id r') : MtR X id (fun x xs H Q => r x xs H Q ∨ r' x xs H Q) := by
  intro pins s σ H x xs v us Q I rx rs q
  rcases q with q | q
  · exact h pins s σ H x xs v us Q I rx rs q
  · exact h' pins s σ H x xs v us Q I rx rs q
theorem pe_ix {r : R2} (hr : IxR X r) (ha : PE X a ta) (hb : PE X b tb) (hs : PlainIx b) : PE X (.Subscript a b pos) (tOp r ta tb) := by
  intro pins s σ H Q I h
  exact Subscript_ (binT ha hb I h fun v u s2 x y H2 I2 rx ry q => hr a b pins s2 σ H2 x y v u Q I2 rx ry q (hs _ _))
def rIxL (K : PySem.W.Frag) : R2 := fun x y H Q => ∃ p xs i v, x = .ref p ∧ y = .int i ∧ SqL K H p xs ∧ atI xs i = some v ∧ Q v H
def rIxS : R2 := fun x y H Q => ∃ z i c, x = .str z ∧ y = .int i ∧ z.length ≤ sizeLine ∧ atI z.cps.toList i = some c ∧ Q (.str ⟨#[c]⟩) H
theorem ix_list : IxR X (rIxL X.K) := by
  intro value slice pins s σ H x y v u Q I rx ry h hs
  obtain ⟨p, xs, i, z, rfl, rfl, hq, he, q⟩ := h
  cases rx
  obtain ⟨t, rfl⟩ := ry
  obtain ⟨its, r, pl, hz⟩ := I.list hq
  obtain ⟨j, h1, h2, h3, h4, h5⟩ := atI_get he
  obtain ⟨w, ew, rw'⟩ := r.get h2
  have hl := r.length
  have hn := line63
  have fin : EP X pins σ Q w s := ⟨z, H, I, rw', q⟩
  by_cases h0 : 0 ≤ i
  · have hj : i.toNat = j := by
      rw [seqIndex_of h0 h5] at h1
      exact Option.some.inj h1
    exact item_listR pl.isList h0 (by omega) (by rw [hj]; simpa using ew) fin hs
  · have hj : (i + (its.toArray.size : Int)).toNat = j := by
      rw [seqIndex_neg (by omega) h4] at h1
      rw [List.size_toArray, ← hl]
      exact Option.some.inj h1
    exact subscriptTail_builtinR (x := w) pl.isList.typeIs slot_list_getitem.lookup
      (wpAny_getItem_list_neg (Q := fun r s' => r = w ∧ EP X pins σ Q r s') pl.isList (by omega) (by rw [List.size_toArray] <;> omega) (by omega) (by rw [hj]; simpa using ew) ⟨rfl, fin⟩) hs
theorem ix_str : IxR X rIxS := by
  intro value slice pins s σ H x y v u Q I rx ry h hs
  obtain ⟨z, i, c, rfl, rfl, hz, he, q⟩ := h
  obtain ⟨t, rfl⟩ := rx
  obtain ⟨t', rfl⟩ := ry
  obtain ⟨j, h1, h2, h3, h4, h5⟩ := atI_get he
  have hl : z.cps.toList.length = z.length := by simp [Str.length]
  rw [hl] at h1 h4 h5
  have hn := line63
  exact tail_any (typeIs_str s z t) slot_str_getitem.lookup (getItem_str (c := c) (by
    have e1 : decide (i < -(2 ^ 63 : Int)) = false := decide_eq_false (by omega)
    have e2 : decide (i ≥ 2 ^ 63) = false := decide_eq_false (by omega)
    rw [e1, e2, Bool.or_false]) (by rw [h1]; simpa using h2) ⟨.str ⟨#[c]⟩, H, I.tok _, ⟨_, rfl⟩, q⟩) hs
theorem mapSeq_set (its : List Value) (n j : Nat) (u : Value) : Obj.mapSeq (·.setIfInBounds j u) { cls := .type "list", data := .seq its.toArray n } = { cls := .type "list", data := .seq (its.set j u).toArray n } := by
  simp [Obj.mapSeq]
theorem Inv.lst {pins : List (Addr × Obj)} {σ : St} {H : Hp} {s : Shared} {p : Addr} {xs : List V} (I : Inv X pins σ H s) (h : H p = some (.lst xs)) :
    ∃ (its : List Value) (n : Nat), Vals xs its ∧ s.heap.get? p = some { cls := .type "list", data := .seq its.toArray n } ∧ xs.length ≤ sizeLine := by
  obtain ⟨z, its, n, r, e⟩ := I.hok p _ h
  exact ⟨its, n, r, e, z⟩
theorem Inv.lstUpd {pins : List (Addr × Obj)} {σ : St} {H : Hp} {s : Shared} {p : Addr} {xs ys : List V} {its its' : List Value} {n n' : Nat} {f : Obj → Obj} (I : Inv X pins σ H s) (h : H p = some (.lst xs))
    (ho : s.heap.get? p = some { cls := .type "list", data := .seq its.toArray n }) (hf : f { cls := .type "list", data := .seq its.toArray n } = { cls := .type "list", data := .seq its'.toArray n' }) (r : Vals ys its') (hz : ys.length ≤ sizeLine) (t : Nat) :
    Inv X pins σ (upd H p (.lst ys)) { s with heap := s.heap.update p f, toks := t } := by
  have e : (s.heap.update p f).get? p = some { cls := .type "list", data := .seq its'.toArray n' } := by
    rw [Heap.get?_update_self f ho (by rw [hf] <;> rfl), hf]
  refine I.write (x := p) (e := p) (by rw [h]; trivial) (.inl rfl) (fun b u hb q => (Heap.get?_update_other _ _ (Ne.symm hb)).trans q) ⟨_, e⟩ ?_
  exact ⟨hz, its', n', r, e⟩
def rSetL : V → V → V → Hp → (Hp → Prop) → Prop := fun o i v H Q => ∃ p xs k j, o = .ref p ∧ i = .int k ∧ H p = some (.lst xs) ∧ ixN xs.length k = some j ∧ Q (upd H p (.lst (xs.set j v)))
theorem set_list : PSet X rSetL := by
  intro pins s σ H o i v ov iv u Q I ro ri rv h
  obtain ⟨p, xs, k, j, rfl, rfl, hp, hj, q⟩ := h
  cases ro
  obtain ⟨t, rfl⟩ := ri
  obtain ⟨its, n, r, ho, hz⟩ := I.lst hp
  obtain ⟨h1, h2, h3, h4⟩ := ixN_seq hj
  have hl := r.length
  have hn := line63
  have I' : Inv X pins σ (upd H p (.lst (xs.set j v))) { s with heap := s.heap.update p (Obj.mapSeq (·.setIfInBounds j u)) } :=
    I.lstUpd hp ho (mapSeq_set its n j u) (r.set rv j) (by rw [List.length_set]; exact hz) s.toks
  by_cases h0 : 0 ≤ k
  · have hk : k.toNat = j := by
      rw [seqIndex_of h0 h4] at h1
      exact Option.some.inj h1
    exact PySem.W.ki_setAt ho h0 (by omega) (by rw [List.size_toArray, ← hl]; exact h4) (by rw [hk]; exact ⟨_, I', q⟩)
  · have hk : (k + (its.toArray.size : Int)).toNat = j := by
      rw [seqIndex_neg (by omega) h3] at h1
      rw [List.size_toArray, ← hl]
      exact Option.some.inj h1
    exact PySem.W.ki_setBack ho (by omega) (by rw [List.size_toArray, ← hl]; exact h3) (by omega) (by rw [hk]; exact ⟨_, I', q⟩)
theorem slice_bounds (lo hi : Option Int) (n : Nat) : (sliceBounds lo hi none n).1 = ((HT.sIx n 0 lo : Nat) : Int) ∧ (sliceBounds lo hi none n).2.1 = ((HT.sIx n n hi : Nat) : Int) ∧ (sliceBounds lo hi none n).2.2 = 1 := by
  refine ⟨?_, ?_, rfl⟩
  · cases lo with
    | none => simp [sliceBounds, HT.sIx]
    | some i =>
      simp only [sliceBounds, HT.sIx, Option.getD_none, show (1 : Int) > 0 by decide, if_true]
      by_cases h : i < 0
      · simp only [h, if_true] <;> omega
      · simp only [h, if_false] <;> omega
  · cases hi with
    | none => simp [sliceBounds, HT.sIx]
    | some i =>
      simp only [sliceBounds, HT.sIx, Option.getD_none, show (1 : Int) > 0 by decide, if_true]
      by_cases h : i < 0
      · simp only [h, if_true] <;> omega
      · simp only [h, if_false] <;> omega
theorem slicePick_cut (its : List Value) (lo hi : Option Int) : slicePick its.toArray lo hi none = ((its.drop (HT.sIx its.length 0 lo)).take (HT.sIx its.length its.length hi - HT.sIx its.length 0 lo)).toArray := by
  obtain ⟨h1, h2, h3⟩ := slice_bounds lo hi its.toArray.size
  unfold slicePick
  rw [h1, h2, h3]
  simp only [sliceRange_one, pick_run, List.size_toArray] <;> rfl
def rSlL (K : PySem.W.Frag) : V → Option Int → Option Int → Hp → VK → Prop := fun x lo hi H Q => ∃ a xs, x = .ref a ∧ SqL K H a xs ∧ ∀ p, H p = none → Q (.ref p) (upd H p (.lst (cutV xs lo hi)))
theorem sl_list : SlR X (rSlL X.K) := by
  intro pins s σ H x v vl vu lo hi sl Q I rx hs pl pu h
  obtain ⟨a, xs, rfl, hx, q⟩ := h
  cases rx
  obtain ⟨its, r, ht, hz⟩ := I.list hx
  have hlen := r.length
  refine ⟨"list", _, slot_list_getitem.lookup, ht.isList.typeIs, ?_⟩
  refine wpAny_getItem_list_slice ht.isList hs pl pu .none (by simp) ?_ (by rw [List.size_toArray] <;> omega)
  rw [slicePick_cut, ← hlen]
  refine ⟨.ref s.heap.objs.size, _, I.laid (t' := s.toks) (o := .lst (cutV xs lo hi)) (fun b ob q => Heap.get?_push_of_some _ q) (Nat.le_refl _) ?_, rfl, q _ (I.hok.fresh (Nat.le_refl _))⟩
  exact ⟨Nat.le_trans (cutV_length xs lo hi) hz, _, 0, (r.drop (HT.sIx xs.length 0 lo)).take (HT.sIx xs.length xs.length hi - HT.sIx xs.length 0 lo), Heap.get?_push_size _ rfl⟩
def flatV : V → Bool
  | .non => true
  | .bl _ => true
  | .int _ => true
  | .str _ => true
  | _ => false
def eqV : V → V → Bool
  | .non, .non => true
  | .bl a, .bl b => a == b
  | .bl a, .int b => (if a then 1 else 0) == b
  | .int a, .bl b => a == (if b then 1 else 0)
  | .int a, .int b => a == b
  | .str a, .str b => a == b
  | _, _ => false
theorem eqAt_V {A : Around} {s : Shared} {y x : V} {u v : Value} (ry : RelV y u) (rx : RelV x v) (fy : flatV y = true) (fx : flatV x = true) : SeqAt.EqAt A s u v (eqV y x) := by
  cases y with
  | non =>
    cases ry
    cases x with
    | non => cases rx; exact SeqAt.EqAt.same _
    | bl b => cases rx; exact SeqAt.EqAt.none_bool b
    | int b => obtain ⟨t, rfl⟩ := rx; exact SeqAt.EqAt.none_int b t
    | str b => obtain ⟨t, rfl⟩ := rx; exact SeqAt.EqAt.none_str b t
    | _ => exact absurd (show false = true from fx) Bool.false_ne_true
  | bl a =>
    cases ry
    cases x with
    | non => cases rx; exact SeqAt.EqAt.bool_none a
    | bl b => cases rx; exact SeqAt.EqAt.bool_bool a b
    | int b => obtain ⟨t, rfl⟩ := rx; exact SeqAt.EqAt.bool_int a b t
    | str b => obtain ⟨t, rfl⟩ := rx; exact SeqAt.EqAt.bool_str a b t
    | _ => exact absurd (show false = true from fx) Bool.false_ne_true
  | int a =>
    obtain ⟨t', rfl⟩ := ry
    cases x with
    | non => cases rx; exact SeqAt.EqAt.int_none a t'
    | bl b => cases rx; exact SeqAt.EqAt.int_bool a t' b
    | int b => obtain ⟨t, rfl⟩ := rx; exact SeqAt.EqAt.int_int a t' b t
    | str b => obtain ⟨t, rfl⟩ := rx; exact SeqAt.EqAt.int_str a t' b t
    | _ => exact absurd (show false = true from fx) Bool.false_ne_true
  | str a =>
    obtain ⟨t', rfl⟩ := ry
    cases x with
    | non => cases rx; exact SeqAt.EqAt.str_none a t'
    | bl b => cases rx; exact SeqAt.EqAt.str_bool a t' b
    | int b => obtain ⟨t, rfl⟩ := rx; exact SeqAt.EqAt.str_int a t' b t
    | str b => obtain ⟨t, rfl⟩ := rx; exact SeqAt.EqAt.str_str a t' b t
    | _ => exact absurd (show false = true from fx) Bool.false_ne_true
  | _ => exact absurd (show false = true from fy) Bool.false_ne_true
def eqU (x : V) (u : Value) : Bool := match u with
  | .none => eqV .non x
  | .bool b => eqV (.bl b) x
  | .int i _ => eqV (.int i) x
  | .str z _ => eqV (.str z) x
  | _ => false
theorem eqU_of {x y : V} {u : Value} (r : RelV y u) (f : flatV y = true) : eqU x u = eqV y x := by
  cases y with
  | non => cases r; rfl
  | bl b => cases r; rfl
  | int i => obtain ⟨t, rfl⟩ := r; rfl
  | str z => obtain ⟨t, rfl⟩ := r; rfl
  | _ => exact absurd (show false = true from f) Bool.false_ne_true
theorem any_eqU {x : V} : ∀ {xs : List V} {us : List Value}, Vals xs us → xs.all flatV = true → us.any (eqU x) = xs.any fun y => eqV y x
  | _, _, .nil, _ => rfl
  | y :: xs, u :: us, .cons r t, f => by
    rw [List.all_cons, Bool.and_eq_true] at f
    rw [List.any_cons, List.any_cons, eqU_of r f.1, any_eqU t f.2]
theorem mem_eqAt {A : Around} {s : Shared} {x : V} {v : Value} (rx : RelV x v) (fx : flatV x = true) : ∀ {xs : List V} {us : List Value}, Vals xs us → xs.all flatV = true → ∀ u ∈ us, SeqAt.EqAt A s u v (eqU x u)
  | _, _, .nil, _ => fun u hu => by cases hu
  | y :: xs, u :: us, .cons r t, f => fun u' hu => by
    rw [List.all_cons, Bool.and_eq_true] at f
    rcases List.mem_cons.mp hu with rfl | hu
    · rw [eqU_of r f.1]; exact eqAt_V r rx f.1 fx
    · exact mem_eqAt rx fx t f.2 u' hu
def inV (x : V) (xs : List V) : Bool := xs.any fun y => eqV y x
def rIn (K : PySem.W.Frag) (neg : Bool) : R2 := fun x y H Q => ∃ p xs, y = .ref p ∧ (SqL K H p xs ∨ SqT K H p xs) ∧ flatV x = true ∧ xs.all flatV = true ∧ Q (.bl (if neg then !inV x xs else inV x xs)) H
theorem op_in_seq : OpR X (compareOp .In) (rIn X.K false) := by
  intro pins s σ H x y v u Q I rx ry h
  obtain ⟨p, xs, rfl, hq, fx, fs, q⟩ := h
  cases ry
  rcases hq with hq | hq
  · obtain ⟨its, r, pl, hz⟩ := I.list hq
    refine SeqAt.in_listAt (eqU x) pl.isList (fun w hw => mem_eqAt rx fx r fs w (by simpa using hw)) ⟨.bl _, H, I, rfl, ?_⟩
    rw [show its.toArray.any (eqU x) = its.any (eqU x) by simp, any_eqU r fs]
    exact q
  · obtain ⟨its, r, pl, hz⟩ := I.tuple hq
    refine SeqAt.in_tupleAt (eqU x) pl (fun w hw => mem_eqAt rx fx r fs w (by simpa using hw)) ⟨.bl _, H, I, rfl, ?_⟩
    rw [show its.toArray.any (eqU x) = its.any (eqU x) by simp, any_eqU r fs]
    exact q
theorem call_len_seq : CallR X (.builtin "len") (fun xs H Q => ∃ p ys, xs = [.ref p] ∧ (SqL X.K H p ys ∨ SqT X.K H p ys) ∧ Q (.int ys.length) H) := by
  intro pins s σ H xs us Q I r h
  obtain ⟨p, ys, rfl, hq, q⟩ := h
  obtain ⟨u, rfl, rx⟩ := vals1 r
  cases rx
  have hn := line63
  rcases hq with hq | hq
  · obtain ⟨its, r', pl, hz⟩ := I.list hq
    have hlen := r'.length
    exact Calls.call_len_list pl.isList (by simp only [List.size_toArray] <;> omega) ⟨.int ys.length, H, I.tok _, ⟨s.toks + 1, by rw [List.size_toArray, hlen]⟩, q⟩
  · obtain ⟨its, r', pl, hz⟩ := I.tuple hq
    have hlen := r'.length
    exact len_tuple pl (by simp only [List.size_toArray] <;> omega) ⟨.int ys.length, H, I.tok _, ⟨s.toks + 1, by rw [List.size_toArray, hlen]⟩, q⟩
theorem call_len_str : CallR X (.builtin "len") (fun xs H Q => ∃ z, xs = [.str z] ∧ z.length ≤ sizeLine ∧ Q (.int z.length) H) := by
  intro pins s σ H xs us Q I r h
  obtain ⟨z, rfl, hz, q⟩ := h
  obtain ⟨u, rfl, t, rfl⟩ := vals1 r
  have hn := line63
  exact len_str (by omega) ⟨.int z.length, H, I.tok _, ⟨_, rfl⟩, q⟩
theorem CallR.or {f : Value} {r r' : List V → Hp → VK → Prop} (h : CallR X f r) (h' : CallR X f r') : CallR X f (fun xs H Q => r xs H Q ∨ r' xs H Q) := by
  intro pins s σ H xs us Q I rs q
  rcases q with q | q
  · exact h pins s σ H xs us Q I rs q
  · exact h' pins s σ H xs us Q I rs q
theorem call_tuple_of : CallR X (.type "tuple") (fun xs H Q => ∃ p ys, xs = [.ref p] ∧ ((SqL X.K H p ys ∧ ∀ l, H l = none → Q (.ref l) (upd H l (.tup ys))) ∨ (SqT X.K H p ys ∧ Q (.ref p) H))) := by
  intro pins s σ H xs us Q I r h
  obtain ⟨p, ys, rfl, h⟩ := h
  obtain ⟨u, rfl, rx⟩ := vals1 r
  cases rx
  rcases h with ⟨hq, q⟩ | ⟨hq, q⟩
  · obtain ⟨its, r', pl, hz⟩ := I.list hq
    have hlen := r'.length
    refine call_tuple_list pl.isList (fun h' kp => ?_) (by simp only [List.size_toArray] <;> omega)
    have I1 : Inv X pins σ H { s with heap := h' } := I.kept (t' := s.toks) kp
    have I2 : Inv X pins σ (upd H h'.objs.size (.tup ys)) { s with heap := h'.push { cls := .type "tuple", data := .seq its.toArray } } :=
      I1.laid (t' := s.toks) (fun b o e => Heap.get?_push_of_some _ e) (Nat.le_refl _) (show ObjOk X.prog X.w _ _ _ (.tup ys) from ⟨hz, its, r', IsTup.new _ _⟩)
    exact ⟨.ref h'.objs.size, _, I2, rfl, q _ (I1.hok.fresh (Nat.le_refl _))⟩
  · obtain ⟨its, r', pl, hz⟩ := I.tuple hq
    exact call_tuple_same pl ⟨.ref p, H, I, rfl, q⟩
def tyV (K : PySem.W.Frag) (T : String) (x : V) (H : Hp) : Prop := match x with
  | .str _ => T = "str"
  | .int _ => T = "int"
  | .ref p => (T = "list" ∧ ∃ xs, SqL K H p xs) ∨ (T = "tuple" ∧ ∃ o, K.lookup p = some o ∧ o.cls = .type "tuple" ∧ o.dict = none) ∨
      (T = "dict" ∧ ((∃ kvs, H p = some (.dK kvs)) ∨ ∃ kvs, H p = some (.dT kvs))) ∨ (T = "set" ∧ ∃ S n, H p = some (.set S n))
  | _ => False
theorem tyV_is {pins : List (Addr × Obj)} {σ : St} {H : Hp} {s : Shared} {T : String} {x : V} {v : Value} (I : Inv X pins σ H s) (r : RelV x v) (ty : tyV X.K T x H) :
    s.TypeIs v T ∧ ∀ a, v = .ref a → ∃ ob, s.heap.get? a = some ob ∧ ob.dict = none := by
  cases x with
  | str z =>
    obtain ⟨t, rfl⟩ := r
    cases (show T = "str" from ty)
    exact ⟨typeIs_str s z t, fun _ e => nomatch e⟩
  | int i =>
    obtain ⟨t, rfl⟩ := r
    cases (show T = "int" from ty)
    exact ⟨typeIs_int s i t, fun _ e => nomatch e⟩
  | ref p =>
    cases r
    rcases ty with ⟨rfl, xs, hq⟩ | ⟨rfl, o, hk, hc, hd⟩ | ⟨rfl, hk⟩ | ⟨rfl, S, n, hk⟩
    · obtain ⟨its, _, pl, _⟩ := I.list hq
      refine ⟨pl.isList.typeIs, fun a e => ?_⟩
      cases e
      obtain ⟨o, n, e, c, hd, _⟩ := pl
      exact ⟨o, e, hd⟩
    · refine ⟨⟨o, I.kIn p o hk, hc⟩, fun a e => ?_⟩
      cases e
      exact ⟨o, I.kIn _ o hk, hd⟩
    · have z : ∃ o, s.heap.get? p = some o ∧ o.ExactDict := by
        rcases hk with ⟨kvs, hk⟩ | ⟨kvs, hk⟩
        · obtain ⟨_, _, _, _, o, _, _, e, ex, _⟩ := I.hok p _ hk
          exact ⟨o, e, ex⟩
        · obtain ⟨_, _, _, _, o, _, _, e, ex, _⟩ := I.hok p _ hk
          exact ⟨o, e, ex⟩
      obtain ⟨o, e, ex⟩ := z
      refine ⟨⟨o, e, ex.1⟩, fun a e2 => ?_⟩
      cases e2
      exact ⟨o, e, ex.2.1⟩
    · obtain ⟨o, _, _, _, e, ex, _⟩ := I.hok p _ hk
      refine ⟨⟨o, e, ex.1⟩, fun a e2 => ?_⟩
      cases e2
      exact ⟨o, e, ex.2.1⟩
  | _ => exact False.elim ty
def tBM0 (K : PySem.W.Frag) (T : String) (r : V → List V → Hp → VK → Prop) (to : TE) : TE := fun σ H Q => to σ H fun x H1 => tyV K T x H1 ∧ r x [] H1 Q
def tBM (K : PySem.W.Frag) (T : String) (r : V → List V → Hp → VK → Prop) (to : TE) (t : TA) : TE := fun σ H Q => to σ H fun x H1 => tyV K T x H1 ∧ t σ H1 fun xs H2 => r x xs H2 Q
variable {o e : Expr} {es : List Expr} {to : TE} {t : TA} {name : Str} {apos cpos : Pos} {T id : String} {r : V → List V → Hp → VK → Prop}
theorem pe_bm (pa : PlainAttrs T) (slot : Slot T name id) (hty : typeOf (.builtin id) = pure (.type "method_descriptor")) (hm : MtR X id r) (ho : PE X o to) (ha : PA X (e :: es) t)
    (hbase : attributeBase o name X.env (eval o X.env) = eval o X.env := by rfl)
    (hfew : ((backTo cpos (starEach (e :: es) X.env)).all (fun x => !x.1) && (backToKw cpos (keywordEach [] X.env)).all (fun x => x.1.isSome)
      && decide ((e :: es).length + ([] : List Keyword).length + (if ([] : List Keyword).isEmpty then 0 else 1) < 30)) = true := by rfl)
    (hline : (apos.endLine == cpos.line) = true := by rfl) (hs : starEach (e :: es) X.env = (false, eval e X.env) :: starEach es X.env := by rfl) (hplain : (backTo cpos (starEach es X.env)).any (·.1) = false := by rfl) :
    PE X (.Call (.Attribute o name apos) (e :: es) [] cpos) (tBM X.K T r to t) := by
  intro pins s σ H Q I h
  refine wpAny_Call_method_late hbase hfew hline rfl (thn (ho pins s σ H _ I h) fun v s1 ⟨x, H1, I1, r1, ty, q1⟩ => ?_)
  obtain ⟨h1, h2⟩ := tyV_is I1 r1 ty
  refine ⟨T, id, pa, slot, hty, h1, h2, ?_⟩
  have hA := ha cpos pins s1 σ H1 _ I1 q1
  rw [hs] at hA ⊢
  refine Calls.callWith_builtin (by show (false || (backTo cpos (starEach es X.env)).any (·.1)) = false; rw [hplain] <;> rfl) (Calls.evalArgs_plain ?_)
  exact thn hA fun us s2 ⟨vs, H2, I2, r2, q2⟩ => hm pins s2 σ H2 x vs v us Q I2 r1 r2 q2
end
end L2
namespace L2
open PySem PySem.Spec PyProof.Rows
def MtM (X : Cx) (id : String) (r : V → List V → Hp → VK → Prop) : Prop :=
  ∀ (pins : List (Addr × Obj)) (s : Shared) (σ : St) (H : Hp) (x : V) (xs : List V) (v : Value) (us : List Value) (Q : VK), Inv X pins σ H s → RelV x v → Vals xs us → r x xs H Q →
    wpAny (model X.prog X.w) X.A (call (.builtin id) (v :: us)) (EP X pins σ Q) X.xe s
theorem Vals.one : ∀ {x : V} {us : List Value}, Vals [x] us → ∃ u, us = [u] ∧ RelV x u
  | _, _, .cons r .nil => ⟨_, rfl, r⟩
theorem Vals.two : ∀ {x y : V} {us : List Value}, Vals [x, y] us → ∃ u v, us = [u, v] ∧ RelV x u ∧ RelV y v
  | _, _, _, .cons r (.cons q .nil) => ⟨_, _, rfl, r, q⟩
theorem Vals.zero : ∀ {us : List Value}, Vals [] us → us = []
  | _, .nil => rfl
theorem Vals.dropLast {xs : List V} {us : List Value} (h : Vals xs us) : Vals xs.dropLast us.dropLast := by
  induction h with
  | nil => exact .nil
  | cons r t ih =>
    cases t with
    | nil => exact .nil
    | cons q t' => exact .cons r ih
theorem Vals.reverse {xs : List V} {us : List Value} (h : Vals xs us) : Vals xs.reverse us.reverse := by
  induction h with
  | nil => exact .nil
  | cons r t ih => rw [List.reverse_cons, List.reverse_cons]; exact Vals.append ih (.cons r .nil)
theorem Vals.rep {xs : List V} {us : List Value} (h : Vals xs us) : ∀ k : Nat, Vals (List.replicate k xs).flatten (List.replicate k us).flatten
  | 0 => .nil
  | k + 1 => by
    rw [List.replicate_succ, List.replicate_succ, List.flatten_cons, List.flatten_cons]
    exact Vals.append h (Vals.rep h k)
theorem foldl_rep (its : List Value) : ∀ (k : Nat) (acc : List Value),
    List.foldl (fun x1 x2 => x1 ++ x2) acc.toArray (List.replicate k its.toArray) = (acc ++ (List.replicate k its).flatten).toArray
  | 0, acc => by simp
  | k + 1, acc => by
    have e : acc.toArray ++ its.toArray = (acc ++ its).toArray := by simp
    have e2 : (acc ++ its) ++ (List.replicate k its).flatten = acc ++ (List.replicate (k + 1) its).flatten := by
      rw [List.replicate_succ, List.flatten_cons, List.append_assoc]
    rw [← e2, ← foldl_rep its k (acc ++ its), ← e, List.replicate_succ, List.foldl_cons]
section
variable {X : Cx} {pins : List (Addr × Obj)} {σ : St} {H : Hp} {s : Shared} {l b : Addr} {xs ys zs : List V}
theorem Inv.lset {its its' : List Value} {n : Nat} {f : Array Value → Array Value} {t' : Nat} (I : Inv X pins σ H s) (hH : H l = some (.lst xs))
    (e : s.heap.get? l = some { cls := .type "list", data := .seq its.toArray n }) (hf : f its.toArray = its'.toArray) (hv : Vals ys its') (hz : ys.length ≤ sizeLine) :
    Inv X pins σ (upd H l (.lst ys)) { s with heap := s.heap.update l (Obj.mapSeq f), toks := t' } := by
  have q := PySem.IsL.update e f
  rw [hf] at q
  refine I.write (x := l) (e := l) (by rw [hH]; exact trivial) (.inl rfl) (fun b' u hb hu => (Heap.get?_update_other s.heap (Obj.mapSeq f) (Ne.symm hb)).trans hu) ⟨_, q⟩ ?_
  exact ⟨hz, its', _, hv, q⟩
theorem Inv.lnew {its : List Value} {t' : Nat} (I : Inv X pins σ H s) (hv : Vals ys its) (hz : ys.length ≤ sizeLine) :
    Inv X pins σ (upd H s.heap.objs.size (.lst ys)) { s with heap := s.heap.push { cls := .type "list", data := .seq its.toArray }, toks := t' } :=
  I.laid (fun _ _ q => Heap.get?_push_of_some _ q) (Nat.le_refl _) ⟨hz, its, 0, hv, Heap.get?_push_size _ rfl⟩
theorem Inv.fresh (I : Inv X pins σ H s) : H s.heap.objs.size = none := I.hok.fresh (Nat.le_refl _)
theorem Inv.lstM (I : Inv X pins σ H s) (hH : H l = some (.lst xs)) : xs.length ≤ sizeLine ∧ ∃ (its : List Value) (n : Nat), Vals xs its ∧ xs.length = its.length ∧ s.heap.get? l = some { cls := .type "list", data := .seq its.toArray n } := by
  obtain ⟨z, its, n, r, e⟩ := I.hok l _ hH
  exact ⟨z, its, n, r, r.length, e⟩
theorem notLongL {n : Nat} (h : n ≤ sizeLine) : Builtin.List.listTooLong n = false := by
  unfold Builtin.List.listTooLong
  exact decide_eq_false (by omega)
end
section
variable {X : Cx}
def rAppend : V → List V → Hp → VK → Prop := fun x vs H Q => ∃ l xs y, x = .ref l ∧ vs = [y] ∧ H l = some (.lst xs) ∧ xs.length < sizeLine ∧ Q .non (upd H l (.lst (xs ++ [y])))
theorem mt_append : MtM X "list.append" rAppend := by
  intro pins s σ H x vs v us Q I rx rv h
  obtain ⟨l, xs, y, rfl, rfl, hH, hz, q⟩ := h
  cases rx
  obtain ⟨u, rfl, ru⟩ := rv.one
  obtain ⟨z, its, n, r, hl, e⟩ := I.lstM hH
  refine call_meets F.slot_list_append ⟨_, e, rfl⟩ F.entry_list_append (F.args_list_append_2 _ _) (PySem.list_append l its.toArray n u (by rw [List.size_toArray]; omega)) ⟨e, ?_⟩
  refine ⟨.non, _, I.lset (its' := its ++ [u]) hH e (by simp) (r.append (.cons ru .nil)) ?_, rfl, q⟩
  rw [List.length_append, List.length_singleton]
  omega
def rCat : R2 := fun x y H Q => ∃ l b xs zs, x = .ref l ∧ y = .ref b ∧ H l = some (.lst xs) ∧ H b = some (.lst zs) ∧ xs.length + zs.length ≤ sizeLine ∧ ∀ p, H p = none → Q (.ref p) (upd H p (.lst (xs ++ zs)))
theorem op_cat : OpR X (binaryOp .Add) rCat := by
  intro pins s σ H x y v u Q I rx ry h
  obtain ⟨l, b, xs, zs, rfl, rfl, hH, hB, hz, q⟩ := h
  cases rx
  cases ry
  obtain ⟨z, its, n, r, hl, e⟩ := I.lstM hH
  obtain ⟨z2, its2, n2, r2, hl2, e2⟩ := I.lstM hB
  refine PySem.P.add_list e e2 ?_ (by rw [List.size_toArray, List.size_toArray]; omega)
  have ea : its.toArray ++ its2.toArray = (its ++ its2).toArray := by simp
  rw [ea]
  exact ⟨.ref _, _, I.lnew (t' := s.toks) (r.append r2) (by rw [List.length_append]; omega), rfl, q _ I.fresh⟩
def rRep : R2 := fun x y H Q => ∃ l k xs, x = .ref l ∧ y = .int k ∧ H l = some (.lst xs) ∧ -(2 ^ 63) ≤ k ∧ k < 2 ^ 63 ∧ xs.length * k.toNat ≤ sizeLine ∧
  ∀ p, H p = none → Q (.ref p) (upd H p (.lst (List.replicate k.toNat xs).flatten))
theorem len_rep {α : Type} (xs : List α) (k : Nat) : (List.replicate k xs).flatten.length = k * xs.length := by
  induction k with
  | zero => simp
  | succ k ih => rw [List.replicate_succ, List.flatten_cons, List.length_append, ih, Nat.succ_mul, Nat.add_comm]
theorem op_rep : OpR X (binaryOp .Mult) rRep := by
  intro pins s σ H x y v u Q I rx ry h
  obtain ⟨l, k, xs, rfl, rfl, hH, h1, h2, hz, q⟩ := h
  cases rx
  obtain ⟨t, rfl⟩ := ry
  obtain ⟨z, its, n, r, hl, e⟩ := I.lstM hH
  have hlen : its.toArray.size * k.toNat ≤ sizeLine := by rw [List.size_toArray, ← hl]; exact hz
  have hcap : ¬ its.toArray.size * k.toNat > (2 ^ 63 - 1) / 8 := by
    have : (sizeLine : Nat) ≤ (2 ^ 63 - 1) / 8 := by decide
    omega
  have hfit : ¬ (!Builtin.List.listFitsIndex k) = true := by
    rw [fitsIndex_both h1 h2]
    exact Bool.false_ne_true
  have hlong : ¬ Builtin.List.listTooLong (its.toArray.size * k.toNat) = true := by
    rw [notLongL hlen]
    exact Bool.false_ne_true
  have hnew : List.foldl (fun x1 x2 => x1 ++ x2) #[] (List.replicate (if its.toArray.isEmpty = true then 0 else k.toNat) its.toArray) = (List.replicate k.toNat its).flatten.toArray := by
    have f0 : ∀ m : Nat, List.foldl (fun x1 x2 => x1 ++ x2) #[] (List.replicate m its.toArray) = (List.replicate m its).flatten.toArray := fun m => by
      have := foldl_rep its m []
      rw [List.nil_append] at this
      exact this
    rw [f0]
    cases its with
    | nil => simp
    | cons a r' => rw [if_neg (by simp)]
  refine wpAny_binaryOp_repeat_ref (T := "list") (U := "int") (by decide) ⟨_, e, rfl⟩ (fun s' => typeIs_int s' k t) noFill_list_mul F.fills_int_mul F.slot_int_rmul repeat_list F.slot_int_index.lookup
    (call_meets F.slot_int_rmul (typeIs_int s k t) F.entry_int_rmul (F.args_int_rmul_2 _ _) (int___rmul___int_list k t l its.toArray n)
      ⟨e, rfl, ⟨_, e, rfl⟩, call_meets F.slot_list_mul ⟨_, e, rfl⟩ F.entry_list_mul (F.args_list_mul_2 _ _) (AutoListH.list___mul___list_int_3 l its.toArray n k t hfit hcap hlong) ⟨e, ?_⟩⟩)
  rw [hnew]
  exact ⟨.ref _, _, I.lnew (t' := s.toks) (r.rep k.toNat) (by rw [len_rep, Nat.mul_comm]; exact hz), rfl, q _ I.fresh⟩
end
section
variable {prog : Program} {w : World} {A : Around} {E : Value → Shared → Prop} {s : Shared}
end
section
variable {X : Cx}
end
end L2
namespace L2
open PySem PySem.Spec PyProof.Rows
theorem Vals.ints : ∀ {ns : List Int} {us : List Value}, Vals (ns.map V.int) us → IntsAre us ns
  | [], us, h => by
    rw [List.map_nil] at h
    cases h
    exact IntsAre.nil
  | n :: ns, us, h => by
    rw [List.map_cons] at h
    cases h with
    | cons r t =>
      obtain ⟨k, rfl⟩ := r
      exact IntsAre.cons n k (Vals.ints t)
theorem Vals.strs : ∀ {xs : List Str} {us : List Value}, Vals (xs.map V.str) us → StrsAre us xs
  | [], us, h => by
    rw [List.map_nil] at h
    cases h
    exact StrsAre.nil
  | x :: xs, us, h => by
    rw [List.map_cons] at h
    cases h with
    | cons r t =>
      obtain ⟨k, rfl⟩ := r
      exact StrsAre.cons x k (Vals.strs t)
theorem Vals.ref1 {a : Addr} {us : List Value} (r : Vals [V.ref a] us) : us = [Value.ref a] := by
  cases r with
  | cons r t =>
    cases t
    cases r
    rfl
section
variable {prog : Program} {w : World} {A : Around} {E : Value → Shared → Prop} {s : Shared} {l : Addr} {its : List Value} {ns : List Int} {Q : Value → Shared → Prop}
theorem sum_raw (hh : A.handled = none) (hl : s.heap.IsList l its.toArray) (hi : IntsAre its ns)
    (h : ∀ h' tk t', (∀ b o, s.heap.get? b = some o → h'.get? b = some o) → Q (.int ns.sum t') { s with heap := h', toks := tk }) : wpAny (model prog w) A (call (.builtin "sum") [.ref l]) Q E s := by
  obtain ⟨xs, e⟩ := hi.allInts.items
  have hn : numsOf (intItems xs).toList = ns := by rw [← e]; exact hi.numsOf
  rw [nums_intItems] at hn
  rw [e] at hl
  refine PySem.sum_intListG hh hl fun h' tk t' hk => ?_
  have := h h' tk t' hk
  rw [preSum_eq, List.take_of_length_le (by simp), hn]; exact this
end
section
variable {X : Cx}
def rSum (K : PySem.W.Frag) : List V → Hp → VK → Prop := fun vs H Q => ∃ (a : Addr) (ns : List Int), vs = [V.ref a] ∧ SqL K H a (ns.map V.int) ∧ Q (.int ns.sum) H
theorem cr_sum (hc : X.calm = true) : CallR X (.builtin "sum") (rSum X.K) := by
  intro pins s σ H vs us Q I r h
  obtain ⟨a, ns, rfl, hs, q⟩ := h
  obtain ⟨its, rv, hl, _⟩ := I.list hs
  rw [Vals.ref1 r]
  exact sum_raw (I.ok.hd hc) hl.isList rv.ints fun h' tk t' hk => ⟨.int _, H, I.kept hk, ⟨_, rfl⟩, q⟩
end
section
variable {X : Cx}
def rIndex (K : PySem.W.Frag) : V → List V → Hp → VK → Prop := fun x xs H Q => ∃ (a : Addr) (ys : List V) (y : V) (j : Nat) (z : V), x = V.ref a ∧ xs = [y] ∧ SqL K H a ys ∧ flatV y = true ∧ ys.all flatV = true ∧ ys[j]? = some z ∧ eqV z y = true ∧
  (∀ (m : Nat) (z' : V), m < j → ys[m]? = some z' → eqV z' y = false) ∧ Q (.int (j : Nat)) H
theorem flat_at {ys : List V} (f : ys.all flatV = true) {j : Nat} {z : V} (h : ys[j]? = some z) : flatV z = true := List.all_eq_true.mp f z (List.mem_of_getElem? h)
theorem mt_index : MtR X "list.index" (rIndex X.K) := by
  intro pins s σ H x xs v us Q I rx rxs h
  obtain ⟨a, ys, y, j, z, rfl, rfl, hs, fy, fys, hz, hzj, hno, q⟩ := h
  cases rx
  cases rxs with
  | cons ry rt =>
    rename_i uy ut
    cases rt
    obtain ⟨its, rv, ⟨⟨cls, dd, data, sl⟩, n, ho, hc, hdn, hd⟩, hlen⟩ := I.list hs
    simp only at hc hd
    subst hc hd
    obtain ⟨u, hu, ru⟩ := rv.get hz
    obtain ⟨hjl, hje⟩ := List.getElem?_eq_some_iff.mp hu
    have hvl := rv.length
    have hj : j < its.toArray.size := by simpa using hjl
    have hsl := sizeLine_eq
    refine call_meets PySem.F.slot_list_index ⟨_, ho, rfl⟩ PySem.F.entry_list_index (PySem.F.args_list_index_2 _ _)
      (SeqAt.list_indexAt a its.toArray n dd sl uy (eqU y) j hj (by omega) ?_ ?_) ⟨ho, fun u' hu' => mem_eqAt ry fy rv fys u' (by simpa using hu'), ?_⟩
    · have e1 : its.toArray[j] = u := by simpa using hje
      rw [e1, eqU_of ru (flat_at fys hz)]
      exact hzj
    · intro m hm hmj
      have hml : m < its.length := by simpa using hm
      have hmy : m < ys.length := by omega
      have hy' : ys[m]? = some ys[m] := List.getElem?_eq_getElem hmy
      obtain ⟨u2, hu2, ru2⟩ := rv.get hy'
      obtain ⟨_, hme⟩ := List.getElem?_eq_some_iff.mp hu2
      have e1 : its.toArray[m] = u2 := by simpa using hme
      rw [e1, eqU_of ru2 (flat_at fys hy')]
      exact hno m _ hmj hy'
    · exact ⟨.int (j : Nat), H, I.tok _, ⟨_, rfl⟩, q⟩
end
section
variable {X : Cx}
end
section
variable {X : Cx}
end
mutual
inductive Dp (K : PySem.W.Frag) (H : Hp) : V → PyData → Prop
  | non : Dp K H .non .none
  | bl (b : Bool) : Dp K H (.bl b) (.bool b)
  | int (i : Int) : Dp K H (.int i) (.int i)
  | str (x : Str) : Dp K H (.str x) (.str x)
  | lst {a : Addr} {xs : List V} {ds : List PyData} : SqL K H a xs → DpAll K H xs ds → Dp K H (.ref a) (.list ds)
  | tup {a : Addr} {xs : List V} {ds : List PyData} : SqT K H a xs → DpAll K H xs ds → Dp K H (.ref a) (.tuple ds)
inductive DpAll (K : PySem.W.Frag) (H : Hp) : List V → List PyData → Prop
  | nil : DpAll K H [] []
  | cons {v : V} {vs : List V} {d : PyData} {ds : List PyData} : Dp K H v d → DpAll K H vs ds → DpAll K H (v :: vs) (d :: ds)
end
section
variable {X : Cx} {pins : List (Addr × Obj)} {σ : St} {H : Hp} {s : Shared}
mutual
theorem Dp.reads (I : Inv X pins σ H s) : ∀ (d : PyData) (v : V) (u : Value), Dp X.K H v d → RelV v u → ∃ as, Reads s.heap u d as
  | .none, _, _, h, r => by
    cases h
    cases r
    exact ⟨_, Reads.none⟩
  | .bool b, _, _, h, r => by
    cases h
    cases r
    exact ⟨_, Reads.bool b⟩
  | .int i, _, _, h, r => by
    cases h
    obtain ⟨t, rfl⟩ := r
    exact ⟨_, Reads.int i t⟩
  | .str x, _, _, h, r => by
    cases h
    obtain ⟨t, rfl⟩ := r
    exact ⟨_, Reads.str x t⟩
  | .list ds, _, _, h, r => by
    cases h with
    | lst hs ha =>
      cases r
      obtain ⟨its, rv, ⟨o, n, ho, hc, _, hd⟩, _⟩ := I.list hs
      obtain ⟨as, hr⟩ := Dp.readsAll I ds _ its ha rv
      exact ⟨_, Reads.list ho hc hd hr⟩
  | .tuple ds, _, _, h, r => by
    cases h with
    | tup hs ha =>
      cases r
      obtain ⟨its, rv, ⟨o, ho, hc, n, hd⟩, _⟩ := I.tuple hs
      obtain ⟨as, hr⟩ := Dp.readsAll I ds _ its ha rv
      exact ⟨_, Reads.tuple ho hc hd hr⟩
  | .dict _, _, _, h, _ => by cases h
theorem Dp.readsAll (I : Inv X pins σ H s) : ∀ (ds : List PyData) (vs : List V) (us : List Value), DpAll X.K H vs ds → Vals vs us → ∃ as, ReadsAll s.heap us ds as
  | [], _, _, h, r => by
    cases h
    cases r
    exact ⟨_, ReadsAll.nil⟩
  | d :: ds, _, _, h, r => by
    cases h with
    | cons h1 h2 =>
      cases r with
      | cons r1 r2 =>
        obtain ⟨as, q1⟩ := Dp.reads I d _ _ h1 r1
        obtain ⟨bs, q2⟩ := Dp.readsAll I ds _ _ h2 r2
        exact ⟨_, ReadsAll.cons q1 q2⟩
end
end
section
variable {X : Cx}
def rEqD (K : PySem.W.Frag) : R2 := fun x y H Q => ∃ d e, Dp K H x d ∧ Dp K H y e ∧ SeqAt.shaped d = true ∧ SeqAt.shaped e = true ∧ Q (.bl (PyData.eqv d e)) H
def rNeD (K : PySem.W.Frag) : R2 := fun x y H Q => ∃ d e, Dp K H x d ∧ Dp K H y e ∧ SeqAt.shaped d = true ∧ SeqAt.shaped e = true ∧ Q (.bl (!PyData.eqv d e)) H
theorem op_eqD (hu : X.A.units + 64 < cLine) : OpR X (compareOp .Eq) (rEqD X.K) := by
  intro pins s σ H x y v u Q I rx ry h
  obtain ⟨d, e, hd, he, sd, se, q⟩ := h
  obtain ⟨as, r1⟩ := Dp.reads I d x v hd rx
  obtain ⟨bs, r2⟩ := Dp.reads I e y u he ry
  exact SeqAt.compareEq_shaped r1 r2 sd se hu ⟨.bl _, H, I, rfl, q⟩
theorem op_neD (hu : X.A.units + 64 < cLine) : OpR X (compareOp .NotEq) (rNeD X.K) := by
  intro pins s σ H x y v u Q I rx ry h
  obtain ⟨d, e, hd, he, sd, se, q⟩ := h
  obtain ⟨as, r1⟩ := Dp.reads I d x v hd rx
  obtain ⟨bs, r2⟩ := Dp.reads I e y u he ry
  exact SeqAt.compareNe_shaped r1 r2 sd se hu ⟨.bl _, H, I, rfl, q⟩
end
end L2
namespace L2
open PySem PySem.Spec PyProof.Rows
abbrev CellAt (h : Heap) (c : Addr) (v : Option Value) : Prop := h.IsCell c v
def relS (scope sc : Scope) : Scope :=
  { scope with names := scope.names.map fun (n, k) => if (k == .free && sc.kind == .function && sc.names.lookup n == some .cell) then (n, .cell) else (n, k) }
def cloFrom (cells : List (Str × Addr)) : List (Str × NameKind) → List (Str × Addr) → List (Str × Addr)
  | [], acc => acc
  | (n, k) :: r, acc => if k == .free then cloFrom cells r ((n, (cells.lookup n).getD 0) :: acc) else cloFrom cells r acc
theorem closure_loop (env : Env) (f : Str × NameKind → List (Str × Addr) → Sem (ForInStep (List (Str × Addr))))
    (hf : ∀ n k c, f (n, k) c = if k == .free then (do let a ← cellOf env n; pure (.yield ((n, a) :: c))) else pure (.yield c)) :
    ∀ (names : List (Str × NameKind)) (acc : List (Str × Addr)), (∀ y ∈ names, y.2 = .free → ∃ c, env.cells.lookup y.1 = some c) → forIn names acc f = pure (cloFrom env.cells names acc)
  | [], acc, _ => by rw [List.forIn_nil]; rfl
  | (n, k) :: r, acc, h => by
    rw [List.forIn_cons, hf]
    have ih := fun acc => closure_loop env f hf r acc fun y hy => h y (List.mem_cons_of_mem _ hy)
    unfold cloFrom
    by_cases hk : (k == NameKind.free) = true
    · rw [if_pos hk, if_pos hk]
      obtain ⟨c, hc⟩ := h (n, k) List.mem_cons_self (by simpa using hk)
      have e : cellOf env n = pure c := by unfold cellOf; rw [hc]
      rw [e]
      have e2 : (env.cells.lookup n).getD 0 = c := by rw [hc]; rfl
      rw [e2]
      exact ih _
    · rw [if_neg hk, if_neg hk]
      exact ih _
theorem closure_ok {scope : Scope} {env : Env} (h : ∀ y ∈ scope.names, y.2 = .free → ∃ c, env.cells.lookup y.1 = some c) : closureFor scope env = pure (cloFrom env.cells scope.names []) := by
  simp only [closureFor]
  rw [closure_loop env _ (fun n k c => rfl) scope.names [] h]
  rfl
theorem mem_lookup {α : Type} : ∀ {l : List (Str × α)} {n : Str} {c : α}, (n, c) ∈ l → ∃ c', l.lookup n = some c'
  | (k, v) :: r, n, c, h => by
    rw [List.lookup_cons]
    cases hb : n == k with
    | true => exact ⟨_, rfl⟩
    | false =>
      rcases List.mem_cons.mp h with e | h
      · cases e; simp at hb
      · exact mem_lookup h
theorem cloFrom_mem {cells : List (Str × Addr)} : ∀ {names : List (Str × NameKind)} {acc : List (Str × Addr)} {n : Str} {c : Addr}, (n, c) ∈ cloFrom cells names acc → (n, c) ∈ acc ∨ ((n, .free) ∈ names ∧ c = (cells.lookup n).getD 0)
  | [], _, _, _, h => .inl h
  | (m, k) :: r, acc, n, c, h => by
    unfold cloFrom at h
    split at h
    · rename_i hk
      have hk : k = .free := by simpa using hk
      rcases cloFrom_mem h with h | ⟨h1, h2⟩
      · rcases List.mem_cons.mp h with e | h
        · cases e; exact .inr ⟨hk ▸ List.mem_cons_self, rfl⟩
        · exact .inl h
      · exact .inr ⟨List.mem_cons_of_mem _ h1, h2⟩
    · rcases cloFrom_mem h with h | ⟨h1, h2⟩
      · exact .inl h
      · exact .inr ⟨List.mem_cons_of_mem _ h1, h2⟩
theorem cloFrom_acc {cells : List (Str × Addr)} : ∀ {names : List (Str × NameKind)} {acc : List (Str × Addr)} {p : Str × Addr}, p ∈ acc → p ∈ cloFrom cells names acc
  | [], _, _, h => h
  | (m, k) :: r, acc, p, h => by
    unfold cloFrom
    split
    · exact cloFrom_acc (List.mem_cons_of_mem _ h)
    · exact cloFrom_acc h
theorem cloFrom_has {cells : List (Str × Addr)} : ∀ {names : List (Str × NameKind)} {acc : List (Str × Addr)} {n : Str}, (n, .free) ∈ names → (n, (cells.lookup n).getD 0) ∈ cloFrom cells names acc
  | (m, k) :: r, acc, n, h => by
    unfold cloFrom
    rcases List.mem_cons.mp h with e | h
    · cases e
      exact cloFrom_acc List.mem_cons_self
    · split
      · exact cloFrom_has h
      · exact cloFrom_has h
theorem cells_mem : ∀ {names : List (Str × NameKind)} {h : Heap} {acc : List (Str × Addr)} {x : Str} {c : Addr}, (x, c) ∈ cellsFrom h.objs.size names acc →
    (x, c) ∈ acc ∨ ((x, .cell) ∈ names ∧ h.objs.size ≤ c ∧ CellAt (pushCells h names) c none)
  | [], _, _, _, _, h => .inl h
  | (n, k) :: r, h, acc, x, c, hm => by
    unfold cellsFrom at hm
    unfold pushCells
    split at hm
    · rename_i hk
      rw [if_pos hk]
      have hk : k = .cell := by simpa using hk
      rw [← Heap.size_push h { cls := .type "cell", data := .cell none }] at hm
      rcases cells_mem hm with hm | ⟨h1, h2, h3⟩
      · rcases List.mem_cons.mp hm with e | hm
        · cases e
          exact .inr ⟨hk ▸ List.mem_cons_self, Nat.le_refl _, _, pushCells_keeps r _ _ _ (Heap.get?_push_size _ rfl), rfl⟩
        · exact .inl hm
      · rw [Heap.size_push] at h2
        exact .inr ⟨List.mem_cons_of_mem _ h1, Nat.le_of_succ_le h2, h3⟩
    · rename_i hk
      rw [if_neg hk]
      rcases cells_mem hm with hm | ⟨h1, h2, h3⟩
      · exact .inl hm
      · exact .inr ⟨List.mem_cons_of_mem _ h1, h2, h3⟩
theorem cells_acc : ∀ {names : List (Str × NameKind)} {n : Nat} {acc : List (Str × Addr)} {p : Str × Addr}, p ∈ acc → p ∈ cellsFrom n names acc
  | [], _, _, _, h => h
  | (m, k) :: r, n, acc, p, h => by
    unfold cellsFrom
    split
    · exact cells_acc (List.mem_cons_of_mem _ h)
    · exact cells_acc h
theorem cells_has : ∀ {names : List (Str × NameKind)} {n : Nat} {acc : List (Str × Addr)} {x : Str}, (x, .cell) ∈ names → ∃ c, (x, c) ∈ cellsFrom n names acc
  | (m, k) :: r, n, acc, x, h => by
    unfold cellsFrom
    rcases List.mem_cons.mp h with e | h
    · cases e
      exact ⟨n, cells_acc List.mem_cons_self⟩
    · split
      · exact cells_has h
      · exact cells_has h
theorem cells_inj : ∀ {names : List (Str × NameKind)} {h : Heap} {acc : List (Str × Addr)} {x y : Str} {c : Addr}, (∀ p ∈ acc, p.2 < h.objs.size) → (∀ x y c, (x, c) ∈ acc → (y, c) ∈ acc → x = y) →
    (x, c) ∈ cellsFrom h.objs.size names acc → (y, c) ∈ cellsFrom h.objs.size names acc → x = y
  | [], _, _, _, _, _, _, hi, h1, h2 => hi _ _ _ h1 h2
  | (n, k) :: r, h, acc, x, y, c, hl, hi, h1, h2 => by
    unfold cellsFrom at h1 h2
    split at h1
    · rename_i hk
      rw [if_pos hk] at h2
      rw [← Heap.size_push h { cls := .type "cell", data := .cell none }] at h1 h2
      refine cells_inj (h := h.push _) (fun p hp => ?_) (fun x y c a b => ?_) h1 h2
      · rw [Heap.size_push]
        rcases List.mem_cons.mp hp with rfl | hp
        · exact Nat.lt_succ_self _
        · exact Nat.lt_succ_of_lt (hl p hp)
      · rcases List.mem_cons.mp a with e | a <;> rcases List.mem_cons.mp b with e' | b
        · cases e; cases e'; rfl
        · cases e; exact absurd (hl _ b) (Nat.lt_irrefl _)
        · cases e'; exact absurd (hl _ a) (Nat.lt_irrefl _)
        · exact hi _ _ _ a b
    · rename_i hk
      rw [if_neg hk] at h2
      exact cells_inj hl hi h1 h2
theorem newEnv_comp {M : Model} {A : Around} {E : Value → Shared → Prop} {s : Shared} {scope : Scope} {globals : Addr} {closure : List (Str × Addr)} {qual : Str} {func : Option Addr} {code : Value} {around : Env} {builtins : Addr} {Q : Env → Shared → Prop}
    (h : Q (newEnv scope s.heap.objs.size globals (cellsFrom (s.heap.objs.size + 1) scope.names closure) qual func code (some around) builtins)
      { s with heap := pushCells (s.heap.push { cls := .type "dict", data := .dict #[] }) scope.names }) :
    wpAny M A (newFunctionEnv scope globals closure [] qual func code (some around) builtins) Q E s := by
  simp only [newFunctionEnv, Option.isSome_some, if_true]
  refine wpAny_bind (wpAny_alloc ?_)
  refine wpAny_bind (wpAny_layCells _ (fun n k c => rfl) scope.names closure _ _ ?_)
  rw [show ({ s with heap := s.heap.push { cls := .type "dict", data := .dict #[] } } : Shared).heap.objs.size = s.heap.objs.size + 1 from Heap.size_push ..]
  rw [List.forIn_nil]
  exact wpAny_bind (wpAny_pure (wpAny_pure h))
theorem lookup_relS {sc : Scope} : ∀ {names : List (Str × NameKind)} {x : Str} {k : NameKind},
    (names.map fun (n, k) => if (k == NameKind.free && sc.kind == .function && sc.names.lookup n == some .cell) then (n, NameKind.cell) else (n, k)).lookup x = some k →
    ∃ k', names.lookup x = some k' ∧ (k = k' ∨ (k' = .free ∧ k = .cell))
  | [], _, _, h => by simp at h
  | (n, k₀) :: r, x, k, h => by
    have ih := @lookup_relS sc r x k
    have h' : List.lookup x ((if (k₀ == NameKind.free && sc.kind == .function && sc.names.lookup n == some .cell) = true then (n, NameKind.cell) else (n, k₀)) :: (r.map _)) = some k := h
    cases hx : x == n with
    | true =>
      simp only [List.lookup_cons, hx]
      by_cases hc : (k₀ == NameKind.free && sc.kind == .function && sc.names.lookup n == some .cell) = true
      · rw [if_pos hc] at h'
        simp only [List.lookup_cons, hx] at h'
        cases h'
        simp only [Bool.and_eq_true, beq_iff_eq] at hc
        exact ⟨k₀, rfl, .inr ⟨hc.1.1, rfl⟩⟩
      · rw [if_neg hc] at h'
        simp only [List.lookup_cons, hx] at h'
        cases h'
        exact ⟨_, rfl, .inl rfl⟩
    | false =>
      simp only [List.lookup_cons, hx]
      by_cases hc : (k₀ == NameKind.free && sc.kind == .function && sc.names.lookup n == some .cell) = true
      · rw [if_pos hc] at h'
        simp only [List.lookup_cons, hx] at h'
        exact ih h'
      · rw [if_neg hc] at h'
        simp only [List.lookup_cons, hx] at h'
        exact ih h'
structure BlkOk (N : List Str) (sc scope : Scope) (own : List (Str × Nat)) : Prop where
  kind : scope.kind = .function
  uniq : ∀ y ∈ scope.names, scope.names.lookup y.1 = some y.2
  ix : ∀ p ∈ own, N[p.2]? = some p.1
  free : ∀ y ∈ scope.names, y.2 = .free → sc.names.lookup y.1 = some .cell ∨ sc.names.lookup y.1 = some .free
  own : ∀ y ∈ scope.names, y.2 = .local ∨ y.2 = .cell → y.1 ∈ own.map (·.1) ∨ y.1 ∉ N
def wipe (σ : St) : List Nat → St
  | [] => σ
  | v :: vs => (wipe σ vs).set v none
theorem wipe_length (σ : St) : ∀ vs : List Nat, (wipe σ vs).length = σ.length
  | [] => rfl
  | v :: vs => by unfold wipe; rw [List.length_set, wipe_length σ vs]
theorem wipe_some {σ : St} {i : Nat} {x : V} : ∀ {vs : List Nat}, (wipe σ vs)[i]? = some (some x) → σ[i]? = some (some x) ∧ i ∉ vs
  | [], h => ⟨h, by simp⟩
  | v :: vs, h => by
    unfold wipe at h
    by_cases hi : v = i
    · subst hi
      by_cases hv : v < (wipe σ vs).length
      · rw [List.getElem?_set_self hv] at h; cases h
      · rw [List.getElem?_eq_none (by simpa using hv)] at h; cases h
    · rw [List.getElem?_set_ne hi] at h
      obtain ⟨h1, h2⟩ := wipe_some h
      exact ⟨h1, by simp only [List.mem_cons, not_or]; exact ⟨fun e => hi e.symm, h2⟩⟩
abbrev Cx.blk (X : Cx) (s : Shared) (H : Hp) (scope : Scope) (cenv : Env) (fp : List Addr) : Cx := { X with s_0 := s, H_0 := H, env := cenv, outer := X.stack, ex := fp, fn := fun x => scope.names.lookup x == some .cell, pn := [], xe := fun _ _ => False }
section
variable {X : Cx} {pins : List (Addr × Obj)} {σ : St} {H : Hp} {s : Shared}
theorem block_start {scope : Scope} {own : List (Str × Nat)} {fp : List Addr} (I : Inv X pins σ H s) (ok : BlkOk X.N X.env.scope scope own) (hN : X.N.Nodup) (hfp : ∀ b ∈ fp, FpOk X pins H b ∧ b < s.heap.objs.size) :
    Inv (X.blk s H scope (compEnvC scope (cellsFrom (s.heap.objs.size + 1) scope.names (cloFrom X.env.cells scope.names [])) s.heap.objs.size X.env) fp) [] (wipe σ (own.map (·.2))) H { s with heap := pushCells (s.heap.push { cls := .type "dict", data := .dict #[] }) scope.names } := by
  have hfree : ∀ y ∈ scope.names, y.2 = .free → ∃ c, X.env.cells.lookup y.1 = some c := fun y hy e => by
    rcases ok.free y hy e with k | k
    · exact I.ok.has _ (.inl k)
    · exact I.ok.has _ (.inr k)
  generalize hcenv : compEnvC scope (cellsFrom (s.heap.objs.size + 1) scope.names (cloFrom X.env.cells scope.names [])) s.heap.objs.size X.env = cenv
  have kp : ∀ b o, s.heap.get? b = some o → (pushCells (s.heap.push { cls := .type "dict", data := .dict #[] }) scope.names).get? b = some o := fun b o e => pushCells_keeps _ _ _ _ (Heap.get?_push_of_some _ e)
  have hL : cenv.locals = s.heap.objs.size := by rw [← hcenv]; rfl
  have hcl : cenv.cells = cellsFrom (s.heap.objs.size + 1) scope.names (cloFrom X.env.cells scope.names []) := by rw [← hcenv]; rfl
  have hsc : cenv.scope = relS scope X.env.scope := by rw [← hcenv]; rfl
  rw [← Heap.size_push s.heap { cls := .type "dict", data := .dict #[] }] at hcl
  have cm : ∀ {y c}, (y, c) ∈ cloFrom X.env.cells scope.names [] → X.env.cells.lookup y = some c ∧ c < s.heap.objs.size := fun {y c} hm => by
    rcases cloFrom_mem hm with hm | ⟨h1, rfl⟩
    · cases hm
    · obtain ⟨c, hc⟩ := hfree _ h1 rfl
      rw [hc]
      obtain ⟨w, z⟩ := I.cell _ _ hc
      exact ⟨rfl, z.lt⟩
  have mem : ∀ {y c}, cenv.cells.lookup y = some c → (X.env.cells.lookup y = some c ∧ c < s.heap.objs.size) ∨ (s.heap.objs.size + 1 ≤ c ∧ CellAt (pushCells (s.heap.push { cls := .type "dict", data := .dict #[] }) scope.names) c none) := fun {y c} e => by
    rw [hcl] at e
    rcases cells_mem (PySem.mem_of_lookup e) with hm | ⟨_, h2, h3⟩
    · exact .inl (cm hm)
    · rw [Heap.size_push] at h2; exact .inr ⟨h2, h3⟩
  have look : ∀ {y}, scope.names.lookup y = some .free → ∃ c, cenv.cells.lookup y = some c ∧ X.env.cells.lookup y = some c := fun {y} hl => by
    have hy : (y, NameKind.free) ∈ scope.names := PySem.mem_of_lookup hl
    obtain ⟨c', e'⟩ := mem_lookup (cells_acc (names := scope.names) (n := (s.heap.push { cls := .type "dict", data := .dict #[] }).objs.size) (cloFrom_has (cells := X.env.cells) (acc := []) hy))
    rw [← hcl] at e'
    refine ⟨c', e', ?_⟩
    rw [hcl] at e'
    rcases cells_mem (PySem.mem_of_lookup e') with hm | ⟨h1, _, _⟩
    · exact (cm hm).1
    · have := ok.uniq _ h1
      rw [hl] at this; cases this
  have okB : (X.blk s H scope cenv fp).Ok := by
    refine ⟨I.ok.mod, by show cenv.scope.kind = _; rw [hsc]; exact ok.kind, by show cenv.globals = _; rw [← hcenv]; exact I.ok.glob, by show cenv.builtins = _; rw [← hcenv]; exact I.ok.blt, by show s.heap.objs.size ≤ cenv.locals; rw [hL]; exact Nat.le_refl _,
      fun y z c e1 e2 => ?_, fun y hy => ?_, fun y c z e => ?_, I.ok.hd, I.ok.frames, .inl rfl, fun b hb => ⟨?_, fun y c e z => ?_⟩, I.bs, Nat.le_trans I.ok.bsz I.sz, fun b o e hb => ?_, fun b hb z => ?_, I.stack, I.stkFree⟩
    · have e1 : cenv.cells.lookup y = some c := e1
      have e2 : cenv.cells.lookup z = some c := e2
      rw [hcl] at e1 e2
      refine cells_inj (fun p hp => ?_) (fun y z c a b => I.ok.inj y z c (cm a).1 (cm b).1) (PySem.mem_of_lookup e1) (PySem.mem_of_lookup e2)
      rw [Heap.size_push]
      exact Nat.lt_succ_of_lt (cm (y := p.1) (c := p.2) hp).2
    · show ∃ c, cenv.cells.lookup y = some c
      have key : ∀ k, cenv.kindOf y = some k → (k = .cell ∨ k = .free) → ∃ c, cenv.cells.lookup y = some c := fun k hk hk' => by
        unfold Env.kindOf at hk
        rw [hsc] at hk
        obtain ⟨k', e, r⟩ := lookup_relS hk
        have : k' = .cell ∨ k' = .free := by
          rcases r with rfl | ⟨rfl, _⟩
          · exact hk'
          · exact .inr rfl
        rcases this with rfl | rfl
        · obtain ⟨c, hm⟩ := cells_has (n := (s.heap.push { cls := .type "dict", data := .dict #[] }).objs.size) (acc := cloFrom X.env.cells scope.names []) (PySem.mem_of_lookup e)
          obtain ⟨c', e'⟩ := mem_lookup hm
          exact ⟨c', by rw [hcl]; exact e'⟩
        · obtain ⟨c, h1, _⟩ := look e
          exact ⟨c, h1⟩
      rcases hy with hy | hy
      · exact key _ hy (.inl rfl)
      · exact key _ hy (.inr rfl)
    · have z : (scope.names.lookup y == some NameKind.cell) = true := z
      have z : scope.names.lookup y = some .cell := by simpa using z
      have e : cenv.cells.lookup y = some c := e
      rw [hcl] at e
      rcases cells_mem (PySem.mem_of_lookup e) with hm | ⟨_, h2, _⟩
      · rcases cloFrom_mem hm with hm | ⟨h1, _⟩
        · cases hm
        · have q := ok.uniq _ h1
          rw [z] at q; cases q
      · rw [Heap.size_push] at h2
        exact Nat.le_of_succ_le h2
    · show b ≠ cenv.locals
      rw [hL]; exact Nat.ne_of_lt (hfp b hb).2
    · have e : cenv.cells.lookup y = some c := e
      rcases mem e with ⟨h1, _⟩ | ⟨h1, _⟩
      · exact (hfp b hb).1.2.2.2.2.1 y c h1 z
      · have h2 : s.heap.objs.size + 1 ≤ b := by rw [← z]; exact h1
        exact absurd (Nat.lt_of_lt_of_le (hfp b hb).2 (Nat.le_of_succ_le h2)) (Nat.lt_irrefl _)
    · rcases (hfp b hb).1.2.2.2.1 with z | z
      · exact I.ok.noex b o e z
      · exact absurd (Nat.lt_of_lt_of_le (Heap.lt_size e) (Nat.le_trans I.ok.bsz z)) (Nat.lt_irrefl _)
    · rcases List.mem_cons.mp (I.stkSub b z) with z | z
      · exact (hfp b hb).1.2.1 z
      · exact (hfp b hb).1.2.2.1 z
  refine ⟨okB, rfl, I.bare, Un.kept kp, ⟨fun _ => none, ?_, fun i y av e1 e2 e3 => ?_⟩, fun y c e => ?_, ?_, fun y c e => ?_, fun p hp => ?_, I.hok.kept kp, by rw [wipe_length]; exact I.len⟩
  · show Heap.Ns _ cenv.locals _
    rw [hL]
    exact Heap.Ns.keeps (Heap.Ns.new ..) fun b o e => pushCells_keeps _ _ _ _ e
  · obtain ⟨e2, hne⟩ := wipe_some e2
    have hfr : scope.names.lookup y = some .free ∧ (cenv.kindOf y = some .cell ∨ cenv.kindOf y = some .free) := by
      have key : ∀ k, cenv.scope.names.lookup y = some k → k = .local ∨ k = .cell ∨ k = .free → scope.names.lookup y = some .free ∧ (cenv.kindOf y = some .cell ∨ cenv.kindOf y = some .free) := fun k hk hk' => by
        have hk0 := hk
        rw [hsc] at hk
        obtain ⟨k', e, r⟩ := lookup_relS hk
        have no : ¬ (k' = .local ∨ k' = .cell) := fun hh => by
          rcases ok.own _ (PySem.mem_of_lookup e) hh with e' | e'
          · obtain ⟨p, hp, hpy⟩ := List.mem_map.mp e'
            have e3 := ok.ix p hp
            have : p.1 = y := hpy
            rw [this] at e3
            exact hne (List.mem_map.mpr ⟨p, hp, nodup_ix hN e3 e1⟩)
          · exact e' (List.mem_of_getElem? e1)
        rcases r with rfl | ⟨rfl, rfl⟩
        · rcases hk' with rfl | rfl | rfl
          · exact absurd (.inl rfl) no
          · exact absurd (.inr rfl) no
          · exact ⟨e, .inr hk0⟩
        · exact ⟨e, .inl hk0⟩
      have e3 : Vis cenv.scope y := e3
      rcases e3 with e3 | e3 | e3
      · exact key _ e3 (.inl rfl)
      · exact key _ e3 (.inr (.inl rfl))
      · exact key _ e3 (.inr (.inr rfl))
    obtain ⟨m, hn, hl⟩ := I.loc
    have hvis : Vis X.env.scope y := (ok.free _ (PySem.mem_of_lookup hfr.1) rfl).elim (fun k => .inr (.inl k)) (fun k => .inr (.inr k))
    obtain ⟨w, r, q⟩ := hl i y av e1 e2 hvis
    refine ⟨w, r, .inr ⟨hfr.2, ?_⟩⟩
    obtain ⟨c, h1, h2⟩ := look hfr.1
    rcases q with ⟨k, _⟩ | ⟨_, c', e', z⟩
    · have k : X.env.scope.names.lookup y = some .local := k
      rcases ok.free _ (PySem.mem_of_lookup hfr.1) rfl with k' | k' <;> rw [show X.env.scope.names.lookup y = _ from k'] at k <;> cases k
    · rw [h2] at e'; cases e'
      exact ⟨c, h1, z.keeps kp⟩
  · have e : cenv.cells.lookup y = some c := e
    rcases mem e with ⟨h1, _⟩ | ⟨_, z⟩
    · obtain ⟨w, z⟩ := I.cell y c h1
      exact ⟨w, z.keeps kp⟩
    · exact ⟨_, z⟩
  · show H cenv.locals = none
    rw [hL]; exact I.hok.fresh (Nat.le_refl _)
  · have e : cenv.cells.lookup y = some c := e
    rcases mem e with ⟨h1, _⟩ | ⟨h1, _⟩
    · exact I.freeC y c h1
    · exact I.hok.fresh (Nat.le_of_succ_le h1)
  · exact absurd (show p ∈ ([] : List (Addr × Obj)) ++ [] from hp) (by simp)
theorem app_ok {E : Value → Shared → Prop} {D : Addr} {xs : List V} {y : V} {v : Value} {Q : Value → Shared → Prop} (I : Inv X pins σ H s) (hD : H D = some (.lst xs)) (hz : xs.length < sizeLine) (r : RelV y v)
    (h : ∀ s', Inv X pins σ (upd H D (.lst (xs ++ [y]))) s' → Q .none s') : wpAny (model X.prog X.w) X.A (call (.builtin "list.append") [.ref D, v]) Q E s := by
  obtain ⟨hz', its, n, ri, e⟩ := I.hok D _ hD
  have hl := ri.length
  refine append_at (hsz := by rw [List.size_toArray]; omega) e fun h' sb ho' => ?_
  refine h { s with heap := h' } (I.write (t' := s.toks) (by rw [hD]; trivial) (.inl rfl) (fun b u hb q => (sb.2 b hb).trans q) ⟨_, ho'⟩ ⟨by rw [List.length_append]; exact hz, its ++ [v], n + 1, ri.append (.cons r .nil), ?_⟩)
  rw [ho']
  simp
def PTs (X : Cx) (ifs : List Expr) (t : TT) : Prop :=
  ∀ (pins : List (Addr × Obj)) (s : Shared) (σ : St) (H : Hp) (Q : Bool → Hp → Prop), Inv X pins σ H s → t σ H Q →
    wpAny (model X.prog X.w) X.A (forIn ifs true fun c r => if r = true then do let ok ← isTrue c X.env (eval c X.env); pure (ForInStep.yield ok) else pure (ForInStep.yield r)) (TP X pins σ Q) X.xe s
def tYes : TT := fun _ H Q => Q true H
theorem pts_nil : PTs X [] tYes := fun _ _ _ H _ I h => wpAny_tests_nil ⟨H, I, h⟩
theorem pts_one {c : Expr} {t : TT} (h : PT X c t) : PTs X [c] t := fun pins s σ H Q I hw => wpAny_tests_one (h pins s σ H Q I hw)
end
theorem thnF {α : Type} {t : Sem α} {Q Q' : α → Shared → Prop} {M : Model} {A : Around} {E : Value → Shared → Prop} {s : Shared} (h : wpAny M A t Q (fun _ _ => False) s) (hQ : ∀ a s, Q a s → Q' a s) : wpAny M A t Q' E s := wpAny_mono h hQ fun _ _ z => False.elim z
theorem compLoop_any {prog : Program} {w : World} {A : Around} {R : Result → Shared → Prop} {s : Shared} {elt target iter : Expr} {ifs : List Expr} {scope : Scope} {pos : Pos} {it acc : Value} {env : Env} (I : Nat → Shared → Prop)
    (turn : ∀ n s, I n s → wpAny (model prog w) A (pyNext it) (fun r s₁ => match r with
      | none => R (.ok .next) s₁
      | some v => wpAny (model prog w) A (letOwnedTupleGo target it v) (fun _ s₁' => wpAny (model prog w) A (assign target env v) (fun _ s₂ =>
          wpAny (model prog w) A (forIn ifs true fun c r => if r = true then do let ok ← isTrue c env (eval c env); pure (ForInStep.yield ok) else pure (ForInStep.yield r)) (fun ok s₃ =>
            if ok = true then wpAny (model prog w) A (eval elt env) (fun x s₄ =>
              wpAny (model prog w) A (call (.builtin "list.append") [acc, x]) (fun _ s₅ => ∃ m, m < n ∧ I m s₅) (notedBy (model prog w) A env fun e s' => R (.error e) s') s₄) (notedBy (model prog w) A env fun e s' => R (.error e) s') s₃
            else ∃ m, m < n ∧ I m s₃) (notedBy (model prog w) A env fun e s' => R (.error e) s') s₂) (notedBy (model prog w) A env fun e s' => R (.error e) s') s₁') (notedBy (model prog w) A env fun e s' => R (.error e) s') s₁) (notedBy (model prog w) A env fun e s' => R (.error e) s') s)
    (n : Nat) (h : I n s) :
    codeAny (model prog w) A (.compLoop (.ListComp elt [⟨target, iter, ifs, 0⟩] scope pos) 0 it acc env) R s := by
  refine codeAny_loop rfl I (fun n s hI => ?_) n h
  show wpAny _ A ((compTurn (.ListComp elt [⟨target, iter, ifs, 0⟩] scope pos) 0 it acc env).onRaise (fun x => do noteFrame x env; theTreesLotGoes x)) _ _ s
  refine wpAny_noted ?_
  rw [compTurn_list]
  refine wpAny_bind (wpAny_standAt (wpAny_bind (wpAny_mono (turn n s hI) (fun r s₁ h₁ => ?_) fun _ _ h' => h')))
  cases r with
  | none => exact wpAny_pure h₁
  | some v =>
    refine wpAny_bind (wpAny_mono h₁ (fun _ s₁' h₁' => ?_) fun _ _ h' => h')
    refine wpAny_bind (wpAny_mono h₁' (fun _ s₂ h₂ => wpAny_bind (wpAny_mono h₂ (fun ok s₃ h₃ => ?_) fun _ _ h' => h')) fun _ _ h' => h')
    cases ok with
    | false => exact wpAny_pure ⟨rfl, h₃⟩
    | true =>
      exact wpAny_bind (wpAny_bind (wpAny_mono h₃ (fun x s₄ h₄ => wpAny_bind (wpAny_mono h₄ (fun _ s₅ h₅ => wpAny_pure (wpAny_pure ⟨rfl, h₅⟩)) fun _ _ h' => h')) fun _ _ h' => h'))
section
variable {X : Cx}
def tLc (wi : TI) (g : TG) (tt : TT) (te : TE) (vs : List Nat) : TE := fun σ H Q => wi σ H fun J H1 => ∀ D, H1 D = none → ∃ W : Nat → Nat → Hp → Prop, (∃ m, W 0 m (upd H1 D (.lst []))) ∧ ∀ i m H, W i m H →
  (J.stop i H ∧ Q (.ref D) H) ∨ (J.go i H ∧ ∃ Nx : Hp → Prop, (∀ H', Nx H' → ∃ m', m' < m ∧ W (i + 1) m' H') ∧ ∀ x H', J.yld i H x H' → g x (wipe σ vs) H' fun σ2 H2 => wipe σ2 vs = wipe σ vs ∧ tt σ2 H2 fun b H3 =>
    if b = true then te σ2 H3 fun y H4 => ∃ acc, H4 D = some (.lst acc) ∧ acc.length < sizeLine ∧ Nx (upd H4 D (.lst (acc ++ [y]))) else Nx H3)
theorem lc_core {pins : List (Addr × Obj)} {s : Shared} {σ : St} {H : Hp} {Q : VK} {elt tg iter : Expr} {ifs : List Expr} {scope : Scope} {own : List (Str × Nat)} {pos pos' : Pos} {wi : TI} {g : TG} {tt : TT} {te : TE} {use : Option (Value → Sem Unit)} {Qf : Value → Shared → Prop}
    (hc : X.calm = true) (hN : X.N.Nodup) (I : Inv X pins σ H s) (hi : PI X tg iter wi) (ok : BlkOk X.N X.env.scope scope own)
    (hg : ∀ (s : Shared) (H : Hp) (C : Addr) (cl : List (Str × Addr)) (fp : List Addr), PG (X.blk s H scope (compEnvC scope cl C X.env) fp) tg g) (ht : ∀ (s : Shared) (H : Hp) (C : Addr) (cl : List (Str × Addr)) (fp : List Addr), PTs (X.blk s H scope (compEnvC scope cl C X.env) fp) ifs tt)
    (he : ∀ (s : Shared) (H : Hp) (C : Addr) (cl : List (Str × Addr)) (fp : List Addr), PE (X.blk s H scope (compEnvC scope cl C X.env) fp) elt te) (hs : ∀ x, foldedSetIterable iter X.env x = pure x)
    (h : tLc wi g tt te (own.map (·.2)) σ H Q)
    (hRR : ∀ D C s' m H', Inv X pins σ H' s' → Q (.ref D) H' → s'.heap.Ns C m → FpOk X pins H' C → compPost (model X.prog X.w) X.A X.xe use Qf (.ref D) C (.ok .next) s') :
    wpAny (model X.prog X.w) X.A (comprehension (.ListComp elt [⟨tg, iter, ifs, 0⟩] scope pos) scope X.env pos' (newList []) false (eval iter X.env) use) Qf X.xe s := by
  have hfree : ∀ y ∈ scope.names, y.2 = .free → ∃ c, X.env.cells.lookup y.1 = some c := fun y hy e => by
    rcases ok.free y hy e with k | k
    · exact I.ok.has _ (.inl k)
    · exact I.ok.has _ (.inr k)
  refine wpAny_comprehension_free (use := use) rfl hs (closure_ok hfree) ok.kind (fun y hy e => by rw [ok.uniq y hy, e])
    (thn (hi pins s σ H _ I h) fun xv s1 hx => thn hx fun itv s2 h2 => ?_)
  obtain ⟨it, fp, tn, J, H2, e, I2, T, st2, f2, q⟩ := h2
  subst e
  refine wpAny_newObj_type (newEnv_comp ?_) (by show 0 ≤ sizeLine; decide)
  generalize hD : s2.heap.objs.size = D
  have hDn : H2 D = none := I2.hok.fresh (Nat.le_of_eq hD)
  obtain ⟨W, ⟨m0, w0⟩, turn⟩ := q D hDn
  -- the new list
  generalize hs3 : ({ s2 with heap := s2.heap.push { cls := .type "list", data := .seq ([] : List Value).toArray } } : Shared) = s3
  have I3 : Inv X pins σ (upd H2 D (.lst [])) s3 := by
    rw [← hs3]
    refine I2.laid (t' := s2.toks) (fun b o e => Heap.get?_push_of_some _ e) (Nat.le_of_eq hD) ⟨Nat.zero_le _, [], 0, .nil, ?_⟩
    rw [← hD]
    exact Heap.get?_push_size _ rfl
  have h3 : s3.heap = s2.heap.push { cls := .type "list", data := .seq ([] : List Value).toArray } := by rw [← hs3]
  have sz : ∀ b ∈ fp, b < s2.heap.objs.size := fun b hb => by
    obtain ⟨o, e, _⟩ := T.obj _ _ st2 b hb
    exact Heap.lt_size e
  have f3 : ∀ b ∈ fp, FpOk X pins (upd H2 D (.lst [])) b ∧ b < s3.heap.objs.size := fun b hb => by
    have hlt := sz b hb
    refine ⟨⟨?_, (f2 b hb).2⟩, by rw [h3, Heap.size_push]; exact Nat.lt_succ_of_lt hlt⟩
    rw [upd_ne (by rw [← hD]; exact Nat.ne_of_lt hlt)]
    exact (f2 b hb).1
  have st3 : tn 0 s3.heap := T.keep _ _ _ st2 fun b _ o e => by rw [h3]; exact Heap.get?_push_of_some _ e
  have I4 := block_start I3 ok hN f3
  have pg := hg s3 (upd H2 D (.lst [])) s3.heap.objs.size (cellsFrom (s3.heap.objs.size + 1) scope.names (cloFrom X.env.cells scope.names [])) fp
  have pt := ht s3 (upd H2 D (.lst [])) s3.heap.objs.size (cellsFrom (s3.heap.objs.size + 1) scope.names (cloFrom X.env.cells scope.names [])) fp
  have pe := he s3 (upd H2 D (.lst [])) s3.heap.objs.size (cellsFrom (s3.heap.objs.size + 1) scope.names (cloFrom X.env.cells scope.names [])) fp
  show codeAny _ _ (.compStart (.ListComp elt [⟨tg, iter, ifs, 0⟩] scope pos) 0 (.ref it) (.ref D) (compEnvC scope (cellsFrom (s3.heap.objs.size + 1) scope.names (cloFrom X.env.cells scope.names [])) s3.heap.objs.size X.env)) (compPost (model X.prog X.w) X.A X.xe use Qf (.ref D) s3.heap.objs.size) { s3 with heap := pushCells (s3.heap.push { cls := .type "dict", data := .dict #[] }) scope.names }
  have nfp : ∀ b ∈ fp, (upd H2 D (.lst [])) b = none := fun b hb => (f3 b hb).1.1
  generalize hce : compEnvC scope (cellsFrom (s3.heap.objs.size + 1) scope.names (cloFrom X.env.cells scope.names [])) s3.heap.objs.size X.env = ce at I4 pg pt pe ⊢
  have cL : ce.locals = s3.heap.objs.size := by subst hce; rfl
  generalize hH3 : upd H2 D (.lst []) = H3 at I3 I4 pg pt pe w0 nfp f3
  generalize hs4 : ({ s3 with heap := pushCells (s3.heap.push { cls := .type "dict", data := .dict #[] }) scope.names } : Shared) = s4 at I4 ⊢
  have st4 : tn 0 s4.heap := T.keep _ _ _ st3 fun b _ o e => by rw [← hs4]; exact pushCells_keeps _ _ _ _ (Heap.get?_push_of_some _ e)
  have stat : ∀ {σ' : St} {H' : Hp} {s' : Shared}, Inv (X.blk s3 H3 scope ce fp) [] σ' H' s' → (∀ b ∈ fp, H' b = none) → ∀ b ∈ fp, FpOk (X.blk s3 H3 scope ce fp) [] H' b := fun {σ' H' s'} I' hn b hb =>
    ⟨hn b hb, (I'.ok.exf b hb).1, I'.ok.exfs b hb, .inl hb, fun x c e => (I'.ok.exf b hb).2 x c e, fun p hp => absurd (show p ∈ ([] : List (Addr × Obj)) ++ [] from hp) (by simp)⟩
  have loop : codeAny (model X.prog X.w) X.A (.compLoop (.ListComp elt [⟨tg, iter, ifs, 0⟩] scope pos) 0 (.ref it) (.ref D) ce) (compPost (model X.prog X.w) X.A X.xe use Qf (.ref D) s3.heap.objs.size) s4 := by
    refine compLoop_any (fun n s' => ∃ i H', Inv (X.blk s3 H3 scope ce fp) [] (wipe σ (own.map (·.2))) H' s' ∧ tn i s'.heap ∧ (∀ b ∈ fp, H' b = none) ∧ W i n H') ?_ m0 ⟨0, H3, I4, st4, nfp, w0⟩
    rintro n s5 ⟨i, H5, I5, st5, n5, w5⟩
    rcases turn i n H5 w5 with ⟨stop, qq⟩ | ⟨go, Nx, hNx, step⟩
    · have td := T.done (X.blk s3 H3 scope ce fp) rfl rfl rfl hc i [] s5 _ H5 (fun _ _ => False) I5 (stat I5 n5) st5 stop
      refine thnF td fun r s6 ⟨hr, I6⟩ => ?_
      subst hr
      -- back in the def's context
      have I7 : Inv X pins σ H5 s6 := I3.call' (ch := fp) I6.os I6.base I6.hok I6.bare fun b hb => ⟨(f3 b hb).1.2.2.2.1, (f3 b hb).1.2.1, (f3 b hb).1.2.2.2.2.1, (f3 b hb).1.2.2.2.2.2⟩
      have nC : H5 s3.heap.objs.size = none := by
        have z : H5 ce.locals = none := I6.free
        rw [cL] at z
        exact z
      obtain ⟨m, hn, _⟩ := I6.loc
      have hn : s6.heap.Ns ce.locals m := hn
      rw [cL] at hn
      exact hRR D s3.heap.objs.size s6 m H5 I7 qq hn (I3.fpOk (Nat.le_refl _) nC)
    · have ti := T.item (X.blk s3 H3 scope ce fp) rfl rfl rfl hc i [] s5 _ H5 (fun _ _ => False) I5 (stat I5 n5) st5 go
      refine thnF ti fun r s6 ⟨u, hr, h6⟩ => ?_
      subst hr
      refine thnF h6 fun _ s7 ⟨x, H7, I7, r7, y7, st7, n7⟩ => ?_
      have I7' := I7.pinned (stat I7 n7) (T.obj _ _ st7)
      refine thnF (pg _ s7 _ H7 x u _ I7' r7 (step x H7 y7)) fun _ s8 ⟨σ8, H8, I8, hw8, q8⟩ => ?_
      refine thnF (pt _ s8 σ8 H8 _ I8 q8) fun b s9 ⟨H9, I9, q9⟩ => ?_
      -- the turn's end
      have fin : ∀ {s' : Shared} {H' : Hp}, Inv (X.blk s3 H3 scope ce fp) ([] ++ pinsAt fp s7.heap) σ8 H' s' → Nx H' → ∃ m, m < n ∧ ∃ i H', Inv (X.blk s3 H3 scope ce fp) [] (wipe σ (own.map (·.2))) H' s' ∧ tn i s'.heap ∧ (∀ b ∈ fp, H' b = none) ∧ W i m H' := fun {s' H'} I' nx => by
        obtain ⟨m', hm, w'⟩ := hNx H' nx
        have pin' : ∀ b ∈ fp, ∀ o, s7.heap.get? b = some o → s'.heap.get? b = some o ∧ H' b = none := fun b hb o e =>
          let z := I'.pin (b, o) (List.mem_append_right _ (List.mem_append_right _ (mem_pinsAt hb e)))
          ⟨z.1, z.2.1⟩
        have hl : (wipe σ (own.map (·.2))).length = σ8.length := by rw [← hw8, wipe_length]
        refine ⟨m', hm, i + 1, H', (I'.unpinned (pins := [])).weak hl (fun j v e => ?_), T.keep _ _ _ st7 fun b hb o e => (pin' b hb o e).1, fun b hb => ?_, w'⟩
        · rw [← hw8] at e
          exact (wipe_some e).1
        · obtain ⟨o, e, _⟩ := T.obj _ _ st7 b hb
          exact (pin' b hb o e).2
      cases b with
      | false =>
        simp only [Bool.false_eq_true, if_false] at q9 ⊢
        exact fin I9 q9
      | true =>
        simp only [if_true] at q9 ⊢
        refine thnF (pe _ s9 σ8 H9 _ I9 q9) fun z s10 ⟨yv, H10, I10, r10, acc, hD10, hz10, nx⟩ => ?_
        exact app_ok (X := X.blk s3 H3 scope ce fp) I10 hD10 hz10 r10 fun s11 I11 => fin I11 nx
  exact codeAny_compStart_list loop (T.self X.A 0 _ _ _ st4 loop)
theorem pe_lc {elt tg iter : Expr} {ifs : List Expr} {scope : Scope} {own : List (Str × Nat)} {pos : Pos} {wi : TI} {g : TG} {tt : TT} {te : TE} (hc : X.calm = true) (hN : X.N.Nodup) (hi : PI X tg iter wi) (ok : BlkOk X.N X.env.scope scope own)
    (hg : ∀ (s : Shared) (H : Hp) (C : Addr) (cl : List (Str × Addr)) (fp : List Addr), PG (X.blk s H scope (compEnvC scope cl C X.env) fp) tg g) (ht : ∀ (s : Shared) (H : Hp) (C : Addr) (cl : List (Str × Addr)) (fp : List Addr), PTs (X.blk s H scope (compEnvC scope cl C X.env) fp) ifs tt)
    (he : ∀ (s : Shared) (H : Hp) (C : Addr) (cl : List (Str × Addr)) (fp : List Addr), PE (X.blk s H scope (compEnvC scope cl C X.env) fp) elt te) (hs : ∀ x, foldedSetIterable iter X.env x = pure x := by intro _; rfl) :
    PE X (.ListComp elt [⟨tg, iter, ifs, 0⟩] scope pos) (tLc wi g tt te (own.map (·.2))) := by
  intro pins s σ H Q I h
  rw [eval_ListComp]
  refine lc_core hc hN I hi ok hg ht he hs h fun D C s' m H' I' q hn f => ⟨m, hn, fun h'' sb => ?_⟩
  obtain ⟨f0, f1, f2, f3, f4, f5⟩ := f
  exact ⟨.ref D, H', I'.turned (t' := s'.toks) (fun b o hb e => (sb.2 b hb).trans e) f0 f1 f3 f4 f5, rfl, q⟩
theorem ps_setLc {i : Nat} {y : Str} {py : Pos} {elt tg iter : Expr} {ifs : List Expr} {scope : Scope} {own : List (Str × Nat)} {pos spos : Pos} {wi : TI} {g : TG} {tt : TT} {te : TE} (hc : X.calm = true) (hN : X.N.Nodup) (hy : X.N[i]? = some y) (hyl : X.env.scope.names.lookup y = some .local)
    (hsw : swapsWith (.ListComp elt [⟨tg, iter, ifs, 0⟩] scope pos) (some (.Name y py)) spos.line X.env = pure true) (hi : PI X tg iter wi) (ok : BlkOk X.N X.env.scope scope own)
    (hg : ∀ (s : Shared) (H : Hp) (C : Addr) (cl : List (Str × Addr)) (fp : List Addr), PG (X.blk s H scope (compEnvC scope cl C X.env) fp) tg g) (ht : ∀ (s : Shared) (H : Hp) (C : Addr) (cl : List (Str × Addr)) (fp : List Addr), PTs (X.blk s H scope (compEnvC scope cl C X.env) fp) ifs tt)
    (he : ∀ (s : Shared) (H : Hp) (C : Addr) (cl : List (Str × Addr)) (fp : List Addr), PE (X.blk s H scope (compEnvC scope cl C X.env) fp) elt te) (hs : ∀ x, foldedSetIterable iter X.env x = pure x := by intro _; rfl) :
    PS X (.Assign [.Name y py] (.ListComp elt [⟨tg, iter, ifs, 0⟩] scope pos) spos) (tAsg (tLc wi g tt te (own.map (·.2))) (gName i)) := by
  intro pins s σ H D I h
  rw [exec_Assign_Name_used _ _ _ _ hsw]
  refine wpAny_bind (wpAny_standAt (wpAny_bind ?_))
  show wpAny _ X.A (do let _ ← comprehension (.ListComp elt [⟨tg, iter, ifs, 0⟩] scope pos) scope X.env (firstIterPos [⟨tg, iter, ifs, 0⟩] pos) (newList []) false (eval iter X.env) (some (assign (.Name y py) X.env))) _ _ s
  have h : tLc wi g tt te (own.map (·.2)) σ H (fun x H1 => gName i x σ H1 D.nx) := h
  refine wpAny_bind (thn (lc_core (Qf := fun _ s' => SP X pins D .next s') hc hN I hi ok hg ht he hs h fun L C s' m H' I' q hn f => ?_) fun _ s' hq => wpAny_pure (wpAny_pure hq))
  show wpAny _ _ (assign (.Name y py) X.env (.ref L)) _ _ _
  refine wpAny_assign_Name (store_ok2 (v := V.ref L) I' hN hy (.inl hyl) rfl (fun s2 I2 ⟨a, sb, ha⟩ => ?_) (.inr hyl))
  obtain ⟨f0, f1, f2, f3, f4, f5⟩ := f
  have haC : C ≠ a := by
    rcases ha with z | z
    · rw [z]; exact f1
    · exact fun e => f4 y a z e.symm
  refine ⟨m, hn.sameBut sb haC, fun h3 sb3 => ?_⟩
  exact ⟨_, H', I2.turned (t' := s2.toks) (fun b o hb e => (sb3.2 b hb).trans e) f0 f1 f3 f4 f5, q⟩
theorem sw_true {elt : Expr} {gs : List Comprehension} {scope : Scope} {pos py : Pos} {y : Str} {l : Nat} {env : Env} (hk : env.scope.kind = .function) (hy : env.scope.names.lookup y = some .local) (hl : (py.line == pos.line) = true)
    (ha : (scope.names.any fun (n, k) => n == y && (k == .local || k == .cell)) = false) : swapsWith (.ListComp elt gs scope pos) (some (.Name y py)) l env = pure true := by
  have ky : env.kindOf y = some .local := hy
  have hb : env.blockKind = .function := by unfold Env.blockKind; rw [hk]; rfl
  unfold swapsWith
  simp only [hb, ky, ha, Expr.pos, hl]
  rfl
end
theorem lc_range {lo : Int} {n : Nat} {g : TG} {tt : TT} {te : TE} {vs : List Nat} {σ : St} {H1 : Hp} {D : Addr} {Qd : Hp → Prop} (Pv : Nat → Hp → Prop) (h0 : Pv 0 (upd H1 D (.lst [])))
    (hs : ∀ i H, i < n → Pv i H → g (.int (lo + i)) (wipe σ vs) H fun σ2 H2 => wipe σ2 vs = wipe σ vs ∧ tt σ2 H2 fun b H3 =>
      if b = true then te σ2 H3 fun y H4 => ∃ acc, H4 D = some (.lst acc) ∧ acc.length < sizeLine ∧ Pv (i + 1) (upd H4 D (.lst (acc ++ [y]))) else Pv (i + 1) H3) (hd : ∀ H, Pv n H → Qd H) :
    ∃ W : Nat → Nat → Hp → Prop, (∃ m, W 0 m (upd H1 D (.lst []))) ∧ ∀ i m H, W i m H →
      ((Itr lo n).stop i H ∧ Qd H) ∨ ((Itr lo n).go i H ∧ ∃ Nx : Hp → Prop, (∀ H', Nx H' → ∃ m', m' < m ∧ W (i + 1) m' H') ∧ ∀ x H', (Itr lo n).yld i H x H' → g x (wipe σ vs) H' fun σ2 H2 => wipe σ2 vs = wipe σ vs ∧ tt σ2 H2 fun b H3 =>
        if b = true then te σ2 H3 fun y H4 => ∃ acc, H4 D = some (.lst acc) ∧ acc.length < sizeLine ∧ Nx (upd H4 D (.lst (acc ++ [y]))) else Nx H3) := by
  refine ⟨fun i m H => m = n - i ∧ i ≤ n ∧ Pv i H, ⟨n, by simp, Nat.zero_le _, h0⟩, ?_⟩
  rintro i m H ⟨rfl, hi, p⟩
  by_cases hlt : i < n
  · refine .inr ⟨hlt, Pv (i + 1), fun H' p' => ⟨n - (i + 1), by omega, rfl, hlt, p'⟩, fun x H' y => ?_⟩
    obtain ⟨e, y⟩ := y
    subst e y
    exact hs i _ hlt p
  · have e : i = n := by omega
    subst e
    exact .inl ⟨Nat.le_refl _, hd H p⟩
theorem lc_list {K : PySem.W.Frag} {a : Addr} {xs : List V} {g : TG} {tt : TT} {te : TE} {vs : List Nat} {σ : St} {H1 : Hp} {D : Addr} {Qd : Hp → Prop} (Pv : Nat → Hp → Prop) (h0 : Pv 0 (upd H1 D (.lst []))) (hl : ∀ i H, i ≤ xs.length → Pv i H → SqL K H a xs)
    (hs : ∀ i x H, xs[i]? = some x → Pv i H → g x (wipe σ vs) H fun σ2 H2 => wipe σ2 vs = wipe σ vs ∧ tt σ2 H2 fun b H3 =>
      if b = true then te σ2 H3 fun y H4 => ∃ acc, H4 D = some (.lst acc) ∧ acc.length < sizeLine ∧ Pv (i + 1) (upd H4 D (.lst (acc ++ [y]))) else Pv (i + 1) H3) (hd : ∀ H, Pv xs.length H → Qd H) :
    ∃ W : Nat → Nat → Hp → Prop, (∃ m, W 0 m (upd H1 D (.lst []))) ∧ ∀ i m H, W i m H →
      ((Itl K a).stop i H ∧ Qd H) ∨ ((Itl K a).go i H ∧ ∃ Nx : Hp → Prop, (∀ H', Nx H' → ∃ m', m' < m ∧ W (i + 1) m' H') ∧ ∀ x H', (Itl K a).yld i H x H' → g x (wipe σ vs) H' fun σ2 H2 => wipe σ2 vs = wipe σ vs ∧ tt σ2 H2 fun b H3 =>
        if b = true then te σ2 H3 fun y H4 => ∃ acc, H4 D = some (.lst acc) ∧ acc.length < sizeLine ∧ Nx (upd H4 D (.lst (acc ++ [y]))) else Nx H3) := by
  refine ⟨fun i m H => m = xs.length - i ∧ i ≤ xs.length ∧ Pv i H, ⟨xs.length, by simp, Nat.zero_le _, h0⟩, ?_⟩
  rintro i m H ⟨rfl, hi, p⟩
  have q := hl i H hi p
  by_cases hlt : i < xs.length
  · refine .inr ⟨⟨xs, xs[i], q, by simp [hlt]⟩, Pv (i + 1), fun H' p' => ⟨xs.length - (i + 1), by omega, rfl, hlt, p'⟩, fun x H' y => ?_⟩
    obtain ⟨e, y⟩ := y
    subst e
    exact hs i x _ (y xs q) p
  · have e : i = xs.length := by omega
    subst e
    exact .inl ⟨⟨xs, q, Nat.le_refl _⟩, hd H p⟩
theorem lc_tup {K : PySem.W.Frag} {a : Addr} {xs : List V} {g : TG} {tt : TT} {te : TE} {vs : List Nat} {σ : St} {H1 : Hp} {D : Addr} {Qd : Hp → Prop} (Pv : Nat → Hp → Prop) (h0 : Pv 0 (upd H1 D (.lst []))) (hl : ∀ i H, i ≤ xs.length → Pv i H → SqT K H a xs)
    (hs : ∀ i x H, xs[i]? = some x → Pv i H → g x (wipe σ vs) H fun σ2 H2 => wipe σ2 vs = wipe σ vs ∧ tt σ2 H2 fun b H3 =>
      if b = true then te σ2 H3 fun y H4 => ∃ acc, H4 D = some (.lst acc) ∧ acc.length < sizeLine ∧ Pv (i + 1) (upd H4 D (.lst (acc ++ [y]))) else Pv (i + 1) H3) (hd : ∀ H, Pv xs.length H → Qd H) :
    ∃ W : Nat → Nat → Hp → Prop, (∃ m, W 0 m (upd H1 D (.lst []))) ∧ ∀ i m H, W i m H →
      ((Itt K a).stop i H ∧ Qd H) ∨ ((Itt K a).go i H ∧ ∃ Nx : Hp → Prop, (∀ H', Nx H' → ∃ m', m' < m ∧ W (i + 1) m' H') ∧ ∀ x H', (Itt K a).yld i H x H' → g x (wipe σ vs) H' fun σ2 H2 => wipe σ2 vs = wipe σ vs ∧ tt σ2 H2 fun b H3 =>
        if b = true then te σ2 H3 fun y H4 => ∃ acc, H4 D = some (.lst acc) ∧ acc.length < sizeLine ∧ Nx (upd H4 D (.lst (acc ++ [y]))) else Nx H3) := by
  refine ⟨fun i m H => m = xs.length - i ∧ i ≤ xs.length ∧ Pv i H, ⟨xs.length, by simp, Nat.zero_le _, h0⟩, ?_⟩
  rintro i m H ⟨rfl, hi, p⟩
  have q := hl i H hi p
  by_cases hlt : i < xs.length
  · refine .inr ⟨⟨xs, xs[i], q, by simp [hlt]⟩, Pv (i + 1), fun H' p' => ⟨xs.length - (i + 1), by omega, rfl, hlt, p'⟩, fun x H' y => ?_⟩
    obtain ⟨e, y⟩ := y
    subst e
    exact hs i x _ (y xs q) p
  · have e : i = xs.length := by omega
    subst e
    exact .inl ⟨⟨xs, q, Nat.le_refl _⟩, hd H p⟩
def blkC (N : List Str) (sc scope : Scope) (own : List (Str × Nat)) : Bool :=
  (match scope.kind with | .function => true | _ => false) && (scope.names.all fun y => decide (scope.names.lookup y.1 = some y.2)) && (own.all fun p => decide (N[p.2]? = some p.1)) &&
    (scope.names.all fun y => match y.2 with
      | .free => (match sc.names.lookup y.1 with | some .cell => true | some .free => true | _ => false)
      | .local => decide (y.1 ∈ own.map (·.1)) || decide (y.1 ∉ N)
      | .cell => decide (y.1 ∈ own.map (·.1)) || decide (y.1 ∉ N)
      | _ => true)
theorem blkOk_by {N : List Str} {sc scope : Scope} {own : List (Str × Nat)} (h : blkC N sc scope own = true) : BlkOk N sc scope own := by
  unfold blkC at h
  simp only [Bool.and_eq_true, List.all_eq_true, decide_eq_true_eq] at h
  obtain ⟨⟨⟨h1, h2⟩, h3⟩, h4⟩ := h
  refine ⟨?_, h2, h3, fun y hy e => ?_, fun y hy e => ?_⟩
  · split at h1
    · assumption
    · cases h1
  · have q := h4 y hy
    simp only [e] at q
    split at q <;> first | exact .inl (by assumption) | exact .inr (by assumption) | cases q
  · have q := h4 y hy
    rcases e with e | e <;> (simp only [e, Bool.or_eq_true, decide_eq_true_eq] at q; exact q)
end L2
namespace L2
open PySem PySem.Spec PyProof.Rows
section
variable {prog : Program} {w : World} {A : Around} {R : Result → Shared → Prop} {s : Shared} {elt t0 i0 t1 i1 : Expr} {ifs0 ifs1 : List Expr} {scope : Scope} {pos : Pos} {it acc : Value} {env : Env}
end
section
variable {X : Cx}
end
end L2
namespace L2
open PySem PySem.Spec PyProof.Rows
section
variable {κ : Type} [DecidableEq κ]
def valV (kvs : List (κ × V)) (k : κ) : Option V := (kvs.find? fun kv => decide (kv.1 = k)).map (·.2)
def putK (kvs : List (κ × V)) (k : κ) (v : V) : List (κ × V) :=
  if (kvs.any fun kv => decide (kv.1 = k)) = true then kvs.map (fun kv => if kv.1 = k then (kv.1, v) else kv) else kvs ++ [(k, v)]
def dropK (kvs : List (κ × V)) (k : κ) : List (κ × V) := kvs.filter fun kv => decide (kv.1 ≠ k)
theorem valV_pos {p : κ × V} {r : List (κ × V)} {k : κ} (e : p.1 = k) : valV (p :: r) k = some p.2 := by simp [valV, List.find?_cons, e]
theorem valV_neg {p : κ × V} {r : List (κ × V)} {k : κ} (e : ¬ p.1 = k) : valV (p :: r) k = valV r k := by simp [valV, List.find?_cons, e]
theorem valV_any (k : κ) : ∀ kvs : List (κ × V), (kvs.any fun kv => decide (kv.1 = k)) = (valV kvs k).isSome
  | [] => rfl
  | p :: r => by
    rw [List.any_cons]
    by_cases e : p.1 = k
    · simp only [valV_pos e, decide_eq_true e, Bool.true_or, Option.isSome_some]
    · rw [valV_neg e, decide_eq_false e, Bool.false_or]; exact valV_any k r
theorem RelO.isSome_eq {o : Option V} {u : Option Value} (r : RelO o u) : o.isSome = u.isSome := by
  cases o with
  | none => cases u with
    | none => rfl
    | some _ => exact (show False from r).elim
  | some _ => cases u with
    | none => exact (show False from r).elim
    | some _ => rfl
theorem RelO.getD {o : Option V} {u : Option Value} {d : V} {d' : Value} (r : RelO o u) (rd : RelV d d') : RelV (o.getD d) (u.getD d') := by
  cases o with
  | none => cases u with
    | none => exact rd
    | some _ => exact (show False from r).elim
  | some _ => cases u with
    | none => exact (show False from r).elim
    | some _ => exact r
theorem KV.val {kvs : List (κ × V)} {vs : List (κ × Value)} (r : KV kvs vs) (k : κ) : RelO (valV kvs k) (valueAt vs k) := by
  unfold KV at r
  induction r with
  | nil => exact True.intro
  | @cons p q ps qs h t ih =>
    obtain ⟨h1, h2⟩ := h
    by_cases e : p.1 = k
    · have e' : q.1 = k := h1.symm.trans e
      have b : valueAt (q :: qs) k = some q.2 := by simp [valueAt, List.find?_cons, e']
      rw [valV_pos e, b]; exact h2
    · have e' : ¬ q.1 = k := fun z => e (h1.trans z)
      have b : valueAt (q :: qs) k = valueAt qs k := by simp [valueAt, List.find?_cons, e']
      rw [valV_neg e, b]; exact ih
theorem KV.any {kvs : List (κ × V)} {vs : List (κ × Value)} (r : KV kvs vs) (k : κ) : (kvs.any fun kv => decide (kv.1 = k)) = vs.any fun kv => decide (kv.1 = k) := by
  unfold KV at r
  induction r with
  | nil => rfl
  | cons h t ih => rw [List.any_cons, List.any_cons, ih, h.1]
theorem KV.repl {kvs : List (κ × V)} {vs : List (κ × Value)} (r : KV kvs vs) (k : κ) {y : V} {u : Value} (ry : RelV y u) :
    KV (kvs.map fun kv => if kv.1 = k then (kv.1, y) else kv) (vs.map fun kv => if kv.1 = k then (kv.1, u) else kv) := by
  unfold KV at r ⊢
  induction r with
  | nil => exact .nil
  | @cons p q ps qs h t ih =>
    rw [List.map_cons, List.map_cons]
    refine .cons ?_ ih
    obtain ⟨h1, h2⟩ := h
    by_cases e : p.1 = k
    · rw [if_pos e, if_pos (h1.symm.trans e)]; exact ⟨h1, ry⟩
    · rw [if_neg e, if_neg (fun z => e (h1.trans z))]; exact ⟨h1, h2⟩
theorem KV.put {kvs : List (κ × V)} {vs : List (κ × Value)} (r : KV kvs vs) (k : κ) {y : V} {u : Value} (ry : RelV y u) : KV (putK kvs k y) (stored vs k u) := by
  unfold putK stored
  rw [r.any k]
  by_cases e : (vs.any fun kv => decide (kv.1 = k)) = true
  · rw [if_pos e, if_pos e]; exact r.repl k ry
  · rw [if_neg e, if_neg e]; exact Paired.snoc r ⟨rfl, ry⟩
theorem KV.drop {kvs : List (κ × V)} {vs : List (κ × Value)} (r : KV kvs vs) (k : κ) : KV (dropK kvs k) (without vs k) := by
  unfold KV at r ⊢
  unfold dropK without
  induction r with
  | nil => exact .nil
  | @cons p q ps qs h t ih =>
    obtain ⟨h1, h2⟩ := h
    rw [List.filter_cons, List.filter_cons]
    by_cases e : p.1 = k
    · have a : ¬ decide (p.1 ≠ k) = true := by simp [e]
      have b : ¬ decide (q.1 ≠ k) = true := by simp [h1.symm.trans e]
      rw [if_neg a, if_neg b]; exact ih
    · have e' : ¬ q.1 = k := fun z => e (h1.trans z)
      have a : decide (p.1 ≠ k) = true := by simp [e]
      have b : decide (q.1 ≠ k) = true := by simp [e']
      rw [if_pos a, if_pos b]; exact .cons ⟨h1, h2⟩ ih
theorem KV.keys {kvs : List (κ × V)} {vs : List (κ × Value)} (r : KV kvs vs) : kvs.map (·.1) = vs.map (·.1) := by
  unfold KV at r
  induction r with
  | nil => rfl
  | cons h t ih => rw [List.map_cons, List.map_cons, ih, h.1]
theorem KV.length {kvs : List (κ × V)} {vs : List (κ × Value)} (r : KV kvs vs) : kvs.length = vs.length := Paired.length r
end
abbrev KT (H : Hp) : List (List Key × V) → List (List Key × Addr × Value) → Prop := Paired fun p q => p.1 = q.1 ∧ H q.2.1 = some (.tup (p.1.map kV)) ∧ RelV p.2 q.2.2
theorem KT.val {H : Hp} {kvs : List (List Key × V)} {xs : List (List Key × Addr × Value)} (r : KT H kvs xs) (k : List Key) : RelO (valV kvs k) ((atKey xs k).map (·.2)) := by
  induction r with
  | nil => exact True.intro
  | @cons p q ps qs h t ih =>
    obtain ⟨h1, _, h2⟩ := h
    by_cases e : p.1 = k
    · have e' : q.1 = k := h1.symm.trans e
      have b : atKey (q :: qs) k = some q.2 := by simp [atKey, List.find?_cons, e']
      rw [valV_pos e, b]; exact h2
    · have e' : ¬ q.1 = k := fun z => e (h1.trans z)
      have b : atKey (q :: qs) k = atKey qs k := by simp [atKey, List.find?_cons, e']
      rw [valV_neg e, b]; exact ih
theorem KT.repl {H : Hp} {kvs : List (List Key × V)} {xs : List (List Key × Addr × Value)} (r : KT H kvs xs) (k : List Key) {y : V} {u : Value} (ry : RelV y u) :
    KT H (kvs.map fun kv => if kv.1 = k then (kv.1, y) else kv) (xs.map (putAt k u)) := by
  induction r with
  | nil => exact .nil
  | @cons p q ps qs h t ih =>
    rw [List.map_cons, List.map_cons]
    refine .cons ?_ ih
    obtain ⟨h1, h2, h3⟩ := h
    unfold putAt
    by_cases e : p.1 = k
    · rw [if_pos e, if_pos (h1.symm.trans e)]; exact ⟨h1, h2, ry⟩
    · rw [if_neg e, if_neg (fun z => e (h1.trans z))]; exact ⟨h1, h2, h3⟩
theorem KT.put {H : Hp} {kvs : List (List Key × V)} {xs : List (List Key × Addr × Value)} (r : KT H kvs xs) (k : List Key) {b : Addr} {y : V} {u : Value} (hb : H b = some (.tup (k.map kV))) (ry : RelV y u) :
    KT H (putK kvs k y) (storedH xs k b u) := by
  have e : (kvs.any fun kv => decide (kv.1 = k)) = (atKey xs k).isSome := by
    rw [valV_any, (r.val k).isSome_eq, Option.isSome_map]
  unfold putK storedH
  rw [e]
  by_cases q : (atKey xs k).isSome = true
  · rw [if_pos q, if_pos q]; exact r.repl k ry
  · rw [if_neg q, if_neg q]; exact Paired.snoc r ⟨rfl, hb, ry⟩
theorem KT.keeps {H H' : Hp} {kvs : List (List Key × V)} {xs : List (List Key × Addr × Value)} (r : KT H kvs xs) (ht : ∀ b ys, H b = some (.tup ys) → H' b = some (.tup ys)) : KT H' kvs xs :=
  Paired.mapP r fun _ _ z => ⟨z.1, ht _ _ z.2.1, z.2.2⟩
section
variable {P : Program} {w : World} {H : Hp} {h : Heap} {a : Addr}
end
def DGet (H : Hp) (a : Addr) (y : V) (r : Option V) : Prop :=
  (∃ kvs k, Rd H a (.dK kvs) ∧ y = kV k ∧ r = valV kvs k) ∨ ∃ kvs k b, Rd H a (.dT kvs) ∧ y = .ref b ∧ H b = some (.tup (k.map kV)) ∧ r = valV kvs k
def DPut (H : Hp) (a : Addr) (y v : V) (H' : Hp) : Prop :=
  (∃ kvs k, H a = some (.dK kvs) ∧ y = kV k ∧ kvs.length < sizeLine ∧ H' = upd H a (.dK (putK kvs k v))) ∨
  ∃ kvs k b, H a = some (.dT kvs) ∧ y = .ref b ∧ H b = some (.tup (k.map kV)) ∧ kvs.length < sizeLine ∧ H' = upd H a (.dT (putK kvs k v))
theorem DGet.k {H : Hp} {a : Addr} {kvs : List (Key × V)} {k : Key} (e : H a = some (.dK kvs)) : DGet H a (kV k) (valV kvs k) := .inl ⟨kvs, k, .inl e, rfl, rfl⟩
theorem DGet.t {H : Hp} {a b : Addr} {kvs : List (List Key × V)} {k : List Key} (e : H a = some (.dT kvs)) (eb : H b = some (.tup (k.map kV))) : DGet H a (.ref b) (valV kvs k) := .inr ⟨kvs, k, b, .inl e, rfl, eb, rfl⟩
theorem DPut.k {H : Hp} {a : Addr} {kvs : List (Key × V)} {k : Key} {v : V} (e : H a = some (.dK kvs)) (hl : kvs.length < sizeLine) : DPut H a (kV k) v (upd H a (.dK (putK kvs k v))) := .inl ⟨kvs, k, e, rfl, hl, rfl⟩
theorem DPut.t {H : Hp} {a b : Addr} {kvs : List (List Key × V)} {k : List Key} {v : V} (e : H a = some (.dT kvs)) (eb : H b = some (.tup (k.map kV))) (hl : kvs.length < sizeLine) :
    DPut H a (.ref b) v (upd H a (.dT (putK kvs k v))) := .inr ⟨kvs, k, b, e, rfl, eb, hl, rfl⟩
section
variable {X : Cx} {pins : List (Addr × Obj)} {σ : St} {H : Hp} {s : Shared} {a : Addr} {y v : V} {u r : Value} {o : Option V} {A : Around} {E : Value → Shared → Prop}
end
section
variable {X : Cx} {pins : List (Addr × Obj)} {σ : St} {H : Hp} {s : Shared} {a : Addr} {kvs : List (Key × V)} {k : Key} {u : Value} {A : Around} {E : Value → Shared → Prop}
end
def tDGet (td ty : TE) : TE := fun σ H Q => td σ H fun x H1 => ty σ H1 fun y H2 => ∃ a v, x = .ref a ∧ DGet H2 a y (some v) ∧ Q v H2
def sDPut (td ty tv : TE) : TS := fun D σ H => tv σ H fun v H1 => td σ H1 fun x H2 => ty σ H2 fun y H3 => ∃ a H4, x = .ref a ∧ DPut H3 a y v H4 ∧ D.nx σ H4
section
variable {X : Cx} {o i e value : Expr} {pos pos' tpos : Pos} {td ty tv : TE}
end
def tDNewK : TE := fun _ H Q => ∀ p, H p = none → Q (.ref p) (upd H p (.dK []))
def tDNewT : TE := fun _ H Q => ∀ p, H p = none → Q (.ref p) (upd H p (.dT []))
section
variable {X : Cx} {pos : Pos}
end
structure M1 (X : Cx) (o : Expr) (m : Str) (apos : Pos) (e : Expr) (cpos : Pos) : Prop where
  base : attributeBase o m X.env (eval o X.env) = eval o X.env
  few : ((backTo cpos (starEach [e] X.env)).all (fun x => !x.1) && (backToKw cpos (keywordEach [] X.env)).all (fun x => x.1.isSome)
    && decide (([e] : List Expr).length + ([] : List Keyword).length + (if ([] : List Keyword).isEmpty then 0 else 1) < 30)) = true
  line : (apos.endLine == cpos.line) = true
  trees : backTo cpos (starEach [e] X.env) = [(false, eval e X.env)]
structure M2 (X : Cx) (o : Expr) (m : Str) (apos : Pos) (e f : Expr) (cpos : Pos) : Prop where
  base : attributeBase o m X.env (eval o X.env) = eval o X.env
  few : ((backTo cpos (starEach [e, f] X.env)).all (fun x => !x.1) && (backToKw cpos (keywordEach [] X.env)).all (fun x => x.1.isSome)
    && decide (([e, f] : List Expr).length + ([] : List Keyword).length + (if ([] : List Keyword).isEmpty then 0 else 1) < 30)) = true
  line : (apos.endLine == cpos.line) = true
  trees : backTo cpos (starEach [e, f] X.env) = [(false, eval e X.env), (false, eval f X.env)]
section
variable {X : Cx} {pins : List (Addr × Obj)} {σ : St} {H : Hp} {s : Shared} {a : Addr} {y d : V} {u r : Value} {o : Option V} {A : Around} {E : Value → Shared → Prop}
end
section
variable {X : Cx} {o e f : Expr} {apos cpos : Pos} {td ty tx : TE}
end
section
variable {X : Cx} {pins : List (Addr × Obj)} {σ : St} {H : Hp} {s : Shared} {a : Addr} {kvs : List (Key × V)} {A : Around} {E : Value → Shared → Prop}
end
section
variable {X : Cx} {pins : List (Addr × Obj)} {σ : St} {H : Hp} {s : Shared} {a : Addr} {y : V} {u : Value} {A : Around} {E : Value → Shared → Prop}
end
end L2
namespace L2
open PySem PySem.Spec PyProof.Rows
section
variable {prog : Program} {w : World} {A : Around} {E : Value → Shared → Prop}
end
section
variable {X : Cx}
end
end L2
namespace L2
open PySem PySem.Spec PyProof.Rows
section
variable {X : Cx} {pins : List (Addr × Obj)} {σ : St} {H : Hp} {s : Shared} {h' : Heap}
theorem Inv.turnedNew {t' : Nat} {ch : List Addr} {T : Addr} {ob : HO} (I : Inv X pins σ H s) (k : ∀ b o, b ∉ ch → s.heap.get? b = some o → h'.get? b = some o) (hf : ∀ b ∈ ch, FpOk X pins H b) (hT : s.heap.objs.size ≤ T)
    (new : ObjOk X.prog X.w (upd H T ob) h' T ob) : Inv X pins σ (upd H T ob) { s with heap := h', toks := t' } := by
  have hn : H T = none := I.hok.fresh hT
  have nit : ∀ b u, H b = some u → b ∉ ch := fun b u e z => by
    have q := (hf b z).1
    rw [q] at e; cases e
  refine I.step (g' := s.gens) (d' := s.drawn) (ch := ch) (fun b hb => ⟨(hf b hb).2.2.2.1, (hf b hb).2.1, (hf b hb).2.2.2.2.1, (hf b hb).2.2.2.2.2⟩) (fun b o _ _ hc e _ => k b o hc e) (fun b o _ _ hc e _ => ⟨o.slots, k b o hc e⟩)
    (fun b o _ e n => ?_) (fun b o hc e => ⟨o, k b o hc e⟩) (fun b xs e => ?_) (fun b o u e => ?_) (fun b ps e => ⟨#[], ?_⟩) (fun m hm => ?_) (fun b u e => ?_) I.bare
  · rw [upd_ne (Nat.ne_of_lt (Nat.lt_of_lt_of_le (Heap.lt_size e) hT))]; exact n
  · rw [upd_ne (ne_of_none e hn)]; exact e
  · rw [upd_ne (ne_of_none e hn)]; exact e
  · rw [upd_ne (ne_of_none e hn), e]; simp
  · obtain ⟨o, es, ep, ho, r⟩ := hm
    exact ⟨o, es, ep, k _ o (fun z => (hf _ z).2.1 rfl) ho, r⟩
  · by_cases hb : b = T
    · subst hb
      rw [upd_same] at e
      cases e
      exact new
    · rw [upd_ne hb] at e
      refine (I.hok b u e).stay (fun c v hc q => k c v ?_ q) (fun c q => by rw [upd_ne (ne_of_none q hn)]; exact q) fun c xs q => by rw [upd_ne (ne_of_none q hn)]; exact q
      rcases hc with z | z
      · rw [z]; exact nit b u e
      · exact nit c _ z
end
section
variable {X : Cx}
theorem pi_one {tg : Expr} {pins : List (Addr × Obj)} {σ : St} {H : Hp} {s : Shared} {R : It → Hp → Prop} {J : It} {tn : Nat → Heap → Prop} {tk : Nat} (I : Inv X pins σ H s) (o : Obj)
    (T : Turn X.prog X.w X.K tg J [s.heap.objs.size] s.heap.objs.size tn) (st : tn 0 (s.heap.push o)) (q : R J H) : PIE X pins σ tg R (.ref s.heap.objs.size) { s with heap := s.heap.push o, toks := tk } := by
  refine ⟨s.heap.objs.size, [s.heap.objs.size], tn, J, H, rfl, I.kept fun b ob e => Heap.get?_push_of_some _ e, T, st, fun b hb => ?_, q⟩
  have e : b = s.heap.objs.size := by simpa using hb
  subst e
  exact I.fpOk (Nat.le_refl _) (I.hok.fresh (Nat.le_refl _))
end
def Itc (lo c : Int) (n : Nat) : It := ⟨fun i _ => i < n, fun i H x H' => H' = H ∧ x = .int (lo + (i : Nat) * c), fun i _ => n ≤ i⟩
def RgC (i j c : Int) (n : Nat) : Prop := c ≠ 0 ∧ c.natAbs < 1073741824 ∧ Builtin.Range.small i j c = true ∧ Builtin.Range.rangeSize i j c = n
theorem RgC.neg {i j : Int} (ha : -(2 ^ 62) ≤ i) (ha' : i < 2 ^ 62) (hb : -(2 ^ 62) ≤ j) (hb' : j < 2 ^ 62) : RgC i j (-1) (i - j).toNat :=
  ⟨by decide, by decide, PySem.W.small_down ha ha' hb hb', PySem.W.rangeSize_downNat i j⟩
def iRng3 (ta : TA) : TI := fun σ H R => ta σ H fun vs H1 => ∃ (i j c : Int) (n : Nat), vs = [.int i, .int j, .int c] ∧ RgC i j c n ∧ R (Itc i c n) H1
section
variable {X : Cx} {tg : Expr}
end
section
variable {X : Cx} {tg : Expr}
end
def Its (x : Str) : It := ⟨fun i _ => i < x.cps.size, fun i H v H' => H' = H ∧ ∃ c, x.cps[i]? = some c ∧ v = .str ⟨#[c]⟩, fun i _ => x.cps.size ≤ i⟩
theorem turn_str {P : Program} {w : World} {K : PySem.W.Frag} {tg : Expr} (it : Addr) (x : Str) (t : Tok) (ty : String) (hty : ty = "str_ascii_iterator" ∨ ty = "str_iterator") :
    Turn P w K tg (Its x) [it] it (fun i h => h.IsStrIter it ty x t i) where
  mem := by simp
  obj := fun i h st b hb => by
    have e : b = it := by simpa using hb
    subst e
    obtain ⟨o, e, c, d⟩ := st
    exact ⟨o, e, fun v z => by rw [d] at z; cases z⟩
  keep := fun i h h' st k => let ⟨o, ho, r⟩ := st; ⟨o, k it (by simp) o ho, r⟩
  item := by
    intro X hP hw hK hc i pins s σ H E I hf st hg
    subst hP hw hK
    obtain ⟨f0, f1, f2, f3, f4, f5⟩ := hf it (by simp)
    have W : Walks X.prog X.w X.A it [it] [it] x.cps.size (SignAt x) (fun i h => h.IsStrIter it ty x t i) := by
      rcases hty with e | e
      · rw [e]; exact Walks.strAscii (I.ok.hd hc) it x t
      · rw [e]; exact Walks.strWide (I.ok.hd hc) it x t
    have hno : ["enumerate", "zip", "dict_itemiterator", "dict_reverseitemiterator", "odict_iterator", "itertools.zip_longest", "itertools.pairwise"].contains ty = false := by
      rcases hty with e | e
      · rw [e]; decide
      · rw [e]; decide
    refine W.item i s _ _ hg st fun v h' tk hv st' kk => ?_
    obtain ⟨c, u, hcx, rfl⟩ := hv
    have I1 : Inv X pins σ H { s with heap := h', toks := tk } := I.turned (fun b o hb e => kk b o (by simpa using hb) e) f0 f1 f3 f4 f5
    obtain ⟨oi, e, cc, dd⟩ := id st'
    exact ⟨_, rfl, go_of (s := { s with heap := h', toks := tk }) e cc dd hno ⟨.str ⟨#[c]⟩, H, I1, ⟨u, rfl⟩, ⟨rfl, c, hcx, rfl⟩, st', fun b hb => (hf b hb).1⟩⟩
  done := by
    intro X hP hw hK hc i pins s σ H E I hf st hg
    subst hP hw hK
    obtain ⟨f0, f1, f2, f3, f4, f5⟩ := hf it (by simp)
    have hx : x.cps[i]? = none := Array.getElem?_eq_none hg
    rcases hty with e | e
    · rw [e] at st
      exact wpAny_pyNext_ascii_end (I.ok.hd hc) st hx fun h' eb => ⟨rfl, I.turned (t' := s.toks) (fun b o hb e => eb b o hb e) f0 f1 f3 f4 f5⟩
    · rw [e] at st
      exact wpAny_pyNext_wide_end (I.ok.hd hc) st hx fun h' eb => ⟨rfl, I.turned (t' := s.toks) (fun b o hb e => eb b o hb e) f0 f1 f3 f4 f5⟩
  self := fun A i s Q E st h => by
    rcases hty with e | e
    · rw [e] at st; exact wpAny_pyIter_striter_ascii st h
    · rw [e] at st; exact wpAny_pyIter_striter_wide st h
def iStr (te : TE) : TI := fun σ H R => te σ H fun v H1 => ∃ x, v = .str x ∧ R (Its x) H1
theorem pi_str {X : Cx} {tg e : Expr} {te : TE} (he : PE X e te) : PI X tg e (iStr te) := by
  intro pins s σ H R I h
  refine thn (he pins s σ H _ I h) fun v s1 ⟨y, H1, I1, r1, x, ex, q⟩ => ?_
  subst ex
  obtain ⟨t, rfl⟩ := r1
  cases ha : x.cps.all (· < 128)
  · exact wpAny_pyIter_wide ha (pi_one (tk := s1.toks) I1 _ (turn_str _ x t "str_iterator" (.inr rfl)) ⟨_, Heap.get?_push_size _ rfl, rfl, rfl⟩ q)
  · exact wpAny_pyIter_ascii ha (pi_one (tk := s1.toks) I1 _ (turn_str _ x t "str_ascii_iterator" (.inl rfl)) ⟨_, Heap.get?_push_size _ rfl, rfl, rfl⟩ q)
section
variable {prog : Program} {w : World} {A : Around} {E : Value → Shared → Prop} {s : Shared}
end
section
variable {X : Cx} {pins : List (Addr × Obj)} {σ : St} {H : Hp} {s : Shared} {d : Addr} {o : Obj}
end
section
variable {P : Program} {w : World} {K : PySem.W.Frag} {tg : Expr} {d : Addr} {o : Obj} {es : Array DictEntry} {ep : Nat}
end
section
variable {X : Cx} {tg e : Expr} {td : TE} {apos cpos : Pos}
end
def Ite (K : PySem.W.Frag) (a : Addr) : It :=
  ⟨fun i H => ∃ (xs : List V) (x : V), SqL K H a xs ∧ xs[i]? = some x, fun i H v H' => ∃ T x, v = .ref T ∧ H T = none ∧ H' = upd H T (.tup [.int (i : Nat), x]) ∧ ∀ xs, SqL K H a xs → xs[i]? = some x, fun i H => ∃ xs : List V, SqL K H a xs ∧ xs.length ≤ i⟩
theorem turn_enum {P : Program} {w : World} {K : PySem.W.Frag} {elts : List Expr} {kk : Nat} {tpos : Pos} (a e it : Addr) :
    Turn P w K (.Tuple elts kk tpos) (Ite K a) [e, it] e (fun i h => (∃ old, IsEnum h e it ((i : Nat) : Int) old) ∧ h.IsListIter it a i ∧ e ≠ it) where
  mem := by simp
  obj := fun i h st b hb => by
    obtain ⟨⟨old, he⟩, ⟨o, ho, hc, hd⟩, _⟩ := st
    have e' : b = e ∨ b = it := by simpa using hb
    rcases e' with z | z
    · rw [z]; exact ⟨_, he, fun v q => nomatch q⟩
    · rw [z]; exact ⟨o, ho, fun v q => by rw [hd] at q; cases q⟩
  keep := fun i h h' st k => let ⟨⟨old, he⟩, hi, hne⟩ := st; ⟨⟨old, k e (by simp) _ he⟩, hi.at fun o q => k it (by simp) o q, hne⟩
  item := by
    intro X hP hw hK hc i pins s σ H E I hf st hg
    subst hP hw hK
    obtain ⟨⟨old, he⟩, hit, hne⟩ := st
    obtain ⟨xs, x, hq, hx⟩ := hg
    obtain ⟨its, rv, p, hz⟩ := I.list hq
    obtain ⟨u, hu, ru⟩ := rv.get hx
    have hel : e < s.heap.objs.size := Heap.lt_size he
    have hil : it < s.heap.objs.size := by obtain ⟨_, q, _⟩ := hit; exact Heap.lt_size q
    refine wpAny_pyNext_enum_item he hit p.isList (x := u) (by simpa using hu) hne fun h' ho hit' hT hsz hk => ?_
    refine ⟨_, rfl, wpAny_letOwnedTupleGo_enum (s := { s with heap := h', toks := s.toks + 1 }) ho fun h'' he' sb => ?_⟩
    have hT2 : h''.get? s.heap.objs.size = some { cls := .type "tuple", data := .seq #[.int i s.toks, u] } := (sb.2 _ (Nat.ne_of_gt hel)).trans hT
    have new : ObjOk X.prog X.w (upd H s.heap.objs.size (.tup [.int (i : Nat), x])) h'' s.heap.objs.size (.tup [.int (i : Nat), x]) :=
      ⟨by show 2 ≤ sizeLine; decide, [.int i s.toks, u], .cons ⟨_, rfl⟩ (.cons ru .nil), ⟨_, hT2, rfl, _, rfl⟩⟩
    have I1 : Inv X pins σ (upd H s.heap.objs.size (.tup [.int (i : Nat), x])) { s with heap := h'', toks := s.toks + 1 } :=
      I.turnedNew (ch := [e, it]) (fun b ob hb q => (sb.2 b (fun z => hb (by simp [z]))).trans (hk b ob (fun z => hb (by simp [z])) (fun z => hb (by simp [z])) q)) hf (Nat.le_refl _) new
    refine ⟨.ref s.heap.objs.size, _, I1, rfl, ⟨_, x, rfl, I.hok.fresh (Nat.le_refl _), rfl, fun ys hy => by rw [I.list_inj hy hq]; exact hx⟩, ⟨⟨u, ?_⟩, hit'.at fun o q => (sb.2 it (Ne.symm hne)).trans q, hne⟩, fun b hb => ?_⟩
    · have e1 : ((i + 1 : Nat) : Int) = (i : Int) + 1 := by omega
      rw [e1]; exact he'
    · have hb' : b < s.heap.objs.size := by
        have e' : b = e ∨ b = it := by simpa using hb
        rcases e' with z | z
        · rw [z]; exact hel
        · rw [z]; exact hil
      rw [upd_ne (Nat.ne_of_lt hb')]
      exact (hf b hb).1
  done := by
    intro X hP hw hK hc i pins s σ H E I hf st hg
    subst hP hw hK
    obtain ⟨⟨old, he⟩, hit, hne⟩ := st
    obtain ⟨xs, hq, hx⟩ := hg
    obtain ⟨its, rv, p, hz⟩ := I.list hq
    obtain ⟨f0, f1, f2, f3, f4, f5⟩ := hf it (by simp)
    have hl := rv.length
    exact wpAny_pyNext_enum_end (I.ok.hd hc) he hit p.isList (by simp; omega) fun h' eb => ⟨rfl, I.turned (t' := s.toks) (fun b o hb q => eb b o hb q) f0 f1 f3 f4 f5⟩
  self := fun A i s Q E st h => let ⟨⟨_, he⟩, _⟩ := st; wpAny_pyIter_enum he h
def iEnum (K : PySem.W.Frag) (ta : TA) : TI := fun σ H R => ta σ H fun vs H1 => ∃ a xs, vs = [.ref a] ∧ SqL K H1 a xs ∧ R (Ite K a) H1
theorem pi_enum {X : Cx} {e : Expr} {ta : TA} {p pos tpos : Pos} {elts : List Expr} {kk : Nat} (hg : Gl X "enumerate") (hm : X.mg "enumerate" = none) (ha : PA X [e] ta) (hs : starEach [e] X.env = [(false, eval e X.env)] := by rfl) :
    PI X (.Tuple elts kk tpos) (.Call (.Name "enumerate" p) [e] [] pos) (iEnum X.K ta) := by
  intro pins s σ H R I h
  refine Call_ (ld_blt I hg hm boot_enumerate (PyProof.Rows.callWith_type1 (thn (ha pos pins s σ H _ I h) fun us s1 ⟨vs, H1, I1, r1, q1⟩ => ?_) hs rfl))
  obtain ⟨a, xs, ex, hq, q⟩ := q1
  subst ex
  cases r1 with
  | cons r rr =>
    cases rr
    cases r
    obtain ⟨its, rv, p', hz⟩ := I1.list hq
    refine call_enumerate_list p'.isList fun h' he hit hsz hk => wpAny_pyIter_enum he ?_
    have I2 : Inv X pins σ H1 { s1 with heap := h' } := I1.kept (t' := s1.toks) hk
    refine ⟨s1.heap.objs.size + 1, [s1.heap.objs.size + 1, s1.heap.objs.size], _, _, H1, rfl, I2, turn_enum a (s1.heap.objs.size + 1) s1.heap.objs.size, ⟨⟨.none, he⟩, hit, Nat.succ_ne_self _⟩, fun b hb => ?_, q⟩
    have e' : b = s1.heap.objs.size + 1 ∨ b = s1.heap.objs.size := by simpa using hb
    have hle : s1.heap.objs.size ≤ b := by
      rcases e' with z | z
      · rw [z]; exact Nat.le_add_right _ _
      · rw [z]; exact Nat.le_refl _
    exact I1.fpOk hle (I1.hok.fresh hle)
end L2
section 
namespace Bits
open PySem PyProof.Rows
end Bits
end 
section 
namespace TL
open PySem PySem.Builtin PySem.Builtin.Str PySem.StrLaws
abbrev tl (x : Str) : List Nat := x.cps.toList
theorem len_tl (x : Str) : x.length = (tl x).length := by simp [tl, Str.length]
def pre (S l : List Nat) : Bool := l.take S.length == S
def par (S : List Nat) : List Nat → List Nat → Option (List Nat × List Nat)
  | _, [] => none
  | acc, c :: r => if pre S (c :: r) = true then some (acc, (c :: r).drop S.length) else par S (acc ++ [c]) r
theorem pre_of_head {s c : Nat} (S r : List Nat) (h : c ≠ s) : pre (s :: S) (c :: r) = false := by
  cases hp : pre (s :: S) (c :: r) with
  | false => rfl
  | true =>
    have e : (c :: r).take (s :: S).length = s :: S := eq_of_beq hp
    rw [List.length_cons, List.take_succ_cons] at e
    injection e with e1 e2
    exact absurd e1 h
theorem free_of {s : Nat} {S p q : List Nat} (h : s ∉ p) : ∀ i, i < p.length → pre (s :: S) ((p ++ q).drop i) = false := fun i hi => by
  have hlt : i < (p ++ q).length := by rw [List.length_append]; omega
  have e : (p ++ q).drop i = (p ++ q)[i] :: (p ++ q).drop (i + 1) := List.drop_eq_getElem_cons hlt
  rw [e]
  refine pre_of_head _ _ fun z => h ?_
  have e1 : (p ++ q)[i] = p[i] := List.getElem_append_left hi
  rw [← z, e1]
  exact List.getElem_mem hi
theorem join_eq (y : Str) (parts : List Str) : Txt.join y parts = Str.join y parts := glued_eq_join y parts
def numL (n : Nat) : List Nat := (Nat.toDigits 10 n).map Char.toNat
theorem tl_num (n : Nat) : tl (Str.ofString (toString ((n : Nat) : Int))) = numL n := PySem.W.KIN.signs_num n
theorem digitChar_nat : ∀ d : Nat, d < 10 → (Nat.digitChar d).toNat = 48 + d := by decide
theorem numL_lt {n : Nat} (h : n < 10) : numL n = [48 + n] := by
  unfold numL
  rw [Nat.toDigits_of_lt_base h]
  show [(Nat.digitChar n).toNat] = _
  rw [digitChar_nat n h]
theorem numL_step {n : Nat} (h : 10 ≤ n) : numL n = numL (n / 10) ++ [48 + n % 10] := by
  have hm : n % 10 < 10 := Nat.mod_lt n (by decide)
  have t : Nat.toDigits 10 (n / 10) ++ Nat.toDigits 10 (n % 10) = Nat.toDigits 10 (10 * (n / 10) + n % 10) := Nat.toDigits_append_toDigits (by decide) (by omega) hm
  rw [Nat.div_add_mod] at t
  show (Nat.toDigits 10 n).map Char.toNat = _
  rw [← t, List.map_append, Nat.toDigits_of_lt_base hm]
  show (Nat.toDigits 10 (n / 10)).map Char.toNat ++ [(Nat.digitChar (n % 10)).toNat] = _
  rw [digitChar_nat _ hm] <;> rfl
theorem numL_digits (n : Nat) : NumText.AllDigits (numL n) := by
  induction n using Nat.strongRecOn with
  | _ n ih =>
    by_cases h : n < 10
    · rw [numL_lt h]
      intro c hc
      rw [List.mem_singleton.mp hc]
      omega
    · rw [numL_step (by omega)]
      intro c hc
      rcases List.mem_append.mp hc with hc | hc
      · exact ih (n / 10) (by omega) c hc
      · have hm : n % 10 < 10 := Nat.mod_lt n (by decide)
        rw [List.mem_singleton.mp hc]
        omega
theorem numL_ne (n : Nat) : numL n ≠ [] := by
  by_cases h : n < 10
  · rw [numL_lt h]
    simp
  · rw [numL_step (by omega)]
    simp
theorem numL_val (n : Nat) : NumText.digitsVal (numL n) = n := PySem.W.KIN.val_back n
theorem numL_len {n k : Nat} (hk : 0 < k) (h : n < 10 ^ k) : (numL n).length ≤ k := by
  have z := PyProof.Rows.toString_length_le (v := (n : Int)) (by omega) hk (by
    have e : ((10 : Int) ^ k) = ((10 ^ k : Nat) : Int) := by
      first
        | exact (Int.natCast_pow 10 k).symm
        | simp
    rw [e]
    first | exact Int.ofNat_lt.mpr h | omega)
  rw [len_tl, tl_num] at z
  exact z
theorem int_num {n : Nat} (h : (numL n).length ≤ 4300) : intText? (Str.ofString (toString ((n : Nat) : Int))) = some (n : Int) := by
  have e := intText_digits (x := Str.ofString (toString ((n : Nat) : Int))) (by rw [show (Str.ofString (toString ((n : Nat) : Int))).cps.toList = numL n from tl_num n]; exact numL_digits n)
    (by rw [show (Str.ofString (toString ((n : Nat) : Int))).cps.toList = numL n from tl_num n]; exact numL_ne n) (by rw [len_tl, tl_num]; exact h)
  rw [show (Str.ofString (toString ((n : Nat) : Int))).cps.toList = numL n from tl_num n, numL_val] at e
  exact e
end TL
end 
namespace L2
open PySem PySem.Spec PyProof.Rows
theorem vals_strs : ∀ l : List (Str × Tok), Vals ((l.map (·.1)).map V.str) (strValues l)
  | [] => .nil
  | p :: r => .cons ⟨p.2, rfl⟩ (vals_strs r)
theorem strs_of_vals : ∀ {ys : List Str} {us : List Value}, Vals (ys.map V.str) us → StrsAre us ys
  | [], _, .nil => .nil
  | y :: ys, _, .cons r t => by
    obtain ⟨k, rfl⟩ := r
    exact .cons y k (strs_of_vals t)
def rNewStrs (ys : List Str) : Hp → VK → Prop := fun H Q => ∀ p, H p = none → Q (.ref p) (upd H p (.lst (ys.map V.str)))
section
variable {X : Cx} {pins : List (Addr × Obj)} {σ : St} {H : Hp} {s : Shared} {Q : VK}
theorem laid_strs {l : List (Str × Tok)} {ys : List Str} {k : Nat} (I : Inv X pins σ H s) (e : l.map (·.1) = ys) (hz : ys.length ≤ sizeLine) (h : rNewStrs ys H Q) :
    EP X pins σ Q (.ref s.heap.objs.size) { s with toks := k, heap := s.heap.push { cls := .type "list", data := .seq (strValues l).toArray } } := by
  have hp := I.hok.fresh (Nat.le_refl _)
  refine ⟨.ref s.heap.objs.size, upd H s.heap.objs.size (.lst (ys.map V.str)), I.laid (fun b u q => Heap.get?_push_of_some _ q) (Nat.le_refl _) ⟨by rw [List.length_map]; exact hz, strValues l, _, ?_, Heap.get?_push_size _ rfl⟩, rfl, h _ hp⟩
  rw [← e]
  exact vals_strs l
end
section
variable {X : Cx}
theorem mt_split : MtR X "str.split" (fun x xs H Q => ∃ a b, x = .str a ∧ xs = [.str b] ∧ (b.length == 0) = false ∧ a.length + 2 ≤ sizeLine ∧ rNewStrs (Txt.split a b) H Q) := by
  intro pins s σ H x xs v us Q I rx rs h
  obtain ⟨a, b, rfl, rfl, hb, hz, h⟩ := h
  obtain ⟨t, rfl⟩ := rx
  cases rs with
  | cons r1 rs =>
    cases rs
    obtain ⟨u, rfl⟩ := r1
    have hl : (Txt.split a b).length ≤ sizeLine := Nat.le_trans (PyProof.Rows.split_le a b) hz
    have hn : (Builtin.Str.partsBetween a (Builtin.Str.occurrences a b 0 a.length (a.length + 1)) b.length).length ≤ sizeLine := by
      have e1 := StrLaws.occ_length_le a b 0 a.length (a.length + 1)
      rw [length_partsBetween]; omega
    cases h1 : (decide (a.length < b.length) || decide (Builtin.Str.strKind a < Builtin.Str.strKind b))
    · cases hf : (Builtin.Str.occurrences a b 0 a.length (a.length + 1)).isEmpty
      · refine call_meets F.slot_str_split (typeIs_str _ _ _) F.entry_str_split (F.args_str_split_2 _ _) (meets_str_split_sep a b t u h1 hb hf (by omega) hn) ?_
        show EP X pins σ Q (.ref s.heap.objs.size) { s with toks := _, heap := s.heap.push { cls := .type "list", data := .seq (strsFrom s.toks (Builtin.Str.partsBetween a (Builtin.Str.occurrences a b 0 a.length (a.length + 1)) b.length)).toArray } }
        rw [strsFrom_eq]
        exact laid_strs (ys := Txt.split a b) I ((numbered_texts _ _).trans ((if_neg (ne_true_of_eq_false h1)).trans (if_neg (ne_true_of_eq_false hf))).symm) hl h
      · refine call_meets F.slot_str_split (typeIs_str _ _ _) F.entry_str_split (F.args_str_split_2 _ _) (meets_str_split_not_found a b t u h1 hb hf) ?_
        exact laid_strs (l := [(a, t)]) (ys := Txt.split a b) (k := s.toks) I ((if_neg (ne_true_of_eq_false h1)).trans (if_pos hf)).symm hl h
    · refine call_meets F.slot_str_split (typeIs_str _ _ _) F.entry_str_split (F.args_str_split_2 _ _) (meets_str_split_cannot_occur a b t u h1) ?_
      exact laid_strs (l := [(a, t)]) (ys := Txt.split a b) (k := s.toks) I (if_pos h1).symm hl h
theorem mt_join : MtR X "str.join" (fun x xs H Q => ∃ a p, ∃ ys : List Str, x = .str a ∧ xs = [.ref p] ∧ (SqL X.K H p (ys.map V.str) ∨ SqT X.K H p (ys.map V.str)) ∧
    (ys.map (·.length)).sum + ys.length * a.length ≤ 16777216 ∧ Q (.str (Txt.join a ys)) H) := by
  intro pins s σ H x xs v us Q I rx rs h
  obtain ⟨a, p, ys, rfl, rfl, hp, hz, h⟩ := h
  obtain ⟨t, rfl⟩ := rx
  cases rs with
  | cons r1 rs =>
    cases rs
    cases r1
    rcases hp with hp | hp
    · obtain ⟨its, r, ⟨o, n, ho, hc, _, hd⟩, _⟩ := I.list hp
      exact PyProof.Rows.join_list (items := its.toArray) ⟨o, ho, hc, n, hd⟩ (by rw [List.toList_toArray]; exact strs_of_vals r) hz fun t' k => ⟨.str _, H, I.tok k, ⟨t', rfl⟩, h⟩
    · obtain ⟨its, r, ht, _⟩ := I.tuple hp
      exact PyProof.Rows.join_tuple (items := its.toArray) ht (by rw [List.toList_toArray]; exact strs_of_vals r) hz fun t' k => ⟨.str _, H, I.tok k, ⟨t', rfl⟩, h⟩
theorem mt1 {id : String} {g : Str → Str → V} (rule : ∀ (a b : Str) (t u : Tok) (s : Shared) (Q : Value → Shared → Prop), (∀ (v : Value) (k : Nat), RelV (g a b) v → Q v { s with toks := k }) →
    wpAny (model X.prog X.w) X.A (call (.builtin id) [.str a t, .str b u]) Q X.xe s) : MtR X id (fun x xs H Q => ∃ a b, x = .str a ∧ xs = [.str b] ∧ Q (g a b) H) := by
  intro pins s σ H x xs v us Q I rx rs h
  obtain ⟨a, b, rfl, rfl, h⟩ := h
  obtain ⟨t, rfl⟩ := rx
  cases rs with
  | cons r1 rs =>
    cases rs
    obtain ⟨u, rfl⟩ := r1
    exact rule a b t u s _ fun v k r => ⟨g a b, H, I.tok k, r, h⟩
theorem mt_startswith : MtR X "str.startswith" (fun x xs H Q => ∃ a b, x = .str a ∧ xs = [.str b] ∧ Q (.bl (Txt.startswith a b)) H) :=
  mt1 (g := fun a b => .bl (Txt.startswith a b)) fun _ _ _ _ s _ h => PySem.SC.startswith (h _ s.toks rfl)
theorem mt_find : MtR X "str.find" (fun x xs H Q => ∃ a b, x = .str a ∧ xs = [.str b] ∧ Q (.int (Txt.find a b)) H) :=
  mt1 (g := fun a b => .int (Txt.find a b)) fun _ _ _ _ s _ h => PySem.SC.find (h _ (s.toks + 1) ⟨_, rfl⟩)
theorem mt_count : MtR X "str.count" (fun x xs H Q => ∃ a b, x = .str a ∧ xs = [.str b] ∧ Q (.int (Txt.count a b)) H) :=
  mt1 (g := fun a b => .int (Txt.count a b)) fun _ _ _ _ s _ h => PySem.SC.count (h _ (s.toks + 1) ⟨_, rfl⟩)
theorem call_int_str : CallR X (.type "int") (fun xs H Q => ∃ a n, xs = [.str a] ∧ PySem.intText? a = some n ∧ a.length ≤ 640 ∧ Q (.int n) H) := by
  intro pins s σ H xs us Q I rs h
  obtain ⟨a, n, rfl, hn, hl, h⟩ := h
  cases rs with
  | cons r1 rs =>
    cases rs
    obtain ⟨t, rfl⟩ := r1
    exact PySem.W.KIN.call_text hn hl ⟨.int n, H, I.tok _, ⟨_, rfl⟩, h⟩
end
section
variable {X : Cx} {o e : Expr} {to te : TE}
def tM1 (r : V → List V → Hp → VK → Prop) (to te : TE) : TE := fun σ H Q => to σ H fun x H1 => (∃ a, x = .str a) ∧ te σ H1 fun y H2 => r x [y] H2 Q
theorem pe_m1 {id : String} {name : Str} {apos pos : Pos} {r : V → List V → Hp → VK → Prop} (slot : Slot "str" name id) (ty : typeOf (.builtin id) = pure (.type "method_descriptor")) (rule : MtR X id r) (ho : PE X o to) (he : PE X e te)
    (hs : starEach [e] X.env = [(false, eval e X.env)] := by rfl) (hbase : attributeBase o name X.env (eval o X.env) = eval o X.env := by rfl) (hline : (apos.endLine == pos.line) = true := by rfl) :
    PE X (.Call (.Attribute o name apos) [e] [] pos) (tM1 r to te) := by
  intro pins s σ H Q I h
  refine PySem.Call_method1 hbase hs hline (thn (ho pins s σ H _ I h) fun v s1 ⟨x, H1, I1, r1, q1⟩ => ?_)
  obtain ⟨⟨a, rfl⟩, q1⟩ := q1
  obtain ⟨t, rfl⟩ := _root_.id r1
  refine ⟨"str", _, F.plainAttrs_str, slot, ty, typeIs_str _ _ _, (fun _ e => nomatch e), Calls.callWith_builtin rfl (Calls.evalArgs_plain (Calls.spliced_cons ?_))⟩
  exact thn (he pins s1 σ H1 _ I1 q1) fun u s2 ⟨y, H2, I2, r2, q2⟩ => Calls.spliced_nil (rule pins s2 σ H2 _ [y] _ [u] Q I2 r1 (.cons r2 .nil) q2)
theorem pe_split {apos pos : Pos} (ho : PE X o to) (he : PE X e te) (hs : starEach [e] X.env = [(false, eval e X.env)] := by rfl) (hbase : attributeBase o "split" X.env (eval o X.env) = eval o X.env := by rfl) (hline : (apos.endLine == pos.line) = true := by rfl) :
    PE X (.Call (.Attribute o "split" apos) [e] [] pos) (tM1 (fun x xs H Q => ∃ a b, x = .str a ∧ xs = [.str b] ∧ (b.length == 0) = false ∧ a.length + 2 ≤ sizeLine ∧ rNewStrs (Txt.split a b) H Q) to te) :=
  pe_m1 F.slot_str_split F.type_str_split mt_split ho he hs hbase hline
theorem pe_join {apos pos : Pos} (ho : PE X o to) (he : PE X e te) (hs : starEach [e] X.env = [(false, eval e X.env)] := by rfl) (hbase : attributeBase o "join" X.env (eval o X.env) = eval o X.env := by rfl) (hline : (apos.endLine == pos.line) = true := by rfl) :
    PE X (.Call (.Attribute o "join" apos) [e] [] pos) (tM1 (fun x xs H Q => ∃ a p, ∃ ys : List Str, x = .str a ∧ xs = [.ref p] ∧ (SqL X.K H p (ys.map V.str) ∨ SqT X.K H p (ys.map V.str)) ∧
      (ys.map (·.length)).sum + ys.length * a.length ≤ 16777216 ∧ Q (.str (Txt.join a ys)) H) to te) :=
  pe_m1 F.slot_str_join F.type_str_join mt_join ho he hs hbase hline
end
end L2
namespace L2
open PySem PySem.Spec PyProof.Rows
section
variable {X : Cx}
theorem op_notIn_sign : OpR X (compareOp .NotIn) (fun x y H Q => ∃ (c : Nat) (z : Str), x = .str ⟨#[c]⟩ ∧ y = .str z ∧ Q (.bl (!decide (c ∈ z.cps.toList))) H) := by
  intro pins s σ H x y v u Q I rx ry h
  obtain ⟨c, z, rfl, rfl, q⟩ := h
  obtain ⟨t, rfl⟩ := rx
  obtain ⟨t', rfl⟩ := ry
  exact PyProof.Rows.notIn_str (fin_bl I q (congrArg Bool.not (PySem.StrLaws.found_one z c).symm))
end
theorem IsPart.raw {v : Value} {o : Option Int} (p : IsPart v o) : ∃ l : Option (Int × Tok), v = partValue l ∧ l.map (·.1) = o := by
  cases p with
  | none => exact ⟨none, rfl, rfl⟩
  | int i t => exact ⟨some (i, t), rfl, rfl⟩
def clipS (n d : Nat) : Option Int → Int
  | none => (d : Int)
  | some i => max 0 (min (if i < 0 then i + (n : Int) else i) (n : Int))
theorem clipS_eq (n d : Nat) (o : Option Int) : clipS n d o = ((HT.sIx n d o : Nat) : Int) := by
  cases o with
  | none => rfl
  | some v =>
    show max (0 : Int) (min (if v < 0 then v + (n : Int) else v) (n : Int)) = (((if v < 0 then (v + (n : Int)).toNat else min v.toNat n) : Nat) : Int)
    by_cases hv : v < 0
    · simp only [if_pos hv]
      omega
    · simp only [if_neg hv]
      omega
theorem sidx_clip (a b : Option Int) (n : Nat) : Builtin.Str.strSliceIndices a b 1 n = sliceRange (clipS n 0 a) (clipS n n b) 1 := by
  have h1 : ((1 : Int) > 0) = True := by simp
  cases a <;> cases b <;> first
    | rfl
    | (simp only [Builtin.Str.strSliceIndices, clipS, h1, if_true]; rfl)
    | simp [Builtin.Str.strSliceIndices, clipS]
theorem sidx (a b : Option Int) (n : Nat) : Builtin.Str.strSliceIndices a b 1 n = (List.range (HT.sIx n n b - HT.sIx n 0 a)).map (fun k => HT.sIx n 0 a + k) := by
  rw [sidx_clip, clipS_eq, clipS_eq]
  generalize HT.sIx n 0 a = p
  generalize HT.sIx n n b = q
  simp only [sliceRange, show ((1 : Int) > 0) = True from by simp, if_true]
  by_cases hlt : (p : Int) < q
  · have e3 : (((q : Int) - p + 1 - 1) / 1).toNat = q - p := by first | omega | (simp; done) | (simp; omega)
    simp only [hlt, if_true, e3]
    refine List.map_congr_left fun k _ => ?_
    omega
  · have : q - p = 0 := by omega
    simp [hlt, this]
def cutS (z : Str) (lo hi : Option Int) : Str :=
  ⟨((z.cps.toList.drop (HT.sIx z.length 0 lo)).take (HT.sIx z.length z.length hi - HT.sIx z.length 0 lo)).toArray⟩
theorem sliceText_cut (z : Str) (lo hi : Option Int) : PySem.StrLaws.sliceText z lo hi = cutS z lo hi := by
  have h1 : HT.sIx z.length 0 lo ≤ z.length := HT.sIx_le _ _ (Nat.zero_le _) _
  have h2 : HT.sIx z.length z.length hi ≤ z.length := HT.sIx_le _ _ (Nat.le_refl _) _
  have hp : HT.sIx z.length 0 lo ≤ max (HT.sIx z.length 0 lo) (HT.sIx z.length z.length hi) := Nat.le_max_left _ _
  have hq : max (HT.sIx z.length 0 lo) (HT.sIx z.length z.length hi) ≤ z.length := Nat.max_le.mpr ⟨h1, h2⟩
  have hd : max (HT.sIx z.length 0 lo) (HT.sIx z.length z.length hi) - HT.sIx z.length 0 lo = HT.sIx z.length z.length hi - HT.sIx z.length 0 lo := by omega
  have e : Builtin.Str.strSliceIndices lo hi 1 z.length =
      Builtin.Str.strSliceIndices (some ((HT.sIx z.length 0 lo : Nat) : Int)) (some ((max (HT.sIx z.length 0 lo) (HT.sIx z.length z.length hi) : Nat) : Int)) 1 z.length := by
    rw [PySem.StrLaws.strSliceIndices_plain hp hq, hd, sidx]
  have e2 : PySem.StrLaws.sliceText z lo hi =
      PySem.StrLaws.sliceText z (some ((HT.sIx z.length 0 lo : Nat) : Int)) (some ((max (HT.sIx z.length 0 lo) (HT.sIx z.length z.length hi) : Nat) : Int)) := by
    unfold PySem.StrLaws.sliceText
    rw [e]
  rw [e2, PySem.StrLaws.sliceText_nat z hp hq, hd]
  rfl
theorem cutS_length (z : Str) (lo hi : Option Int) : (cutS z lo hi).length ≤ z.length := by
  show (((z.cps.toList.drop (HT.sIx z.length 0 lo)).take (HT.sIx z.length z.length hi - HT.sIx z.length 0 lo)).toArray).size ≤ z.cps.size
  rw [List.size_toArray, List.length_take, List.length_drop, Array.length_toList]
  omega
def rSlS : V → Option Int → Option Int → Hp → VK → Prop := fun x lo hi H Q => ∃ z, x = .str z ∧ z.length ≤ sizeLine ∧ Q (.str (cutS z lo hi)) H
theorem sl_str {X : Cx} : SlR X rSlS := by
  intro pins s σ H x v vl vu lo hi sl Q I rx hs pl pu h
  obtain ⟨z, rfl, hz, q⟩ := h
  obtain ⟨t, rfl⟩ := rx
  obtain ⟨os, hos, hcs, hds⟩ := hs
  obtain ⟨l, rfl, rfl⟩ := IsPart.raw pl
  obtain ⟨u, rfl, rfl⟩ := IsPart.raw pu
  refine ⟨"str", _, F.slot_str_getitem.lookup, typeIs_str _ _ _, ?_⟩
  refine wpAny_getItem_str_slice (l := l) (u := u) (st := none) ⟨os, hos, hcs, hds⟩ rfl ?_
  have hl : (PySem.StrLaws.sliceText z (l.map (·.1)) (u.map (·.1))).length ≤ sizeLine := by
    rw [sliceText_cut]
    exact Nat.le_trans (cutS_length z _ _) hz
  rw [← sliceText_cut] at q
  unfold PySem.StrLaws.sliceText at q hl
  show Made.post (if ((1 : Int) == 1 && (Builtin.Str.strSliceIndices (l.map (·.1)) (u.map (·.1)) 1 z.length).length == z.length) = true then Made.val (.str z t)
    else Made.str ⟨((Builtin.Str.strSliceIndices (l.map (·.1)) (u.map (·.1)) 1 z.length).filterMap (z.cps[·]?)).toArray⟩) (EP X pins σ Q) s
  by_cases c : ((1 : Int) == 1 && (Builtin.Str.strSliceIndices (l.map (·.1)) (u.map (·.1)) 1 z.length).length == z.length) = true
  · rw [if_pos c] at q ⊢
    exact ⟨.str z, H, I, ⟨t, rfl⟩, q⟩
  · rw [if_neg c] at q hl ⊢
    exact ⟨hl, .str _, H, I.tok _, ⟨_, rfl⟩, q⟩
end L2
namespace Att
open PySem PySem.W PySem.Calls PyProof.Rows
theorem ints_of_wellAll {P : Params} {h : Heap} : ∀ (ns : List Int) (vs : List Value), WellAll P h vs (ns.map WData.int) → IntsAre vs ns := by
  intro ns
  induction ns with
  | nil =>
    intro vs w
    rw [List.map_nil] at w
    cases w
    exact .nil
  | cons n ns ih =>
    intro vs w
    rw [List.map_cons] at w
    cases w with
    | cons a b =>
      cases a
      exact .cons _ _ (ih _ b)
theorem script_of {l : OpenLaw} {n : Nat} (hn : l.most = some n) {P : Params} {h : Heap} {args : List WData} {vals : List Value}
    (hpre : l.row.toRowW.claim.pre args = true) (hwl : WellAll P h vals args) :
    ∃ a vs ns, vals = [Value.ref a] ∧ args = [WData.list (ns.map WData.int)] ∧ h.get? a = some { cls := .type "list", data := .seq vs.toArray } ∧ IntsAre vs ns ∧ ns.length ≤ n := by
  have hsh : WShape.hasAll [] args [.list .int] = true := (pre_splitW hpre).1
  have hc : l.pre.holds [] { args := args } = true := (pre_splitW hpre).2
  obtain ⟨d, r, rfl, h1, h2⟩ := hasAllW_cons hsh
  obtain rfl := hasAllW_nil h2
  obtain ⟨xs, rfl, h3⟩ := hasW_list h1
  obtain ⟨ns, rfl⟩ := items_int h3
  have hlen : ns.length ≤ n := by
    unfold OpenLaw.pre at hc
    have h4 : (WTm.not (.lt (.lit (.int (n : Int))) (.len (.arg 0)))).holds [] { args := [.list (ns.map .int)] } = true := by
      have h4 := (holds_andW hc).1
      rw [hn] at h4
      exact h4
    have h5 := condW_of h4 (w_not (w_lt w_lit (w_len_list (w_arg rfl))))
    rw [List.length_map] at h5
    refine Nat.le_of_not_lt fun q => ?_
    have q' : (n : Int) < ((ns.length : Nat) : Int) := by omega
    first
      | (rw [decide_eq_true q'] at h5; exact absurd h5 (by decide))
      | (simp at h5; omega)
  cases hwl with
  | cons w1 w2 =>
    cases w2
    cases w1 with
    | list ho hall => exact ⟨_, _, ns, rfl, rfl, ho, ints_of_wellAll ns _ hall, hlen⟩
theorem post_true (l : OpenLaw) (args : List WData) : l.row.toRowW.claim.post args (.bool true) args = true :=
  postW_of (r := l.row.toRowW) (X := (true == true))
    (show WShape.has [] (.bool true) .bool = true by first | rfl | decide | simp [WShape.has, WShape.arms, WShape.armsAll])
    (show (WTm.eq .res (.lit (.bool true))).value [] { args := args, res := some (.bool true), after := args } = some (.bool (true == true)) from w_eq_bool (w_res rfl) w_lit) rfl
theorem attach_call {l : OpenLaw} {n : Nat} {q : Program} {loose : List Str} {XP : (Str → Option Value) → Heap → Prop} {YP : World → Heap → Prop} {d : DefRec}
    (hn : l.most = some n) (hdf : d.params.defaults = [])
    (call : ∀ (w : World) (s₀ s₁ : Shared) (mg mb : Str → Option Value) (fa : Addr) (o : Obj) (pm cd doc : Value) (a : Addr) (vs : List Value) (ns : List Int),
      Ground q loose [] XP w s₀ mg mb s₁.heap → YP w s₁.heap →
      s₁.heap.get? fa = some o → o.data = .func (docDef d.name d.params d.body d.scope pm cd doc) → s₁.heap.CodeRec cd d.name → mg d.name = some (.ref fa) →
      s₁.heap.get? a = some { cls := .type "list", data := .seq vs.toArray } → IntsAre vs ns → ns.length ≤ n → s₁.gens = #[] →
      codeAny (model l.prog w) callerA (.call (.ref fa) ⟨[.ref a], []⟩) (fun r s' => r = .ok (.ret (.bool true)) ∧ OldK s₁.heap s'.heap ∧ s'.os = s₁.os ∧ AllBare s'.gens) s₁) :
    WalkO q loose XP YP l.row.toRowW d [] (fun f vs => PySem.call f vs) := by
  intro w s₀ s₁ mg mb G Y fa o pm cd doc dV kV ho hd hcd hD hmg hg args vals as hpre hlay hrd hwl hlo
  obtain rfl : dV = .none := Dflts.none hD hdf
  obtain rfl : kV = .none := Dflts.noKw hD
  obtain ⟨a, vs, ns, rfl, rfl, hobj, hints, hlen⟩ := script_of hn hpre hwl
  refine enter_call (codeAny_mono (call w s₀ s₁ mg mb fa o pm cd doc a vs ns G Y ho (fd_plain hd) hcd hmg hobj hints hlen hg) fun r s' hq => ?_)
  obtain ⟨rfl, h2, h3, h4⟩ := hq
  exact ⟨.inl ⟨.bool true, .bool true, [], rfl, fun _ => rfl, .bool true, post_true l _, fun _ => ⟨List.Pairwise.nil, fun _ hm => (nomatch hm)⟩⟩, h2, h3, h4⟩
section
variable {prog : Program} {w : World} {A : Around} {E : Value → Shared → Prop} {s : Shared} {K : Frag}
end
end Att
namespace L2
open PySem PySem.Spec PyProof.Rows
theorem vals_ints : ∀ {vs : List Value} {ns : List Int}, IntsAre vs ns → Vals (ns.map V.int) vs
  | _, _, .nil => .nil
  | _, _, .cons n t h => .cons ⟨t, rfl⟩ (vals_ints h)
end L2
namespace L2
open PySem PySem.Spec PyProof.Rows
end L2
namespace L2
open PySem PySem.Spec PyProof.Rows
def defArgs (s : Stmt) : Arguments := match s with
  | .FunctionDef _ a _ _ _ _ _ _ _ _ => a
  | _ => { posonlyargs := [], args := [], vararg := none, kwonlyargs := [], kw_defaults := [], kwarg := none, defaults := [] }
def defBody (s : Stmt) : List Stmt := match s with
  | .FunctionDef _ _ b _ _ _ _ _ _ _ => b
  | _ => []
def defScope (s : Stmt) : Scope := match s with
  | .FunctionDef _ _ _ _ _ _ sc _ _ _ => sc
  | _ => { kind := .function, names := [], isGenerator := false, isCoroutine := false }
abbrev CX0 : CXT := fun _ _ _ _ _ _ => False
abbrev E0 : XK := fun _ _ _ => False
theorem pass0 {X : Cx} : Passes CX0 X E0 := fun _ _ _ _ _ _ _ h => h.elim
structure Fun (K : PySem.W.Frag) (x qual : Str) (st : Stmt) (f : Addr) (fd : FuncData) : Prop where
  ex : ∃ (oc : Value) (od : Option Addr) (kV doc pm : Value) (an : Option Addr) (cdv ct : Value) (osl : Array (Option Value)),
    fd = PySem.W.fnOf x qual (defArgs st) (defBody st) (defScope st) .none kV doc pm an cdv ct ∧ K.lookup f = some ⟨oc, od, .func fd, osl⟩ ∧ PySem.W.codeIn K cdv qual = true
  kp : PySem.W.keepIn K (.ref f) = true
section
variable {P : Program} {w : World} {K : PySem.W.Frag} {mg : Str → Option Value} {base : Heap}
theorem Fun.ok {x qual : Str} {st : Stmt} {f : Addr} {fd : FuncData} {N ps : List Str} {k : Nat} {sp : Sp} (F : Fun K x qual st f fd) (S : FnScope N ps (defScope st)) (len : ∀ vs H Q E, sp vs H Q E → vs.length = ps.length)
    (hbody : ∀ (cdv : Value) (A : Around) (outer : List Env) (s : Shared) (H : Hp) (vs : List V) (Q : VK) (E : XK), Room k (A.deeper (envOfC qual (defScope st) s.heap.objs.size f cdv)) → sp vs H Q E →
      ∃ t, PSs (cxOf CX0 P w K mg base N qual (defScope st) f cdv A outer s H E).nox (defBody st) t ∧ t { nx := fun _ H' => Q .non H', rt := Q } (start N vs) H) : FnOk P w K mg base CX0 (k + 1) f fd ps sp := by
  obtain ⟨oc, od, kV, doc, pm, an, cdv, ct, osl, rfl, lk, hcd⟩ := F.ex
  refine fn_of lk hcd S len fun A outer s H vs Q E hr hsp => ?_
  obtain ⟨t, h, q⟩ := hbody cdv A outer s H vs Q E hr hsp
  exact ⟨t, h.nox, q⟩
theorem Fun.binds {x qual : Str} {st : Stmt} {f : Addr} {fd : FuncData} {ps : List Str} (F : Fun K x qual st f fd)
    (h : ∀ (kV doc pm : Value) (an : Option Addr) (cdv ct : Value) (us : List Value), us.length = ps.length → bindArgs (PySem.W.fnOf x qual (defArgs st) (defBody st) (defScope st) .none kV doc pm an cdv ct) ⟨us, []⟩ = pure (ps.zip us)) : Binds K fd ps [] := by
  obtain ⟨oc, od, kV, doc, pm, an, cdv, ct, osl, rfl, lk, hcd⟩ := F.ex
  exact .all (h kV doc pm an cdv ct)
theorem fun_mk {x qual : Str} {st : Stmt} {f : Addr} {oc : Value} {od an : Option Addr} {osl : Array (Option Value)} {kV doc pm cdv ct : Value} (l : K.lookup f = some ⟨oc, od, .func (PySem.W.fnOf x qual (defArgs st) (defBody st) (defScope st) .none kV doc pm an cdv ct), osl⟩)
    (c : PySem.W.codeIn K cdv qual = true) (k : PySem.W.keepIn K (.ref f) = true) : Fun K x qual st f (PySem.W.fnOf x qual (defArgs st) (defBody st) (defScope st) .none kV doc pm an cdv ct) := ⟨⟨oc, od, kV, doc, pm, an, cdv, ct, osl, rfl, l, c⟩, k⟩
end
theorem small1000 {n : Nat} (h : n ≤ 1000) : n < sizeLine := Nat.lt_of_le_of_lt h (by decide)
section
variable {X : Cx}
theorem pv (i : Nat) {x : Str} {pos : Pos} (hN : X.N[i]? = some x := by rfl) (hv : Vis X.env.scope x := by first | exact Or.inl rfl | exact Or.inr (Or.inl rfl) | exact Or.inr (Or.inr rfl)) (hd : (x == ("__debug__" : Str)) = false := by decide)
    (hcd : (x == ("__classdict__" : Str)) = false := by decide) : PE X (.Name x pos) (tVar i) := pe_var hN hv hd hcd
end
theorem ite2 {c A B : Prop} [Decidable c] (h1 : c → A) (h2 : ¬ c → B) : if c then A else B := by
  by_cases h : c
  · rw [if_pos h]
    exact h1 h
  · rw [if_neg h]
    exact h2 h
def Same (H H' : Hp) : Prop := ∀ b o, H b = some o → H' b = some o
theorem Same.refl (H : Hp) : Same H H := fun _ _ h => h
theorem Same.trans {H H1 H2 : Hp} (a : Same H H1) (b : Same H1 H2) : Same H H2 := fun c o h => b c o (a c o h)
theorem Same.free {H H' : Hp} (e : Same H H') {l : Addr} (h : H' l = Option.none) : H l = Option.none := by
  cases q : H l with
  | none => rfl
  | some o =>
    rw [e l o q] at h
    cases h
theorem Same.seq {K : PySem.W.Frag} {H H' : Hp} {a : Addr} {xs : List V} (e : Same H H') (h : SqL K H a xs) : SqL K H' a xs := by
  rcases h with (h | ⟨o, h⟩) | h
  · exact .inl (.inl (e _ _ h))
  · exact .inl (.inr ⟨o, e _ _ h⟩)
  · exact .inr h
section
variable {κ : Type} [DecidableEq κ]
end
theorem Same.made {H H1 : Hp} {x dx C : Addr} (nx : H x = Option.none) (nd : H dx = Option.none) (k : ∀ b o, (upd (upd H dx (.own x)) x (.ins C dx [])) b = some o → b ≠ x → H1 b = some o) : Same H H1 := fun b o e =>
  k b o (by rw [upd_ne (ne_of_none e nx), upd_ne (ne_of_none e nd)]; exact e) (ne_of_none e nx)
end L2
set_option Elab.async false
set_option linter.all false
set_option maxRecDepth 100000
namespace L3
open PySem PySem.Spec PyProof.Rows L2
section
variable {X : Cx}
theorem vals2' {x y : V} {us : List Value} (r : Vals [x, y] us) : ∃ u v, us = [u, v] ∧ RelV x u ∧ RelV y v := by
  cases r with
  | cons r1 rr => cases rr with
    | cons r2 r3 => cases r3; exact ⟨_, _, rfl, r1, r2⟩
def rIsi (K : PySem.W.Frag) : List V → Hp → VK → Prop := fun xs H Q => ∃ x n t b, xs = [x, .ty n] ∧ TyOf K H x t ∧ PySem.W.kitOne K t (.type n) = some b ∧ Q (.bl b) H
theorem call_isi : CallR X (.builtin "isinstance") (rIsi X.K) := by
  intro pins s σ H xs us Q I r h
  obtain ⟨x, n, t, b, rfl, ty, e, q⟩ := h
  obtain ⟨u, v, rfl, ru, rv⟩ := vals2' r
  cases rv
  exact isinst_ok I ru ty e fun tk => ⟨.bl b, H, I.tok _, rfl, q⟩
def rNeNil (K : PySem.W.Frag) : R2 := fun x y H Q => ∃ a b xs, x = .ref a ∧ y = .ref b ∧ SqL K H a xs ∧ SqL K H b [] ∧ Q (.bl (!xs.isEmpty)) H
theorem op_neNil (hu : X.A.units + 64 < cLine) : OpR X (compareOp .NotEq) (rNeNil X.K) := by
  intro pins s σ H x y v u Q I rx ry h
  obtain ⟨a, b, xs, rfl, rfl, ha, hb, q⟩ := h
  cases rx
  cases ry
  obtain ⟨its, r1, p1, _⟩ := I.list ha
  obtain ⟨its2, r2, p2, _⟩ := I.list hb
  cases r2
  have hu' : X.A.units < cLine := by omega
  cases r1 with
  | nil =>
    have z := SeqAt.RcNeAt.lists (A := X.A) (s := s) (e := fun _ => true) p1.isList p2.isList rfl hu' (fun j h1 _ => absurd h1 (by simp))
    exact z X.prog X.w _ _ ⟨.bl _, H, I, rfl, q⟩
  | cons r rr =>
    have z := SeqAt.RcNeAt.lists_lengths (A := X.A) (s := s) p1.isList p2.isList (by simp) hu'
    exact z X.prog X.w _ _ ⟨.bl _, H, I, rfl, q⟩
def rEqNil (K : PySem.W.Frag) : R2 := fun x y H Q => ∃ a b xs, x = .ref a ∧ y = .ref b ∧ SqL K H a xs ∧ SqL K H b [] ∧ Q (.bl xs.isEmpty) H
theorem op_eqNil (hu : X.A.units + 64 < cLine) : OpR X (compareOp .Eq) (rEqNil X.K) := by
  intro pins s σ H x y v u Q I rx ry h
  obtain ⟨a, b, xs, rfl, rfl, ha, hb, q⟩ := h
  cases rx
  cases ry
  obtain ⟨its, r1, p1, _⟩ := I.list ha
  obtain ⟨its2, r2, p2, _⟩ := I.list hb
  cases r2
  have hu' : X.A.units < cLine := by omega
  cases r1 with
  | nil =>
    have z := SeqAt.RcAt.lists (A := X.A) (s := s) (e := fun _ => true) p1.isList p2.isList rfl hu' (fun j h1 _ => absurd h1 (by simp))
    exact z X.prog X.w _ _ ⟨.bl _, H, I, rfl, q⟩
  | cons r rr =>
    have z := SeqAt.RcAt.lists_lengths (A := X.A) (s := s) p1.isList p2.isList (by simp) hu'
    exact z X.prog X.w _ _ ⟨.bl _, H, I, rfl, q⟩
theorem noPylong60 {x y : Int} (h : y.natAbs < 2 ^ 60) : Builtin.divisionGoesByPylong x y = false := by
  refine PyProof.noPylong_of_log2 ?_
  by_cases h0 : y.natAbs = 0
  · rw [h0]; decide +kernel
  · have h30 : y.natAbs.log2 < 60 := (Nat.log2_lt h0).mpr h
    omega
def CDivB (_i j : Int) : Prop := 0 < j ∧ j < 2 ^ 60
theorem op_fdivB : OpR X (binaryOp .FloorDiv) (rI CDivB fun i j => .int (i / j)) := opI fun i j _ _ _ _ _ hc q => by
  have h1 : (0 : Int) < j := hc.1
  have h2 : j < 2 ^ 60 := hc.2
  exact floordiv_int (by omega) (by rw [Int.fdiv_eq_ediv_of_nonneg i (by omega)]; exact q) (.inl (noPylong60 (by omega)))
theorem vals_rev {xs : List V} {us : List Value} (r : Vals xs us) : Vals xs.reverse us.reverse := by
  induction r with
  | nil => exact .nil
  | cons r _ ih => rw [List.reverse_cons, List.reverse_cons]; exact ih.append (.cons r .nil)
def RvR (X : Cx) (r : V → Hp → VK → Prop) : Prop :=
  ∀ (pins : List (Addr × Obj)) (s : Shared) (σ : L2.St) (H : Hp) (x : V) (v vk : Value) (sl : Addr) (Q : VK), Inv X pins σ H s → RelV x v → s.heap.IsSliceOf sl .none .none vk → IsPart vk (some (-1)) → r x H Q →
    ∃ T id, typeLookup (.type T) "__getitem__" = pure (some (.builtin id)) ∧ s.TypeIs v T ∧ wpAny (model X.prog X.w) X.A (getItem v (.ref sl)) (EP X pins σ Q) X.xe s
def tRv (r : V → Hp → VK → Prop) (te tk : TE) : TE := fun σ H Q => te σ H fun x H1 => tk σ H1 fun k H2 => k = .int (-1) ∧ r x H2 Q
theorem pe_rev {r : V → Hp → VK → Prop} {e stp : Expr} {te tk : TE} {p3 pos : Pos} (hr : RvR X r) (he : PE X e te) (hk : PE X stp tk) : PE X (.Subscript e (.Slice none none (some stp) p3) pos) (tRv r te tk) := by
  intro pins s σ H Q I h
  refine Subscript_ (thn (he pins s σ H _ I h) fun v s1 ⟨x, H1, I1, r1, q1⟩ => ?_)
  refine wpAny_Slice ?_
  rw [evalPart_none]
  refine wpAny_pure ?_
  refine wpAny_pure ?_
  rw [evalPart_some]
  refine thn (hk pins s1 σ H1 _ I1 q1) fun vk s2 ⟨y, H2, I2, r2, ey, q2⟩ => ?_
  subst ey
  obtain ⟨t, rfl⟩ := r2
  have I4 : Inv X pins σ H2 { s2 with heap := s2.heap.push { cls := .type "slice", data := .fields #[.none, .none, .int (-1) t] } } := I2.kept (t' := s2.toks) fun b ob q => Heap.get?_push_of_some _ q
  obtain ⟨T, id, hT, ht, hg⟩ := hr pins { s2 with heap := s2.heap.push { cls := .type "slice", data := .fields #[.none, .none, .int (-1) t] } } σ H2 x v (.int (-1) t) s2.heap.objs.size Q I4 r1 (Heap.IsSliceOf.new ..) (.int _ _) q2
  show wpAny (model X.prog X.w) X.A (subscriptTail e (.Slice none none (some stp) p3) v (.ref s2.heap.objs.size)) (EP X pins σ Q) X.xe { s2 with heap := s2.heap.push { cls := .type "slice", data := .fields #[.none, .none, .int (-1) t] } }
  exact tail_any (ops := [v, .ref s2.heap.objs.size]) ht hT hg (by with_unfolding_all rfl)
def rRvL (K : PySem.W.Frag) : V → Hp → VK → Prop := fun x H Q => ∃ a xs, x = .ref a ∧ SqL K H a xs ∧ ∀ p, H p = none → Q (.ref p) (upd H p (.lst xs.reverse))
theorem rv_list : RvR X (rRvL X.K) := by
  intro pins s σ H x v vk sl Q I rx hs pk h
  obtain ⟨a, xs, rfl, hx, q⟩ := h
  cases rx
  obtain ⟨its, r, ht, hz⟩ := I.list hx
  have hlen := r.length
  refine ⟨"list", _, slot_list_getitem.lookup, ht.isList.typeIs, ?_⟩
  refine wpAny_getItem_list_slice ht.isList hs .none .none pk (by decide) ?_ (by rw [List.size_toArray] <;> omega)
  rw [PySem.W.krv_pick]
  refine ⟨.ref s.heap.objs.size, _, I.laid (t' := s.toks) (o := .lst xs.reverse) (fun b ob q => Heap.get?_push_of_some _ q) (Nat.le_refl _) ?_, rfl, q _ (I.hok.fresh (Nat.le_refl _))⟩
  exact ⟨by rw [List.length_reverse]; exact hz, _, 0, vals_rev r, Heap.get?_push_size _ rfl⟩
end
end L3
set_option Elab.async false
set_option linter.all false
set_option maxRecDepth 100000
namespace L3
open PySem PySem.Spec PyProof.Rows L2
section
variable {t u : TS} {D : Ends} {σ : L2.St} {H : Hp} {Q : VK} {QB : Bool → Hp → Prop} {QA : List V → Hp → Prop} {QS : L2.St → Hp → Prop} {te ta tb : TE} {tA tB' tt : TT} {g : TG} {gs : TGs} {i : Nat} {v x : V} {xs : List V} {K : PySem.W.Frag} {r2 : R2} {tr : TA}
theorem rd_seq : tSeq t u D σ H = t { D with nx := u D } σ H := rfl
theorem rd_next : tNext D σ H = D.nx σ H := rfl
theorem rd_drop : tDrop te D σ H = te σ H fun _ H1 => D.nx σ H1 := rfl
theorem rd_ret : tRet te D σ H = te σ H D.rt := rfl
theorem rd_retN : tRetN D σ H = D.rt .non H := rfl
theorem rd_ifS : tIfS tt t u D σ H = tt σ H fun b H1 => if b = true then t D σ H1 else u D σ H1 := rfl
theorem rd_never : tNever D σ H = False := rfl
theorem rd_asg : tAsg te g D σ H = te σ H fun x H1 => g x σ H1 D.nx := rfl
theorem rd_gName : gName i v σ H QS = QS (σ.set i (some v)) H := rfl
theorem rd_gNil : gNil xs σ H QS = (xs = [] ∧ QS σ H) := rfl
theorem rd_gCons : gCons g gs xs σ H QS = ∃ v r, xs = v :: r ∧ g v σ H fun σ' H' => gs r σ' H' QS := rfl
theorem rd_gTup {n : Nat} : gTup K n gs v σ H QS = ∃ a xs, v = .ref a ∧ SqT K H a xs ∧ xs.length = n ∧ gs xs σ H QS := rfl
theorem rd_gSub {ts : TSet} : gSub ta tb ts v σ H QS = ta σ H fun o H1 => tb σ H1 fun i H2 => ts o i v H2 fun H3 => QS σ H3 := rfl
theorem rd_aug {ti : TIp} : tAug i te ti D σ H = ∃ x, σ[i]? = some (some x) ∧ te σ H fun y H1 => ti x y H1 fun z H2 => D.nx (σ.set i (some z)) H2 := rfl
theorem rd_var : tVar i σ H Q = ∃ v, σ[i]? = some (some v) ∧ Q v H := rfl
theorem rd_C : tC v σ H Q = Q v H := rfl
theorem rd_op : tOp r2 ta tb σ H Q = ta σ H fun x H1 => tb σ H1 fun y H2 => r2 x y H2 Q := rfl
theorem rd_un {r : V → Hp → VK → Prop} : tUn r ta σ H Q = ta σ H fun x H1 => r x H1 Q := rfl
theorem rd_nil : tNil σ H QA = QA [] H := rfl
theorem rd_cons : tCons ta tr σ H QA = ta σ H fun x H1 => tr σ H1 fun xs H2 => QA (x :: xs) H2 := rfl
theorem rd_tup : tTup tr σ H Q = tr σ H fun xs H1 => xs.length ≤ sizeLine ∧ ∀ p, H1 p = none → Q (.ref p) (upd H1 p (.tup xs)) := rfl
theorem rd_lst : tLst tr σ H Q = tr σ H fun xs H1 => xs.length ≤ sizeLine ∧ ∀ p, H1 p = none → Q (.ref p) (upd H1 p (.lst xs)) := rfl
theorem rd_call {sp : Sp} {dvs : List V} {E : XK} : tCall sp dvs E tr σ H Q = tr σ H fun vs H1 => sp (vs ++ dvs) H1 Q E := rfl
theorem rd_cb {r : List V → Hp → VK → Prop} : tCB r tr σ H Q = tr σ H fun vs H1 => r vs H1 Q := rfl
theorem rd_test : tTest te σ H QB = te σ H fun x H' => ∃ k, x = .bl k ∧ QB k H' := rfl
theorem rd_B : tB te σ H QB = te σ H fun x H1 => ∃ c, x = .bl c ∧ QB c H1 := rfl
theorem rd_and : tAnd tA tB' σ H QB = tA σ H fun c H1 => if c = true then tB' σ H1 QB else QB false H1 := rfl
theorem rd_or : tOr tA tB' σ H QB = tA σ H fun c H1 => if c = true then QB true H1 else tB' σ H1 QB := rfl
theorem rd_not : tNot tA σ H QB = tA σ H fun c H1 => QB (!c) H1 := rfl
theorem rd_andV : tAndV ta tb σ H Q = ta σ H fun x H1 => ∃ c, x = .bl c ∧ if c = true then tb σ H1 Q else Q (.bl false) H1 := rfl
theorem rd_orV : tOrV ta tb σ H Q = ta σ H fun x H1 => ∃ c, x = .bl c ∧ if c = true then Q (.bl true) H1 else tb σ H1 Q := rfl
theorem rd_notV : tNotV ta σ H Q = ta σ H fun x H1 => ∃ c, x = .bl c ∧ Q (.bl (!c)) H1 := rfl
theorem rd_ifE : tIf tt ta tb σ H Q = tt σ H fun c H1 => if c = true then ta σ H1 Q else tb σ H1 Q := rfl
theorem rd_bm0 {T : String} {r : V → List V → Hp → VK → Prop} : tBM0 K T r te σ H Q = te σ H fun x H1 => tyV K T x H1 ∧ r x [] H1 Q := rfl
theorem rd_bm {T : String} {r : V → List V → Hp → VK → Prop} : tBM K T r te tr σ H Q = te σ H fun x H1 => tyV K T x H1 ∧ tr σ H1 fun xs H2 => r x xs H2 Q := rfl
theorem rd_rv {r : V → Hp → VK → Prop} : tRv r ta tb σ H Q = ta σ H fun x H1 => tb σ H1 fun k H2 => k = .int (-1) ∧ r x H2 Q := rfl
theorem rd_sl {r : V → Option Int → Option Int → Hp → VK → Prop} {tl th : TO} : tSl r te tl th σ H Q = te σ H fun x H1 => tl σ H1 fun l H2 => th σ H2 fun u H3 => r x l u H3 Q := rfl
theorem rd_nopart {QO : Option Int → Hp → Prop} : tNoPart σ H QO = QO none H := rfl
theorem rd_part {QO : Option Int → Hp → Prop} : tPart te σ H QO = te σ H fun x H1 => ∃ i, x = .int i ∧ QO (some i) H1 := rfl
theorem rd_rI {C : Int → Int → Prop} {f : Int → Int → V} {a b : Int} : rI C f (.int a) (.int b) H Q = (C a b ∧ Q (f a b) H) := by
  apply propext; constructor
  · rintro ⟨i, j, e1, e2, q⟩; cases e1; cases e2; exact q
  · intro q; exact ⟨a, b, rfl, rfl, q⟩
theorem rd_rI0 {f : Int → Int → V} {a b : Int} : rI0 f (.int a) (.int b) H Q = Q (f a b) H := by
  apply propext; constructor
  · rintro ⟨i, j, e1, e2, q⟩; cases e1; cases e2; exact q
  · intro q; exact ⟨a, b, rfl, rfl, q⟩
theorem rd_rU {f : Int → V} {a : Int} : rU f (.int a) H Q = Q (f a) H := by
  apply propext; constructor
  · rintro ⟨i, e1, q⟩; cases e1; exact q
  · intro q; exact ⟨a, rfl, q⟩
theorem rd_ipI {f : Int → Int → Int} {a b : Int} : ipI f (.int a) (.int b) H Q = Q (.int (f a b)) H := by
  apply propext; constructor
  · rintro ⟨i, j, e1, e2, q⟩; cases e1; cases e2; exact q
  · intro q; exact ⟨a, b, rfl, rfl, q⟩
theorem rd_eqI {a b : Int} : rEq (.int a) (.int b) H Q = Q (.bl (decide (a = b))) H := by
  apply propext; constructor
  · rintro ⟨_, q⟩; simpa using q
  · intro q; exact ⟨rfl, by simpa using q⟩
theorem rd_neI {a b : Int} : rNe (.int a) (.int b) H Q = Q (.bl (!decide (a = b))) H := by
  apply propext; constructor
  · rintro ⟨_, q⟩; simpa using q
  · intro q; exact ⟨rfl, by simpa using q⟩
theorem rd_eqB {a b : Bool} : rEq (.bl a) (.bl b) H Q = Q (.bl (decide (a = b))) H := by
  apply propext; constructor
  · rintro ⟨_, q⟩; simpa using q
  · intro q; exact ⟨rfl, by simpa using q⟩
theorem rd_neB {a b : Bool} : rNe (.bl a) (.bl b) H Q = Q (.bl (!decide (a = b))) H := by
  apply propext; constructor
  · rintro ⟨_, q⟩; simpa using q
  · intro q; exact ⟨rfl, by simpa using q⟩
theorem rd_eqS {a b : Str} : rEq (.str a) (.str b) H Q = Q (.bl (decide (a = b))) H := by
  apply propext; constructor
  · rintro ⟨_, q⟩; simpa using q
  · intro q; exact ⟨rfl, by simpa using q⟩
theorem rd_neS {a b : Str} : rNe (.str a) (.str b) H Q = Q (.bl (!decide (a = b))) H := by
  apply propext; constructor
  · rintro ⟨_, q⟩; simpa using q
  · intro q; exact ⟨rfl, by simpa using q⟩
theorem rd_setL {p : Addr} {k : Int} {QH : Hp → Prop} : rSetL (.ref p) (.int k) v H QH = ∃ xs j, H p = some (.lst xs) ∧ ixN xs.length k = some j ∧ QH (upd H p (.lst (xs.set j v))) := by
  apply propext; constructor
  · rintro ⟨p', xs, i, j, e1, e2, q⟩; cases e1; cases e2; exact ⟨xs, j, q⟩
  · rintro ⟨xs, j, q⟩; exact ⟨p, xs, k, j, rfl, rfl, q⟩
theorem rd_bool {b : Bool} {P : Bool → Prop} : (∃ k, V.bl b = V.bl k ∧ P k) = P b := by
  apply propext; constructor
  · rintro ⟨k, e, q⟩; cases e; exact q
  · intro q; exact ⟨b, rfl, q⟩
theorem rd_some {v : V} {P : V → Prop} : (∃ k, some (some v) = some (some k) ∧ P k) = P v := by
  apply propext; constructor
  · rintro ⟨k, e, q⟩; cases e; exact q
  · intro q; exact ⟨v, rfl, q⟩
end
section
variable {X : Cx}
def rIxH : R2 := fun x y H Q => ∃ p xs i v, x = .ref p ∧ y = .int i ∧ H p = some (.lst xs) ∧ atI xs i = some v ∧ Q v H
theorem ix_H : IxR X rIxH := fun value slice pins s σ H x y v u Q I rx ry h => by
  obtain ⟨p, xs, i, z, e1, e2, e3, e4, q⟩ := h
  exact ix_list value slice pins s σ H x y v u Q I rx ry ⟨p, xs, i, z, e1, e2, SqL.of e3, e4, q⟩
def rLenH : List V → Hp → VK → Prop := fun xs H Q => ∃ p ys, xs = [.ref p] ∧ H p = some (.lst ys) ∧ Q (.int ys.length) H
theorem call_lenH : CallR X (.builtin "len") rLenH := fun pins s σ H xs us Q I r h => by
  obtain ⟨p, ys, e1, e2, q⟩ := h
  exact call_len_seq pins s σ H xs us Q I r ⟨p, ys, e1, .inl (SqL.of e2), q⟩
def rTupL : List V → Hp → VK → Prop := fun xs H Q => ∃ p ys, xs = [.ref p] ∧ H p = some (.lst ys) ∧ ∀ l, H l = none → Q (.ref l) (upd H l (.tup ys))
theorem call_tupL : CallR X (.type "tuple") rTupL := fun pins s σ H xs us Q I r h => by
  obtain ⟨p, ys, e1, e2, q⟩ := h
  exact call_tuple_of pins s σ H xs us Q I r ⟨p, ys, e1, .inl ⟨SqL.of e2, q⟩⟩
def rNeNilH : R2 := fun x y H Q => ∃ a b xs, x = .ref a ∧ y = .ref b ∧ H a = some (.lst xs) ∧ H b = some (.lst []) ∧ Q (.bl (!xs.isEmpty)) H
theorem op_neNilH (hu : X.A.units + 64 < cLine) : OpR X (compareOp .NotEq) rNeNilH := fun pins s σ H x y v u Q I rx ry h => by
  obtain ⟨a, b, xs, e1, e2, e3, e4, q⟩ := h
  exact op_neNil hu pins s σ H x y v u Q I rx ry ⟨a, b, xs, e1, e2, SqL.of e3, SqL.of e4, q⟩
def rRvLH : V → Hp → VK → Prop := fun x H Q => ∃ a xs, x = .ref a ∧ H a = some (.lst xs) ∧ ∀ p, H p = none → Q (.ref p) (upd H p (.lst xs.reverse))
theorem rv_LH : RvR X rRvLH := fun pins s σ H x v vk sl Q I rx hs pk h => by
  obtain ⟨a, xs, e1, e2, q⟩ := h
  exact rv_list pins s σ H x v vk sl Q I rx hs pk ⟨a, xs, e1, SqL.of e2, q⟩
def gTupH (n : Nat) (t : TGs) : TG := fun v σ H Q => ∃ a xs, v = .ref a ∧ H a = some (.tup xs) ∧ xs.length = n ∧ t xs σ H Q
theorem pg_tupH {es : List Expr} {k : Nat} {t : TGs} {n : Nat} {pos : Pos} (hc : X.calm = true) (h : PGs X es t)
    (hn : (assignEach es X.env).length = n := by rfl) (hst : (assignEach es X.env).findIdx? (·.1) = none := by rfl) : PG X (.Tuple es k pos) (gTupH n t) := fun pins s σ H v u Q I r hw => by
  obtain ⟨a, xs, e1, e2, e3, q⟩ := hw
  exact pg_tup hc h hn hst pins s σ H v u Q I r ⟨a, xs, e1, SqT.of e2, e3, q⟩
def tTruL (ta : TE) : TT := fun σ H Q => ta σ H fun x H' => ∃ p xs, x = .ref p ∧ H' p = some (.lst xs) ∧ Q (!xs.isEmpty) H'
end
section
variable {D : Ends} {σ : L2.St} {H : Hp} {Q : VK} {QB : Bool → Hp → Prop} {x v : V} {p l b : Addr} {xs ys : List V} {K : PySem.W.Frag} {k : Int}
theorem rd_ixH (h : H p = some (.lst xs)) : rIxH (.ref p) (.int k) H Q = ∃ v, atI xs k = some v ∧ Q v H := by
  apply propext; constructor
  · rintro ⟨p', xs', i, v, e1, e2, e3, q⟩; cases e1; cases e2; rw [h] at e3; cases e3; exact ⟨v, q⟩
  · rintro ⟨v, q⟩; exact ⟨p, xs, k, v, rfl, rfl, h, q⟩
theorem rd_ixU : rIxH (.ref p) (.int k) (upd H p (.lst xs)) Q = ∃ v, atI xs k = some v ∧ Q v (upd H p (.lst xs)) := rd_ixH upd_same
theorem rd_lenH (h : H p = some (.lst xs)) : rLenH [.ref p] H Q = Q (.int xs.length) H := by
  apply propext; constructor
  · rintro ⟨p', xs', e1, e3, q⟩; cases e1; rw [h] at e3; cases e3; exact q
  · intro q; exact ⟨p, xs, rfl, h, q⟩
theorem rd_setH {QH : Hp → Prop} (h : H p = some (.lst xs)) : rSetL (.ref p) (.int k) v H QH = ∃ j, ixN xs.length k = some j ∧ QH (upd H p (.lst (xs.set j v))) := by
  rw [rd_setL]; apply propext; constructor
  · rintro ⟨xs', j, e3, q⟩; rw [h] at e3; cases e3; exact ⟨j, q⟩
  · rintro ⟨j, q⟩; exact ⟨xs, j, h, q⟩
theorem rd_setU {QH : Hp → Prop} : rSetL (.ref p) (.int k) v (upd H p (.lst xs)) QH = ∃ j, ixN xs.length k = some j ∧ QH (upd H p (.lst (xs.set j v))) := by
  rw [rd_setH upd_same]; simp only [upd_upd]
theorem rd_tyL (h : H p = some (.lst xs)) : tyV K "list" (.ref p) H = True := eq_true (.inl ⟨rfl, xs, SqL.of h⟩)
theorem rd_append (h : H l = some (.lst xs)) : rAppend (.ref l) [v] H Q = (xs.length < sizeLine ∧ Q .non (upd H l (.lst (xs ++ [v])))) := by
  apply propext; constructor
  · rintro ⟨p', xs', y, e1, e2, e3, q⟩; cases e1; cases e2; rw [h] at e3; cases e3; exact q
  · intro q; exact ⟨l, xs, v, rfl, rfl, h, q⟩
theorem rd_neNil (h : H p = some (.lst xs)) (h' : H b = some (.lst [])) : rNeNilH (.ref p) (.ref b) H Q = Q (.bl (!xs.isEmpty)) H := by
  apply propext; constructor
  · rintro ⟨a', b', xs', e1, e2, e3, e4, q⟩; cases e1; cases e2; rw [h] at e3; cases e3; exact q
  · intro q; exact ⟨p, b, xs, rfl, rfl, h, h', q⟩
theorem rd_cat {l' : Addr} (h : H p = some (.lst xs)) (h' : H l' = some (.lst ys)) : rCat (.ref p) (.ref l') H Q = (xs.length + ys.length ≤ sizeLine ∧ ∀ q, H q = none → Q (.ref q) (upd H q (.lst (xs ++ ys)))) := by
  apply propext; constructor
  · rintro ⟨a', b', xs', ys', e1, e2, e3, e4, q⟩; cases e1; cases e2; rw [h] at e3; cases e3; rw [h'] at e4; cases e4; exact q
  · intro q; exact ⟨p, l', xs, ys, rfl, rfl, h, h', q⟩
theorem rd_tupL (h : H p = some (.lst xs)) : rTupL [.ref p] H Q = ∀ q, H q = none → Q (.ref q) (upd H q (.tup xs)) := by
  apply propext; constructor
  · rintro ⟨a', xs', e1, e3, q⟩; cases e1; rw [h] at e3; cases e3; exact q
  · intro q; exact ⟨p, xs, rfl, h, q⟩
theorem rd_rvLH (h : H p = some (.lst xs)) : rRvLH (.ref p) H Q = ∀ q, H q = none → Q (.ref q) (upd H q (.lst xs.reverse)) := by
  apply propext; constructor
  · rintro ⟨a', xs', e1, e3, q⟩; cases e1; rw [h] at e3; cases e3; exact q
  · intro q; exact ⟨p, xs, rfl, h, q⟩
theorem rd_gTupH {n : Nat} {gs : TGs} {QS : L2.St → Hp → Prop} (h : H p = some (.tup xs)) : gTupH n gs (.ref p) σ H QS = (xs.length = n ∧ gs xs σ H QS) := by
  apply propext; constructor
  · rintro ⟨q, ys, e1, e3, q⟩; cases e1; rw [h] at e3; cases e3; exact q
  · intro q; exact ⟨p, xs, rfl, h, q⟩
theorem rd_cons1 {PQ : V → List V → Prop} : (∃ v' r, v :: xs = v' :: r ∧ PQ v' r) = PQ v xs := by
  apply propext; constructor
  · rintro ⟨v', r, e, q⟩; cases e; exact q
  · intro q; exact ⟨v, xs, rfl, q⟩
theorem rd_truL {te : TE} : tTruL te σ H QB = te σ H fun x H' => ∃ p xs, x = .ref p ∧ H' p = some (.lst xs) ∧ QB (!xs.isEmpty) H' := rfl
theorem rd_cxK {CX : CXT} {P : Program} {w : World} {mg : Str → Option Value} {base : Heap} {N : List Str} {qual : Str} {scope : Scope} {f : Addr} {cd : Value} {A : Around} {outer : List Env} {s : Shared} {E : XK} : (cxOf CX P w K mg base N qual scope f cd A outer s H E).K = K := rfl
theorem rd_one {α : Type} {c : α} {P : α → Prop} : (∃ v, some c = some v ∧ P v) = P c := by
  apply propext; constructor
  · rintro ⟨v, e, q⟩; cases e; exact q
  · intro q; exact ⟨c, rfl, q⟩
variable {α : Type} {a0 a1 a2 a3 a4 : α} {as : List α}
theorem at0 : atI (a0 :: as) 0 = some a0 := atI_nat (j := 0) rfl
theorem at1 : atI (a0 :: a1 :: as) 1 = some a1 := atI_nat (j := 1) rfl
theorem at2 : atI (a0 :: a1 :: a2 :: as) 2 = some a2 := atI_nat (j := 2) rfl
theorem at3 : atI (a0 :: a1 :: a2 :: a3 :: as) 3 = some a3 := atI_nat (j := 3) rfl
theorem at4 : atI (a0 :: a1 :: a2 :: a3 :: a4 :: as) 4 = some a4 := atI_nat (j := 4) rfl
theorem atI_in {xs : List α} {k : Int} (h0 : 0 ≤ k) (h1 : k < xs.length) : ∃ v, atI xs k = some v ∧ v ∈ xs := by
  have hk : k.toNat < xs.length := by omega
  have q : atI xs ((k.toNat : Nat) : Int) = some xs[k.toNat] := atI_nat (by simp [hk])
  have e : ((k.toNat : Nat) : Int) = k := by omega
  rw [e] at q
  exact ⟨_, q, List.getElem_mem hk⟩
theorem ix5_1 : ixN 5 1 = some 1 := rfl
theorem ix5_2 : ixN 5 2 = some 2 := rfl
theorem ix5_3 : ixN 5 3 = some 3 := rfl
theorem ixN_ok {n : Nat} {k : Int} (h0 : 0 ≤ k) (h1 : k < n) : ixN n k = some k.toNat := by unfold ixN; rw [if_pos h0, if_pos h1]
end
section
variable {X : Cx}
def tML0 (r : V → List V → Hp → VK → Prop) (to : TE) : TE := fun σ H Q => to σ H fun x H1 => (∃ p xs, x = .ref p ∧ H1 p = some (.lst xs)) ∧ r x [] H1 Q
def tML (r : V → List V → Hp → VK → Prop) (to : TE) (t : TA) : TE := fun σ H Q => to σ H fun x H1 => (∃ p xs, x = .ref p ∧ H1 p = some (.lst xs)) ∧ t σ H1 fun xs H2 => r x xs H2 Q
theorem isL_ty {K : PySem.W.Frag} {x : V} {H : Hp} (h : ∃ p xs, x = .ref p ∧ H p = some (.lst xs)) : tyV K "list" x H := by
  obtain ⟨p, xs, rfl, e⟩ := h
  exact .inl ⟨rfl, xs, SqL.of e⟩
theorem pe_ml {o e : Expr} {es : List Expr} {to : TE} {t : TA} {name : Str} {apos cpos : Pos} {id : String} {r : V → List V → Hp → VK → Prop} (slot : Slot "list" name id) (hty : typeOf (.builtin id) = pure (.type "method_descriptor")) (hm : MtM X id r) (ho : PE X o to) (ha : PA X (e :: es) t)
    (hbase : attributeBase o name X.env (eval o X.env) = eval o X.env := by rfl)
    (hfew : ((backTo cpos (starEach (e :: es) X.env)).all (fun x => !x.1) && (backToKw cpos (keywordEach [] X.env)).all (fun x => x.1.isSome)
      && decide ((e :: es).length + ([] : List Keyword).length + (if ([] : List Keyword).isEmpty then 0 else 1) < 30)) = true := by rfl)
    (hline : (apos.endLine == cpos.line) = true := by rfl) (hs : starEach (e :: es) X.env = (false, eval e X.env) :: starEach es X.env := by rfl) (hplain : (backTo cpos (starEach es X.env)).any (·.1) = false := by rfl) :
    PE X (.Call (.Attribute o name apos) (e :: es) [] cpos) (tML r to t) := by
  intro pins s σ H Q I h
  refine wpAny_Call_method_late hbase hfew hline rfl (thn (ho pins s σ H _ I h) fun v s1 ⟨x, H1, I1, r1, ty, q1⟩ => ?_)
  obtain ⟨h1, h2⟩ := tyV_is I1 r1 (isL_ty ty)
  refine ⟨_, id, PySem.F.plainAttrs_list, slot, hty, h1, h2, ?_⟩
  have hA := ha cpos pins s1 σ H1 _ I1 q1
  rw [hs] at hA ⊢
  refine Calls.callWith_builtin (by show (false || (backTo cpos (starEach es X.env)).any (·.1)) = false; rw [hplain] <;> rfl) (Calls.evalArgs_plain ?_)
  exact thn hA fun us s2 ⟨vs, H2, I2, r2, q2⟩ => hm pins s2 σ H2 x vs v us Q I2 r1 r2 q2
inductive Kd where
  | int | bool | str | tup | lst
def Kd.ty : Kd → String
  | .int => "int" | .bool => "bool" | .str => "str" | .tup => "tuple" | .lst => "list"
def kdOf (H : Hp) : V → Option Kd
  | .int _ => some .int
  | .bl _ => some .bool
  | .str _ => some .str
  | .ref a => match H a with
    | some (.tup _) => some .tup
    | some (.lst _) => some .lst
    | _ => none
  | _ => none
theorem kdOf_ty {K : PySem.W.Frag} {H : Hp} {x : V} {k : Kd} (h : kdOf H x = some k) : TyOf K H x (.type k.ty) := by
  cases x with
  | int i => cases h; exact .int i
  | bl b => cases h; exact .bl b
  | str b => cases h; exact .str b
  | ref a =>
    simp only [kdOf] at h
    split at h
    · cases h; exact .tup (by assumption)
    · cases h; exact .lst (by assumption)
    · cases h
  | non => cases h
  | byt b => cases h
  | flt b => cases h
  | ty b => cases h
def rIsV : List V → Hp → VK → Prop := fun xs H Q => ∃ x n k b, xs = [x, .ty n] ∧ kdOf H x = some k ∧ (∀ K, PySem.W.kitOne K (.type k.ty) (.type n) = some b) ∧ Q (.bl b) H
theorem call_isv : CallR X (.builtin "isinstance") rIsV := fun pins s σ H xs us Q I r h => by
  obtain ⟨x, n, k, b, rfl, e, kt, q⟩ := h
  exact call_isi pins s σ H _ us Q I r ⟨x, n, _, b, rfl, kdOf_ty e, kt _, q⟩
theorem isv_of {H : Hp} {x : V} {n : String} {k : Kd} {b : Bool} {Q : VK} (h : kdOf H x = some k) (u : ∀ K, PySem.W.kitOne K (.type k.ty) (.type n) = some b) : rIsV [x, .ty n] H Q = Q (.bl b) H := by
  apply propext; constructor
  · rintro ⟨x', n', k', b', e, h', u', q⟩
    cases e
    rw [h] at h'
    cases h'
    have z := (u []).symm.trans (u' [])
    cases z
    exact q
  · intro q; exact ⟨_, _, _, _, rfl, h, u, q⟩
theorem rd_isv_int_int {H : Hp} {Q : VK} {n : Int}  : rIsV [(.int n), .ty "int"] H Q = Q (.bl true) H := isv_of (k := .int) rfl fun K => by with_unfolding_all rfl
theorem rd_isv_int_bool {H : Hp} {Q : VK} {n : Int}  : rIsV [(.int n), .ty "bool"] H Q = Q (.bl false) H := isv_of (k := .int) rfl fun K => by with_unfolding_all rfl
theorem rd_isv_int_str {H : Hp} {Q : VK} {n : Int}  : rIsV [(.int n), .ty "str"] H Q = Q (.bl false) H := isv_of (k := .int) rfl fun K => by with_unfolding_all rfl
theorem rd_isv_int_tuple {H : Hp} {Q : VK} {n : Int}  : rIsV [(.int n), .ty "tuple"] H Q = Q (.bl false) H := isv_of (k := .int) rfl fun K => by with_unfolding_all rfl
theorem rd_isv_int_list {H : Hp} {Q : VK} {n : Int}  : rIsV [(.int n), .ty "list"] H Q = Q (.bl false) H := isv_of (k := .int) rfl fun K => by with_unfolding_all rfl
theorem rd_isv_bl_int {H : Hp} {Q : VK} {b : Bool}  : rIsV [(.bl b), .ty "int"] H Q = Q (.bl true) H := isv_of (k := .bool) rfl fun K => by with_unfolding_all rfl
theorem rd_isv_bl_bool {H : Hp} {Q : VK} {b : Bool}  : rIsV [(.bl b), .ty "bool"] H Q = Q (.bl true) H := isv_of (k := .bool) rfl fun K => by with_unfolding_all rfl
theorem rd_isv_bl_str {H : Hp} {Q : VK} {b : Bool}  : rIsV [(.bl b), .ty "str"] H Q = Q (.bl false) H := isv_of (k := .bool) rfl fun K => by with_unfolding_all rfl
theorem rd_isv_bl_tuple {H : Hp} {Q : VK} {b : Bool}  : rIsV [(.bl b), .ty "tuple"] H Q = Q (.bl false) H := isv_of (k := .bool) rfl fun K => by with_unfolding_all rfl
theorem rd_isv_bl_list {H : Hp} {Q : VK} {b : Bool}  : rIsV [(.bl b), .ty "list"] H Q = Q (.bl false) H := isv_of (k := .bool) rfl fun K => by with_unfolding_all rfl
theorem rd_isv_str_int {H : Hp} {Q : VK} {x : Str}  : rIsV [(.str x), .ty "int"] H Q = Q (.bl false) H := isv_of (k := .str) rfl fun K => by with_unfolding_all rfl
theorem rd_isv_str_bool {H : Hp} {Q : VK} {x : Str}  : rIsV [(.str x), .ty "bool"] H Q = Q (.bl false) H := isv_of (k := .str) rfl fun K => by with_unfolding_all rfl
theorem rd_isv_str_str {H : Hp} {Q : VK} {x : Str}  : rIsV [(.str x), .ty "str"] H Q = Q (.bl true) H := isv_of (k := .str) rfl fun K => by with_unfolding_all rfl
theorem rd_isv_str_tuple {H : Hp} {Q : VK} {x : Str}  : rIsV [(.str x), .ty "tuple"] H Q = Q (.bl false) H := isv_of (k := .str) rfl fun K => by with_unfolding_all rfl
theorem rd_isv_str_list {H : Hp} {Q : VK} {x : Str}  : rIsV [(.str x), .ty "list"] H Q = Q (.bl false) H := isv_of (k := .str) rfl fun K => by with_unfolding_all rfl
theorem rd_isv_tup_tuple {H : Hp} {Q : VK} {a : Addr} {xs : List V} (e : H a = some (.tup xs)) : rIsV [(.ref a), .ty "tuple"] H Q = Q (.bl true) H := isv_of (k := .tup) (by simp only [kdOf, e]) fun K => by with_unfolding_all rfl
section
variable {σ : L2.St} {H : Hp} {Q : VK} {te : TE} {tr : TA} {r : V → List V → Hp → VK → Prop} {p : Addr} {xs : List V}
theorem rd_ml0 : tML0 r te σ H Q = te σ H fun x H1 => (∃ p xs, x = .ref p ∧ H1 p = some (.lst xs)) ∧ r x [] H1 Q := rfl
theorem rd_ml : tML r te tr σ H Q = te σ H fun x H1 => (∃ p xs, x = .ref p ∧ H1 p = some (.lst xs)) ∧ tr σ H1 fun xs H2 => r x xs H2 Q := rfl
theorem rd_isL (h : H p = some (.lst xs)) : (∃ q ys, V.ref p = V.ref q ∧ H q = some (.lst ys)) = True := eq_true ⟨p, xs, rfl, h⟩
end
end
def ForW (J : It) (g : TG) (tb : TS) (D : Ends) (σ : L2.St) (H1 : Hp) : Prop := ∃ W : Nat → Nat → L2.St → Hp → Prop, (∃ m, W 0 m σ H1) ∧ ∀ i m σ H, W i m σ H →
  (J.stop i H ∧ D.nx σ H) ∨ (J.go i H ∧ ∃ N : L2.St → Hp → Prop, (∀ σ' H', N σ' H' → ∃ m', m' < m ∧ W (i + 1) m' σ' H') ∧ ∀ x H', J.yld i H x H' → g x σ H' fun σ2 H2 => tb { D with nx := N, ct := N, bk := D.nx } σ2 H2)
def LcW (J : It) (g : TG) (tt : TT) (te : TE) (vs : List Nat) (σ : L2.St) (H1 : Hp) (D : Addr) (Q : VK) : Prop := ∃ W : Nat → Nat → Hp → Prop, (∃ m, W 0 m (upd H1 D (.lst []))) ∧ ∀ i m H, W i m H →
  (J.stop i H ∧ Q (.ref D) H) ∨ (J.go i H ∧ ∃ Nx : Hp → Prop, (∀ H', Nx H' → ∃ m', m' < m ∧ W (i + 1) m' H') ∧ ∀ x H', J.yld i H x H' → g x (wipe σ vs) H' fun σ2 H2 => wipe σ2 vs = wipe σ vs ∧ tt σ2 H2 fun b H3 =>
    if b = true then te σ2 H3 fun y H4 => ∃ acc, H4 D = some (.lst acc) ∧ acc.length < sizeLine ∧ Nx (upd H4 D (.lst (acc ++ [y]))) else Nx H3)
section
variable {D : Ends} {σ : L2.St} {H : Hp} {Q : VK} {g : TG} {tb : TS} {ta : TA} {te : TE} {tt : TT} {ws : List Nat} {K : PySem.W.Frag}
theorem rd_for1 : tFor (iRng1 ta) g tb D σ H = ta σ H fun vs H1 => ∃ j : Int, vs = [.int j] ∧ -(2 ^ 62) ≤ j ∧ j < 2 ^ 62 ∧ ForW (Itr 0 j.toNat) g tb D σ H1 := rfl
theorem rd_for2 : tFor (iRng2 ta) g tb D σ H = ta σ H fun vs H1 => ∃ i j : Int, vs = [.int i, .int j] ∧ (-(2 ^ 62) ≤ i ∧ i < 2 ^ 62 ∧ -(2 ^ 62) ≤ j ∧ j < 2 ^ 62) ∧ ForW (Itr i (j - i).toNat) g tb D σ H1 := rfl
theorem rd_forL : tFor (iList K te) g tb D σ H = te σ H fun x H1 => ∃ a, x = .ref a ∧ (∃ xs, SqL K H1 a xs) ∧ ForW (Itl K a) g tb D σ H1 := rfl
theorem rd_forT : tFor (iTup K te) g tb D σ H = te σ H fun x H1 => ∃ a, x = .ref a ∧ (∃ xs, SqT K H1 a xs) ∧ ForW (Itt K a) g tb D σ H1 := rfl
theorem rd_lc1 {tx : TE} : tLc (iRng1 ta) g tt tx ws σ H Q = ta σ H fun vs H1 => ∃ j : Int, vs = [.int j] ∧ -(2 ^ 62) ≤ j ∧ j < 2 ^ 62 ∧ ∀ D, H1 D = none → LcW (Itr 0 j.toNat) g tt tx ws σ H1 D Q := rfl
theorem rd_lcL {tx : TE} : tLc (iList K te) g tt tx ws σ H Q = te σ H fun x H1 => ∃ a, x = .ref a ∧ (∃ xs, SqL K H1 a xs) ∧ ∀ D, H1 D = none → LcW (Itl K a) g tt tx ws σ H1 D Q := rfl
theorem rd_lcT {tx : TE} : tLc (iTup K te) g tt tx ws σ H Q = te σ H fun x H1 => ∃ a, x = .ref a ∧ (∃ xs, SqT K H1 a xs) ∧ ∀ D, H1 D = none → LcW (Itt K a) g tt tx ws σ H1 D Q := rfl
theorem forW_range {lo : Int} {n : Nat} (Pv : Nat → L2.St → Hp → Prop) (h0 : Pv 0 σ H)
    (hs : ∀ i σ H, i < n → Pv i σ H → g (.int (lo + i)) σ H fun σ2 H2 => tb { D with nx := Pv (i + 1), ct := Pv (i + 1), bk := D.nx } σ2 H2) (hd : ∀ σ H, Pv n σ H → D.nx σ H) : ForW (Itr lo n) g tb D σ H := for_range Pv h0 hs hd
theorem forW_list {a : Addr} {xs : List V} (Pv : Nat → L2.St → Hp → Prop) (h0 : Pv 0 σ H) (hl : ∀ i σ H, i ≤ xs.length → Pv i σ H → H a = some (.lst xs))
    (hs : ∀ i x σ H, xs[i]? = some x → Pv i σ H → g x σ H fun σ2 H2 => tb { D with nx := Pv (i + 1), ct := Pv (i + 1), bk := D.nx } σ2 H2) (hd : ∀ σ H, Pv xs.length σ H → D.nx σ H) : ForW (Itl K a) g tb D σ H :=
  for_list (xs := xs) Pv h0 (fun i σ H h1 h2 => SqL.of (hl i σ H h1 h2)) hs hd
theorem lcW_range {lo : Int} {n : Nat} {A : Addr} {vs : List Nat} (Pv : Nat → Hp → Prop) (h0 : Pv 0 (upd H A (.lst [])))
    (hs : ∀ i H, i < n → Pv i H → g (.int (lo + i)) (wipe σ vs) H fun σ2 H2 => wipe σ2 vs = wipe σ vs ∧ tt σ2 H2 fun b H3 =>
      if b = true then te σ2 H3 fun y H4 => ∃ acc, H4 A = some (.lst acc) ∧ acc.length < sizeLine ∧ Pv (i + 1) (upd H4 A (.lst (acc ++ [y]))) else Pv (i + 1) H3) (hd : ∀ H, Pv n H → Q (.ref A) H) : LcW (Itr lo n) g tt te vs σ H A Q := lc_range Pv h0 hs hd
theorem lcW_list {a A : Addr} {xs : List V} {vs : List Nat} (Pv : Nat → Hp → Prop) (h0 : Pv 0 (upd H A (.lst []))) (hl : ∀ i H, i ≤ xs.length → Pv i H → H a = some (.lst xs))
    (hs : ∀ i x H, xs[i]? = some x → Pv i H → g x (wipe σ vs) H fun σ2 H2 => wipe σ2 vs = wipe σ vs ∧ tt σ2 H2 fun b H3 =>
      if b = true then te σ2 H3 fun y H4 => ∃ acc, H4 A = some (.lst acc) ∧ acc.length < sizeLine ∧ Pv (i + 1) (upd H4 A (.lst (acc ++ [y]))) else Pv (i + 1) H3) (hd : ∀ H, Pv xs.length H → Q (.ref A) H) : LcW (Itl K a) g tt te vs σ H A Q :=
  lc_list (xs := xs) Pv h0 (fun i H h1 h2 => SqL.of (hl i H h1 h2)) hs hd
theorem rd_yes {QB : Bool → Hp → Prop} : tYes σ H QB = QB true H := rfl
theorem rd_wipe0 : wipe σ [] = σ := rfl
theorem rd_wipe1 {v : Nat} {vs : List Nat} : wipe σ (v :: vs) = (wipe σ vs).set v none := rfl
theorem rd_rng1 {n : Int} {QQ : Int → Prop} : (∃ j : Int, [V.int n] = [V.int j] ∧ QQ j) = QQ n := by
  apply propext; constructor
  · rintro ⟨j, e, q⟩; cases e; exact q
  · intro q; exact ⟨n, rfl, q⟩
theorem rd_ref1 {a : Addr} {QQ : Addr → Prop} : (∃ j : Addr, V.ref a = V.ref j ∧ QQ j) = QQ a := by
  apply propext; constructor
  · rintro ⟨j, e, q⟩; cases e; exact q
  · intro q; exact ⟨a, rfl, q⟩
end
theorem ln0 : (0 ≤ sizeLine) = True := eq_true (Nat.le_trans (by decide) (Nat.le_of_lt (small1000 (n := 1000) (Nat.le_refl _))))
theorem ln1 : (1 ≤ sizeLine) = True := eq_true (Nat.le_trans (by decide) (Nat.le_of_lt (small1000 (n := 1000) (Nat.le_refl _))))
theorem ln2 : (2 ≤ sizeLine) = True := eq_true (Nat.le_trans (by decide) (Nat.le_of_lt (small1000 (n := 1000) (Nat.le_refl _))))
theorem ln3 : (3 ≤ sizeLine) = True := eq_true (Nat.le_trans (by decide) (Nat.le_of_lt (small1000 (n := 1000) (Nat.le_refl _))))
theorem ln4 : (4 ≤ sizeLine) = True := eq_true (Nat.le_trans (by decide) (Nat.le_of_lt (small1000 (n := 1000) (Nat.le_refl _))))
theorem ln5 : (5 ≤ sizeLine) = True := eq_true (Nat.le_trans (by decide) (Nat.le_of_lt (small1000 (n := 1000) (Nat.le_refl _))))
theorem ln6 : (6 ≤ sizeLine) = True := eq_true (Nat.le_trans (by decide) (Nat.le_of_lt (small1000 (n := 1000) (Nat.le_refl _))))
theorem ln7 : (7 ≤ sizeLine) = True := eq_true (Nat.le_trans (by decide) (Nat.le_of_lt (small1000 (n := 1000) (Nat.le_refl _))))
theorem ln8 : (8 ≤ sizeLine) = True := eq_true (Nat.le_trans (by decide) (Nat.le_of_lt (small1000 (n := 1000) (Nat.le_refl _))))
theorem ln9 : (9 ≤ sizeLine) = True := eq_true (Nat.le_trans (by decide) (Nat.le_of_lt (small1000 (n := 1000) (Nat.le_refl _))))
theorem ln10 : (10 ≤ sizeLine) = True := eq_true (Nat.le_trans (by decide) (Nat.le_of_lt (small1000 (n := 1000) (Nat.le_refl _))))
def Def (P : Program) (w : World) (K : PySem.W.Frag) (mg : Str → Option Value) (base : Heap) (k : Nat) (name : Str) (ps : List Str) (sp : Sp) : Prop :=
  ∃ f fd, FnOk P w K mg base CX0 k f fd ps sp ∧ PySem.W.keepIn K (.ref f) = true ∧ Binds K fd ps [] ∧ mg name = some (.ref f)
theorem pe_callD {X : Cx} {name : Str} {ps : List Str} {sp : Sp} {k : Nat} {e : Expr} {es : List Expr} {t : TA} {p pos : Pos} (d : Def X.prog X.w X.K X.mg X.base k name ps sp) (hr : Room k X.A) (hg : Gl X name) (ha : PA X (e :: es) t)
    (hdb : (name == ("__debug__" : Str)) = false := by decide) (he : starEach (e :: es) X.env = (false, eval e X.env) :: starEach es X.env := by rfl) (hpl : (backTo pos (starEach es X.env)).any (·.1) = false := by rfl) :
    PE X (.Call (.Name name p) (e :: es) [] pos) (tCall sp [] E0 t) := by
  obtain ⟨f, fd, F, kp, b, m⟩ := d
  exact pe_call F hr hg m kp b .nil pass0 ha hdb he hpl
theorem Def.imp {P : Program} {w : World} {K : PySem.W.Frag} {mg : Str → Option Value} {base : Heap} {k : Nat} {name : Str} {ps : List Str} {sp sp' : Sp} (d : Def P w K mg base k name ps sp) (h : ∀ vs H Q E, sp' vs H Q E → sp vs H Q E) : Def P w K mg base k name ps sp' := by
  obtain ⟨f, fd, F, r⟩ := d
  exact ⟨f, fd, F.imp h, r⟩
theorem upd_at {H : Hp} {a b : Addr} {o : HO} (h : b ≠ a) (q : H b = some o) {u : HO} : upd H a u b = some o := by rw [upd_ne h]; exact q
theorem same_new {H : Hp} {p : Addr} (h : H p = none) (o : HO) : Same H (upd H p o) := fun b u q => by rw [upd_ne (ne_of_none q h)]; exact q
theorem same_own {H0 H : Hp} {p : Addr} (s : Same H0 H) (h : H0 p = none) (o : HO) : Same H0 (upd H p o) := fun b u q => by rw [upd_ne (ne_of_none q h)]; exact s b u q
structure Kp (D : Addr) (H H' : Hp) : Prop where
  keep : ∀ b o, H b = some o → b ≠ D → H' b = some o
  head : ∀ a xs, H D = some (.lst (.ref a :: xs)) → ∃ ys, H' D = some (.lst (.ref a :: ys))
theorem Kp.refl (D : Addr) (H : Hp) : Kp D H H := ⟨fun _ _ h _ => h, fun _ xs h => ⟨xs, h⟩⟩
theorem Kp.trans {D : Addr} {H H1 H2 : Hp} (a : Kp D H H1) (b : Kp D H1 H2) : Kp D H H2 := ⟨fun c o h n => b.keep c o (a.keep c o h n) n, fun c xs h => let ⟨ys, e⟩ := a.head c xs h; b.head c ys e⟩
theorem same_kp {D : Addr} {H H' : Hp} (s : Same H H') : Kp D H H' := ⟨fun b o h _ => s b o h, fun _ xs h => ⟨xs, s _ _ h⟩⟩
theorem Kp.own {D : Addr} {H0 H : Hp} {p : Addr} (s : Kp D H0 H) (h : H0 p = none) (o : HO) : Kp D H0 (upd H p o) := ⟨fun b u q n => by rw [upd_ne (ne_of_none q h)]; exact s.keep b u q n, fun a xs q => by
  obtain ⟨ys, e⟩ := s.head a xs q
  exact ⟨ys, by rw [upd_ne (ne_of_none q h)]; exact e⟩⟩
theorem Kp.same {D : Addr} {H H1 H2 : Hp} (a : Kp D H H1) (b : Same H1 H2) : Kp D H H2 := a.trans (same_kp b)
theorem Kp.free {D : Addr} {H H' : Hp} (k : Kp D H H') {l : Addr} (h : H' l = none) (n : l ≠ D) : H l = none := by
  cases q : H l with
  | none => rfl
  | some o => rw [k.keep l o q n] at h; cases h
theorem Kp.deck {D a : Addr} {H : Hp} {xs ys : List V} (h : H D = some (.lst (.ref a :: xs))) : Kp D H (upd H D (.lst (.ref a :: ys))) := ⟨fun b u q n => by rw [upd_ne n]; exact q, fun a' xs' q => by
  rw [h] at q; cases q; exact ⟨ys, upd_same⟩⟩
def Tp (H H' : Hp) : Prop := ∀ b xs, H b = some (.tup xs) → H' b = some (.tup xs)
theorem Tp.refl (H : Hp) : Tp H H := fun _ _ h => h
theorem Tp.trans {H H1 H2 : Hp} (a : Tp H H1) (b : Tp H1 H2) : Tp H H2 := fun c o h => b c o (a c o h)
theorem same_tp {H H' : Hp} (s : Same H H') : Tp H H' := fun b o h => s b _ h
theorem Kp.tp {D : Addr} {H H' : Hp} {xs : List V} (k : Kp D H H') (h : H D = some (.lst xs)) : Tp H H' := fun b ys q => k.keep b _ q (ne_of q h (by intro z; cases z))
theorem Tp.lst {H : Hp} {p : Addr} {xs ys : List V} (h : H p = some (.lst xs)) : Tp H (upd H p (.lst ys)) := fun b zs q => by rw [upd_ne (ne_of q h (by intro z; cases z))]; exact q
theorem Tp.new {H : Hp} {p : Addr} (h : H p = none) (o : HO) : Tp H (upd H p o) := same_tp (same_new h o)
end L3
set_option Elab.async false
set_option linter.all false
set_option maxRecDepth 100000
set_option maxHeartbeats 1000000
namespace L4
open PySem PySem.Spec PyProof.Rows L2 L3
section
variable {X : Cx} {pins : List (Addr × Obj)} {σ : L2.St} {H : Hp} {s s' : Shared}
theorem inv_moved {wr : List Addr} {g : Nat} (I : Inv X pins σ H s) (hm : Moved wr (GenOnlyQ g) s s') (hw : ∀ b ∈ wr, FpOk X pins H b) : Inv X pins σ H s' := by
  have hg := I.bare.movedS hm
  have hh := hm.heap
  have ho := hm.os
  obtain ⟨h', gs, d, t, os'⟩ := s'
  have ho : os' = s.os := ho
  subst ho
  have nw : ∀ b o, H b = some o → b ∉ wr := fun b o e hb => by rw [(hw b hb).1] at e; cases e
  refine I.step (ch := wr) (fun b hb => ?_) (fun b o _ _ hb e _ => hh b o hb e) (fun b o _ _ hb e _ => ⟨o.slots, hh b o hb e⟩) (fun b o _ _ n => n) (fun b o hb e => ⟨o, hh b o hb e⟩) (fun _ _ e => e) (fun _ _ _ e => e) (fun b ps e => ⟨#[], by rw [e]; simp⟩)
    (fun m hn => hn.at' fun o e => hh _ o (fun z => (hw _ z).2.1 rfl) e) (fun a o e => (I.hok a o e).stay (fun b u hb q => hh b u ?_ q) (fun _ q => q) fun _ _ q => q) hg
  · obtain ⟨_, h1, _, h3, h4, h5⟩ := hw b hb
    exact ⟨h3, h1, h4, h5⟩
  · rcases hb with rfl | hb
    · exact nw _ _ e
    · exact nw _ _ hb
theorem inv_grown {h' : Heap} {g' : Array GenState} {tk : Nat} (I : Inv X pins σ H s) (hk : ∀ b o, s.heap.get? b = some o → h'.get? b = some o) (hg : AllBare g') : Inv X pins σ H { s with heap := h', gens := g', toks := tk } :=
  I.step (ch := []) (fun b hb => by cases hb) (fun b o _ _ _ e _ => hk b o e) (fun b o _ _ _ e _ => ⟨o.slots, hk b o e⟩) (fun b o _ _ n => n) (fun b o _ e => ⟨o, hk b o e⟩) (fun _ _ e => e) (fun _ _ _ e => e) (fun b ps e => ⟨#[], by rw [e]; simp⟩)
    (fun m hn => hn.at' fun o e => hk _ o e) (fun a o e => (I.hok a o e).stay (fun b u _ q => hk b u q) (fun _ q => q) fun _ _ q => q) hg
theorem inv_tbl {P : Addr} {ps more : Array Value} {h' : Heap} {tk : Nat} (I : Inv X pins σ H s) (ht : H P = some (.tbl ps)) (hx : ∀ b o, b ≠ P → s.heap.get? b = some o → h'.get? b = some o)
    (hp : h'.get? P = some { cls := .none, data := .fields (ps ++ more) }) : Inv X pins σ (upd H P (.tbl (ps ++ more))) { s with heap := h', toks := tk } := by
  have nP : ∀ b, H b = none → b ≠ P := fun b e z => by rw [z, ht] at e; cases e
  refine I.step (ch := []) (g' := s.gens) (d' := s.drawn) (fun b hb => by cases hb) (fun b o _ _ _ e n => hx b o (nP b n) e) (fun b o _ _ _ e n => ⟨o.slots, hx b o (nP b n) e⟩) (fun b o _ e n => by rw [upd_ne (nP b n)]; exact n) (fun b o _ e => ?_)
    (fun b xs e => ?_) (fun b o u e => ?_) (fun b qs e => ?_) (fun m hn => hn.at' fun o e => hx _ o (nP _ I.free) e) (fun b o e => ?_) I.bare
  · by_cases z : b = P
    · exact ⟨_, by rw [z]; exact hp⟩
    · exact ⟨o, hx b o z e⟩
  · rw [upd_ne (ne_of e ht (by intro z; cases z))]; exact e
  · rw [upd_ne (ne_of e ht (by intro z; cases z))]; exact e
  · by_cases z : b = P
    · subst z; rw [ht] at e; cases e; exact ⟨more, upd_same⟩
    · exact ⟨#[], by rw [upd_ne z, e]; simp⟩
  · by_cases z : b = P
    · subst z; rw [upd_same] at e; cases e; exact hp
    · rw [upd_ne z] at e
      refine (I.hok b o e).stay (fun c u hc q => hx c u ?_ q) (fun c q => by rw [upd_ne (ne_of q ht (by intro z; cases z))]; exact q) fun c xs q => by rw [upd_ne (ne_of q ht (by intro z; cases z))]; exact q
      rcases hc with rfl | hc
      · exact z
      · exact ne_of hc ht (by intro z; cases z)
theorem upd_id {H : Hp} {P : Addr} {o : HO} (h : H P = some o) : upd H P o = H := by
  funext b
  unfold upd
  split
  · rename_i e; rw [e, h]
  · rfl
theorem ge_code {c P : Addr} {ps : Array Value} {pos : Pos} {qualname : Str} {scope : Scope} {Q : Value → Shared → Prop} {E : Value → Shared → Prop} (I : Inv X pins σ H s) (hc : X.env.code = .ref c) (hd : PySem.W.CodeHd X.base c P)
    (ht : H P = some (.tbl ps)) (tr : TriplesOk ps.toList)
    (h : ∀ code ps' s', TriplesOk ps'.toList → Inv X pins σ (upd H P (.tbl ps')) s' → (∀ b o, b ≠ P → s.heap.get? b = some o → s'.heap.get? b = some o) → s.heap.objs.size ≤ s'.heap.objs.size → Q code s') :
    wpAny (model X.prog X.w) X.A (genexprCode X.env pos qualname scope) Q E s := by
  have hP : s.heap.get? P = some (PySem.W.tabObj ps) := I.hok P _ ht
  have hd := hd.keeps I.bk
  cases q : codeAmong pos ps.toList with
  | some c' => exact wpAny_genexprCode_hit hc (hd.code hP tr) q (h c' ps s tr (by rw [upd_id ht]; exact I) (fun _ _ _ e => e) (Nat.le_refl _))
  | none =>
    refine wpAny_genexprCodeX hc (hd.code hP tr) (hd.tab hP) q fun c' h' tk hx hge hlt hcode _ htab _ => ?_
    refine h (.ref c') _ _ ?_ (inv_tbl I ht (fun b o n e => hx b o n e) htab.2) (fun b o n e => hx b o n e) (Nat.le_trans hge (Nat.le_of_lt hlt))
    obtain ⟨o, vs, file, tf, flags, tg, inF, text, tt, op, e1, e2, e3, e4, e5, e6, e7, e8, e9, e10, _⟩ := hcode
    exact e10
def Src (prog : Program) (w : World) (P : Addr) (s1 : Shared) (u : Value) (n : Nat) (Pi : Nat → Value → Prop) : Prop :=
  ∀ (A : Around) (Q : Value → Shared → Prop) (E : Value → Shared → Prop), (∀ (o : Obj) (fp : List Addr) (St : Nat → Heap → Prop), (∀ A' : Around, A'.handled = none → Walks prog w A' s1.heap.objs.size fp [s1.heap.objs.size] n Pi St) → St 0 (s1.heap.push o) →
    (∀ b ∈ fp, b < s1.heap.objs.size + 1) → P ∉ fp → Q (.ref s1.heap.objs.size) { s1 with heap := s1.heap.push o }) → wpAny (model prog w) A (pyIter u) Q E s1
theorem src_str {prog : Program} {w : World} {P : Addr} {s1 : Shared} {z : Str} {t : Tok} (hP : P < s1.heap.objs.size) : Src prog w P s1 (.str z t) z.cps.size (SignAt z) := by
  intro A Q E h
  refine wpAny_pyIter_str fun o St W hst => h o _ St W hst (fun b hb => ?_) (fun hb => ?_)
  · rw [List.mem_singleton.mp hb]; exact Nat.lt_succ_self _
  · rw [List.mem_singleton.mp hb] at hP; exact Nat.lt_irrefl _ hP
def QEl (X : Cx) (P : Addr) (s1 : Shared) (scope : Scope) (cl : List (Str × Addr)) (x : Str) (elt : Expr) (Pi F : Nat → Value → Prop) : Prop :=
  ∀ (C : Addr) (code : Value) (A' : Around) (E' : Value → Shared → Prop) (i : Nat) (v : Value) (t : Shared) (m₂ : Str → Option Value), A'.handled = none → A'.depth ≤ X.A.depth + 1 → A'.units ≤ X.A.units + 8 → Pi i v → t.heap.Ns C m₂ → m₂ x = some v →
    (∀ b o, b ≠ P → s1.heap.get? b = some o → t.heap.get? b = some o) →
    wpAny (model X.prog X.w) A' (eval elt (genEnv scope cl C code builtinsNs X.env)) (fun y s₃ => F i y ∧ Keeps t s₃) E' t
def GenW (X : Cx) (pins : List (Addr × Obj)) (H : Hp) (a : Addr) (n : Nat) (F : Nat → Value → Prop) (s : Shared) : Prop :=
  ∃ fp wr g St, WalksS X.prog X.w X.A.in4 a fp wr (GenOnlyQ g) n F St ∧ St 0 s ∧ (∀ i s', St i s' → s'.TypeIs (.ref a) "generator") ∧ a ∈ fp ∧ (∀ b ∈ fp, b < s.heap.objs.size) ∧ ∀ b ∈ wr, FpOk X pins H b
theorem passing_all (n : Nat) : passing (fun _ => true) n 0 = List.range n := by simp [passing]
theorem ge_make {elt iter : Expr} {x : Str} {px gpos : Pos} {scope : Scope} {cl : List (Str × Addr)} {c P bm : Addr} {ob : Obj} {ti : TE} {Q : Value → Shared → Prop} (I : Inv X pins σ H s) (hi : PE X iter ti) (hcalm : X.calm = true)
    (hco : scope.isCoroutine = false) (hclos : closureFor scope X.env = pure cl) (hcell : ∀ y ∈ scope.names, y.2 ≠ .cell) (h0 : scope.names.lookup (".0" : Str) = some NameKind.local) (hx : scope.names.lookup x = some .local) (hkind : scope.kind = .function)
    (hroom : X.A.depth < recursionLimit) (hc : X.env.code = .ref c) (hd : PySem.W.CodeHd X.base c P) (bmod : BMod X.base mainGlobals X.mg bm ob) (hs : ∀ x, genFold iter X.env x = pure x)
    {R : V → Hp → Prop} (h : ti σ H R)
    (hR : ∀ v H1, R v H1 → ∃ (ps : Array Value) (n : Nat) (F : Nat → Value → Prop), H1 P = some (.tbl ps) ∧ TriplesOk ps.toList ∧
      (∀ s1 u, Inv X pins σ H1 s1 → RelV v u → ∃ Pi, Src X.prog X.w P s1 u n Pi ∧ QEl X P s1 scope cl x elt Pi F) ∧
      ∀ ps' a s5, TriplesOk ps'.toList → Inv X pins σ (upd H1 P (.tbl ps')) s5 → GenW X pins (upd H1 P (.tbl ps')) a n F s5 → Q (.ref a) s5) :
    wpAny (model X.prog X.w) X.A (eval (.GeneratorExp elt [⟨.Name x px, iter, [], 0⟩] scope gpos) X.env) Q X.xe s := by
  refine wpAny_GeneratorExp_walksQD (I.ok.hd hcalm) hco hclos hcell h0 hx hkind hroom (thn (hi pins s σ H _ I h) fun u s1 ⟨v, H1, I1, r1, q1⟩ => ?_) hs
  obtain ⟨ps, n, F, ht, tr, hsq, hQ⟩ := hR v H1 q1
  obtain ⟨Pi, src, el⟩ := hsq s1 u I1 r1
  have hPlt : P < s1.heap.objs.size := I1.hok.lt ht
  refine src X.A _ _ fun o fp St W hst hfp hPf => ?_
  have I2 : Inv X pins σ H1 { s1 with heap := s1.heap.push o } := I1.kept (t' := s1.toks) fun b ob e => Heap.get?_push_of_some _ e
  refine ⟨I2.nolimit, ge_code I2 hc hd ht tr fun code ps' s3 tr' I3 k3 z3 => ?_⟩
  have kb : ∀ b o, X.base.get? b = some o → s3.heap.get? b = some o := I3.bk
  have B := bmod.keeps kb
  rw [I3.ok.glob]
  refine wpAny_builtinsFor B.ns B.name B.ne B.obj B.cls B.dict B.data ?_
  have z1 : s1.heap.objs.size + 1 ≤ s3.heap.objs.size := by
    have e : ({ s1 with heap := s1.heap.push o } : Shared).heap.objs.size = s1.heap.objs.size + 1 := Heap.size_push ..
    rw [← e]; exact z3
  have k13 : ∀ b o', b ≠ P → s1.heap.get? b = some o' → s3.heap.get? b = some o' := fun b o' n e => k3 b o' n (Heap.get?_push_of_some _ e)
  have hcs : cStatics < s1.heap.objs.size := let ⟨_, hn, _⟩ := I1.nolimit; hn.lt
  refine ⟨s1.heap.objs.size, fp, [s1.heap.objs.size], n, Pi, St, fun _ => true, F, rfl, W, (W X.A (I.ok.hd hcalm)).frame _ _ _ hst (fun b hb o' e => k3 b o' (fun z => hPf (z ▸ hb)) e), (fun b hb => Nat.lt_of_lt_of_le (hfp b hb) z1), I3.nolimit, (fun z => by rw [List.mem_singleton.mp z] at hcs; exact Nat.lt_irrefl _ hcs),
    (fun href hhref => ⟨fun A' E' i v t m₂ hA _ _ hP hn hm hk => ?_, fun A' E' i v t m₂ hA hD hU hP _ hn hm hk => ?_⟩), fun a h5 tk gs hgb hag hsz5 hk5 WS hat => ?_⟩
  · rw [List.forIn_nil]
    exact wpAny_pure ⟨rfl, _, _, rfl, fun _ _ e => e⟩
  · refine el _ code A' E' i v t m₂ hA hD hU hP hn hm fun b o' nb e => hk b ?_ ?_ o' (hhref b o' (k13 b o' nb e))
    · exact List.mem_range.mpr (Nat.lt_of_lt_of_le (Heap.lt_size e) (Nat.le_of_succ_le z1))
    · intro z; have q := Heap.lt_size e; rw [List.mem_singleton.mp z] at q; exact Nat.lt_irrefl _ q
  · have hn1 : ∀ b, s1.heap.objs.size ≤ b → upd H1 P (.tbl ps') b = none := fun b hb => by
      rw [upd_ne (fun z => by rw [z] at hb; exact Nat.lt_irrefl _ (Nat.lt_of_lt_of_le hPlt hb))]
      exact I1.hok.fresh hb
    have I5 : Inv X pins σ (upd H1 P (.tbl ps')) { s3 with gens := s3.gens.push gs, toks := tk, heap := h5 } := inv_grown I3 hk5 (I3.bare.push hgb)
    rw [passing_all, List.length_range] at WS
    have WS2 := WS.imp (P' := F) fun j y hy => by
      obtain ⟨i, e, f⟩ := hy
      have : j = i := by
        have q := List.getElem?_eq_some_iff.mp e
        obtain ⟨_, q⟩ := q
        simpa using q
      rw [this]; exact f
    refine hQ ps' a _ tr' I5 ⟨_, _, _, _, WS2, hat, (fun i s' st => st.1.typeIs), List.mem_cons_self, ?_, ?_⟩
    · intro b hb
      show b < h5.objs.size
      rw [hsz5]
      rcases List.mem_cons.mp hb with rfl | hb
      · exact Nat.lt_succ_self _
      · rcases List.mem_cons.mp hb with rfl | hb
        · exact Nat.lt_succ_of_lt hag
        · exact Nat.lt_succ_of_lt (Nat.lt_trans (List.mem_range.mp hb) hag)
    · intro b hb
      rcases List.mem_cons.mp hb with rfl | hb
      · exact I1.fpOk (Nat.le_of_succ_le z1) (hn1 _ (Nat.le_of_succ_le z1))
      · rw [List.mem_singleton.mp hb]
        exact I1.fpOk (Nat.le_refl _) (hn1 _ (Nat.le_refl _))
theorem any_fin {a : Addr} {n : Nat} {F : Nat → Value → Prop} {Q : Value → Shared → Prop} {E : Value → Shared → Prop} (I : Inv X pins σ H s) (G : GenW X pins H a n F s) (tr : Nat → Bool) (htr : ∀ j v, F j v → v = .bool (tr j))
    (h : ∀ s', Inv X pins σ H s' → Q (.bool ((List.range n).any tr)) s') : wpAny (model X.prog X.w) X.A (call (.builtin "any") [.ref a]) Q E s := by
  obtain ⟨fp, wr, g, St, W, hst, hT, ha, hfp, hwr⟩ := G
  have W := W.in4_1
  exact call_any_walkS (W.self 0 _ _ _ hst ⟨a, _, _, _, _, _, _, tr, rfl, W, hst, (fun i v s Q E hv hq => by rw [htr i v hv]; exact wpAny_truthy_bool hq), fun s' hm => h s' (inv_moved I hm hwr)⟩)
theorem base_at {P : Addr} {ps : Array Value} {t : Shared} (I : Inv X pins σ H s) (ht : H P = some (.tbl ps)) (hk : ∀ b o, b ≠ P → s.heap.get? b = some o → t.heap.get? b = some o) : ∀ b o, X.base.get? b = some o → t.heap.get? b = some o := fun b o e => by
  obtain ⟨e1, e2⟩ := I.bs b o e
  exact hk b o (fun z => by rw [z, ht] at e2; cases e2) e1
def tAnyS (P : Addr) (ti : TE) (f : Nat → Bool) : TE := fun σ H Q => ti σ H fun v H1 => ∃ z ps, v = .str z ∧ H1 P = some (.tbl ps) ∧ TriplesOk ps.toList ∧ ∀ ps', TriplesOk ps'.toList → Q (.bl (z.cps.toList.any f)) (upd H1 P (.tbl ps'))
theorem any_list (xs : Array Nat) (f : Nat → Bool) : (List.range xs.size).any (fun j => f (xs.getD j 0)) = xs.toList.any f := by
  have e : xs.toList = (List.range xs.size).map fun j => xs.getD j 0 := by
    apply List.ext_getElem
    · simp
    · intro i h1 h2
      simp at h1
      simp [h1]
  rw [e, List.any_map]; rfl
theorem pe_anyS {iter elt : Expr} {x : Str} {px gpos p pos : Pos} {scope : Scope} {cl : List (Str × Addr)} {c P bm : Addr} {ob : Obj} {ti : TE} {f : Nat → Bool} (hi : PE X iter ti) (hg : Gl X "any") (hm : X.mg "any" = none) (hcalm : X.calm = true)
    (hco : scope.isCoroutine = false) (hclos : closureFor scope X.env = pure cl) (hcell : ∀ y ∈ scope.names, y.2 ≠ .cell) (h0 : scope.names.lookup (".0" : Str) = some NameKind.local) (hx : scope.names.lookup x = some .local) (hkind : scope.kind = .function)
    (hroom : X.A.depth < recursionLimit) (hc : X.env.code = .ref c) (hd : PySem.W.CodeHd X.base c P) (bmod : BMod X.base mainGlobals X.mg bm ob) (hs : ∀ x, genFold iter X.env x = pure x)
    (el : ∀ pins σ H1 s1 ps, Inv X pins σ H1 s1 → H1 P = some (.tbl ps) → ∀ z : Str, QEl X P s1 scope cl x elt (SignAt z) (fun i y => ∃ ch, z.cps[i]? = some ch ∧ y = .bool (f ch)))
    (he : starEach [.GeneratorExp elt [⟨.Name x px, iter, [], 0⟩] scope gpos] X.env = [(false, eval (.GeneratorExp elt [⟨.Name x px, iter, [], 0⟩] scope gpos) X.env)] := by rfl) :
    PE X (.Call (.Name "any" p) [.GeneratorExp elt [⟨.Name x px, iter, [], 0⟩] scope gpos] [] pos) (tAnyS P ti f) := by
  intro pins s σ H Q I h
  refine wpAny_Call_Name_kw (ld_blt I hg hm boot_any ?_)
  refine PyProof.Rows.callWith_builtin1 ?_ he rfl
  rw [he]
  refine Calls.spliced_cons (ge_make I hi hcalm hco hclos hcell h0 hx hkind hroom hc hd bmod hs h fun v H1 q1 => ?_)
  obtain ⟨z, ps, rfl, ht, tr, q⟩ := q1
  refine ⟨ps, z.cps.size, fun i y => ∃ ch, z.cps[i]? = some ch ∧ y = .bool (f ch), ht, tr, fun s1 u I1 r1 => ?_, fun ps' a s5 tr' I5 G => Calls.spliced_nil (any_fin I5 G (fun j => f (z.cps.getD j 0)) (fun j v hv => ?_) fun s' I' => ⟨.bl _, _, I', rfl, ?_⟩)⟩
  · obtain ⟨t, rfl⟩ := r1
    exact ⟨_, src_str (I1.hok.lt ht), el pins σ H1 s1 ps I1 ht z⟩
  · obtain ⟨ch, e, rfl⟩ := hv
    have e2 : z.cps.getD j 0 = ch := by simp [Array.getD_eq_getD_getElem?, e]
    rw [e2]
  · rw [any_list]; exact q ps' tr'
def tJoinI (P : Addr) (to ti : TE) (f : Int → Str) (ok : Int → Prop) : TE := fun σ H Q => to σ H fun x H1 => ∃ a, x = .str a ∧ ti σ H1 fun v H2 => ∃ (l : Addr) (ns : List Int) (ps : Array Value), v = .ref l ∧ H2 l = some (.tup (ns.map V.int)) ∧ (∀ n ∈ ns, ok n) ∧ H2 P = some (.tbl ps) ∧ TriplesOk ps.toList ∧
  JoinOk a (ns.map f) = true ∧ ∀ ps', TriplesOk ps'.toList → Q (.str (Txt.join a (ns.map f))) (upd H2 P (.tbl ps'))
section
variable {P C : Addr} {ps : Array Value} {scope : Scope} {cl : List (Str × Addr)} {code : Value} {A' : Around} {E' : Value → Shared → Prop} {t : Shared} {m₂ : Str → Option Value} {Q : Value → Shared → Prop}
theorem ge_loc {x : Str} {v : Value} {pos : Pos} (hkind : scope.kind = .function) (hx : scope.names.lookup x = some .local) (hn : t.heap.Ns C m₂) (hm : m₂ x = some v) (h : Q v t) (hd : (x == ("__debug__" : Str)) = false := by decide) :
    wpAny (model X.prog X.w) A' (eval (.Name x pos) (genEnv scope cl C code builtinsNs X.env)) Q E' t := wpAny_Name (wpAny_loadName_local hkind hx hn hm h) hd
theorem ge_glob {x : Str} {u : Value} {pos : Pos} (I : Inv X pins σ H s) (hb : ∀ b o, X.base.get? b = some o → t.heap.get? b = some o) (hkind : scope.kind = .function) (hx : scope.names.lookup x = some .globalImplicit) (hm : X.mg x = some u) (h : Q u t) (hd : (x == ("__debug__" : Str)) = false := by decide) :
    wpAny (model X.prog X.w) A' (eval (.Name x pos) (genEnv scope cl C code builtinsNs X.env)) Q E' t :=
  Calls.Name_function_global hkind hx (Calls.loadGlobal_global (by show t.heap.Ns X.env.globals X.mg; rw [I.ok.glob]; exact I.mod.glob.keeps hb) hm h) hd
end
theorem el_notin {P : Addr} {ps : Array Value} {scope : Scope} {cl : List (Str × Addr)} {x g : Str} {p1 p2 p3 : Pos} {T : Str} {tk : Tok} (hkind : scope.kind = .function) (hx : scope.names.lookup x = some .local) (hg : scope.names.lookup g = some .globalImplicit) (hm : X.mg g = some (.str T tk))
    (hd : (x == ("__debug__" : Str)) = false) (hd2 : (g == ("__debug__" : Str)) = false) :
    Inv X pins σ H s → H P = some (.tbl ps) → ∀ z : Str, QEl X P s scope cl x (.Compare (.Name x p1) [.NotIn] [.Name g p2] p3) (SignAt z) (fun i y => ∃ ch, z.cps[i]? = some ch ∧ y = .bool (!decide (ch ∈ T.cps.toList))) := by
  intro I ht z C code A' E' i v t m₂ hA hD hU hP hn hmx hk
  obtain ⟨ch, u, e, rfl⟩ := hP
  refine wpAny_Compare1 (ge_loc hkind hx hn hmx (ge_glob I (base_at I ht hk) hkind hg hm ?_ hd2) hd) rfl
  refine PyProof.Rows.notIn_str ⟨⟨ch, e, ?_⟩, _, _, rfl, fun _ _ e => e⟩
  rw [PySem.StrLaws.found_one]
end
end L4
set_option Elab.async false
set_option linter.all false
set_option maxRecDepth 100000
set_option maxHeartbeats 1000000
namespace L4
open PySem PySem.Spec PyProof.Rows L2 L3
def BaseX (tabs : List (Addr × Addr)) (mg : Str → Option Value) (base : Heap) : Prop := (∃ bm ob, BMod base mainGlobals mg bm ob) ∧ ∀ q ∈ tabs, PySem.W.CodeHd base q.1 q.2
theorem law_callT {P : Program} {w : World} {K : PySem.W.Frag} {mg mb : Str → Option Value} {k : Nat} {fa a : Addr} {fd : FuncData} {x : Str} {sp : Sp} {s₁ : Shared} {vs : List Value} {ns : List Int} (tabs : List (Addr × Addr))
    (KX : K.In s₁.heap) (hns : s₁.heap.Ns mainGlobals mg) (hb : s₁.heap.Ns builtinsNs mb) (hbb : ∀ x : Str, x ≠ "__name__" → mb x = bootBuiltins x) (hlim : s₁.heap.NoLimit) (hg : s₁.gens = #[])
    (ha : s₁.heap.get? a = some { cls := .type "list", data := .seq vs.toArray }) (hi : IntsAre vs ns) (hl : ns.length ≤ sizeLine) (hr : Room k callerA)
    (hT : ∀ q ∈ tabs, s₁.heap.IsCode q.1 q.2 #[] ∧ s₁.heap.TableAt q.1 q.2 #[]) (hcl : PySem.W.kb_classed K = true) (hbm : ∃ bm ob, BMod s₁.heap mainGlobals mg bm ob)
    (F : ∀ base : Heap, K.In base → base.Ns mainGlobals mg → BaseX tabs mg base → FnOk P w K mg base CX0 k fa fd [x] sp) (hbind : ∀ (s : Shared) (u : Value), BindsTo s fd ⟨[u], []⟩ [(x, u)])
    (hsp : ∀ H : Hp, (∀ q ∈ tabs, H q.2 = some (.tbl #[])) → SqL K H a (ns.map V.int) → sp [.ref a] H (fun v _ => v = .bl true) fun _ _ _ => False) :
    codeAny (model P w) callerA (.call (.ref fa) ⟨[.ref a], []⟩) (fun r s' => r = .ok (.ret (.bool true)) ∧ OldK s₁.heap s'.heap ∧ s'.os = s₁.os ∧ AllBare s'.gens) s₁ := by
  have rv := vals_ints hi
  have lenV := hi.length
  have tab : ∀ q ∈ tabs, s₁.heap.get? q.2 = some (PySem.W.tabObj #[]) := fun q hq => (hT q hq).2.2
  have core : ∀ H : Hp, (∀ b u, H b = some u → (b = a ∧ ∃ xs, u = .frz { cls := .type "list", data := .seq vs.toArray } (.lst xs)) ∨ (u = .tbl #[] ∧ ∃ q ∈ tabs, q.2 = b)) → (∀ q ∈ tabs, H q.2 = some (.tbl #[])) → SqL K H a (ns.map V.int) → HOk P w H s₁.heap → (H a ≠ none → K.lookup a = none) →
      codeAny (model P w) callerA (.call (.ref fa) ⟨[.ref a], []⟩) (fun r s' => r = .ok (.ret (.bool true)) ∧ OldK s₁.heap s'.heap ∧ s'.os = s₁.os ∧ AllBare s'.gens) s₁ := by
    intro H hO hTb hS hok hK
    have base_of : ∀ {b : Addr} {o : Obj}, s₁.heap.get? b = some o → H b = none → (hidT s₁.heap H).get? b = some o := fun e n => hidT_get e n
    -- what is tracked is the script, or a table
    have trk : ∀ {b : Addr} {o : Obj}, s₁.heap.get? b = some o → H b ≠ none → (b = a ∧ o = { cls := .type "list", data := .seq vs.toArray }) ∨ o = PySem.W.tabObj #[] := fun {b o} e n => by
      cases q : H b with
      | none => exact absurd q n
      | some u =>
        rcases hO b u q with ⟨rfl, _⟩ | ⟨_, r, hr, rfl⟩
        · rw [ha] at e; cases e; exact .inl ⟨rfl, rfl⟩
        · rw [tab r hr] at e; cases e; exact .inr rfl
    have none_of : ∀ {b : Addr} {o : Obj}, s₁.heap.get? b = some o → (o ≠ { cls := .type "list", data := .seq vs.toArray }) → o ≠ PySem.W.tabObj #[] → H b = none := fun {b o} e n1 n2 => by
      cases q : H b with
      | none => rfl
      | some u => exact ((trk e (by rw [q]; simp)).elim (fun z => n1 z.2) n2).elim
    have noA : ∀ {b : Addr} {o : Obj} {es : Array DictEntry} {ep : Nat}, s₁.heap.get? b = some o → o.data = .dict es ep → H b = none := fun {b o es ep} e d =>
      none_of e (fun z => by rw [z] at d; cases d) (fun z => by rw [z] at d; cases d)
    have nsK : ∀ {b : Addr} {m : Str → Option Value}, s₁.heap.Ns b m → (hidT s₁.heap H).Ns b m := fun {b m} ⟨o, es, ep, e, d, r⟩ => ⟨o, es, ep, base_of e (noA e d), d, r⟩
    have hKb : K.In (hidT s₁.heap H) := fun b o e => base_of (KX b o e) (by
      cases q : H b with
      | none => rfl
      | some u =>
        exfalso
        rcases trk (KX b o e) (by rw [q]; simp) with ⟨rfl, _⟩ | z
        · rw [hK (by rw [q]; simp)] at e; cases e
        · have m := List.all_eq_true.mp hcl (b, o) (PySem.W.kb_mem e)
          simp only [Bool.or_eq_true, decide_eq_true_eq, beq_iff_eq] at m
          rcases m with (m | m) | m
          · rw [z] at m; exact m rfl
          · obtain ⟨mc, ⟨o', es, ep, e1, e2, _⟩, _⟩ := hlim
            have e3 := KX b o e
            rw [m, e1] at e3; cases e3; rw [z] at e2; cases e2
          · obtain ⟨o', es, ep, e1, e2, _⟩ := hns
            have e3 := KX b o e
            rw [m, e1] at e3; cases e3; rw [z] at e2; cases e2)
    have hM : Mod K mg (hidT s₁.heap H) := ⟨hKb, nsK hns, ⟨mb, nsK hb, hbb⟩, let ⟨mc, h1, h2⟩ := hlim; ⟨mc, nsK h1, h2⟩⟩
    have hX : BaseX tabs mg (hidT s₁.heap H) := by
      refine ⟨?_, fun q hq => ?_⟩
      · obtain ⟨bm, ob, B⟩ := hbm
        exact ⟨bm, ob, nsK B.ns, B.name, B.ne, base_of B.obj (none_of B.obj (fun z => by have q := B.cls; rw [z] at q; injection q with q; exact absurd q (by decide)) (fun z => by have := B.cls; rw [z] at this; cases this)), B.cls, B.dict, B.data⟩
      · obtain ⟨o, vs', file, tf, flags, tg, inF, text, tt, e1, e2, r⟩ := PySem.W.CodeHd.of (hT q hq).1 (hT q hq).2
        exact ⟨o, vs', file, tf, flags, tg, inF, text, tt, base_of e1 (none_of e1 (fun z => by rw [z] at e2; injection e2 with q; exact absurd q (by decide)) (fun z => by rw [z] at e2; cases e2)), e2, r⟩
    have e0 : Env0 P w K mg (hidT s₁.heap H) callerA [] s₁ H := ⟨rfl, hM, fun b o e => of_hidT e, Nat.le_of_eq (hidT_size _ _), trivial, fun b hb => absurd (show b ∈ ([] : List Addr) from hb) (by simp), hok, .of_eq hg⟩
    refine codeAny_mono ((F _ hKb (nsK hns) hX).run callerA [] s₁ H ⟨[.ref a], []⟩ [.ref a] [.ref a] _ _ hr e0 (hbind s₁ (.ref a)) (.cons rfl .nil) (hsp H hTb hS)) fun r s' h => ?_
    cases r with
    | error e => exact False.elim h
    | ok fl =>
      cases fl with
      | next => exact False.elim h
      | brk => exact False.elim h
      | cont => exact False.elim h
      | ret u =>
        obtain ⟨v, H', os, bare, un, hok', r', q⟩ := h
        have q' : v = .bl true := q
        subst q'
        obtain rfl : u = Value.bool true := r'
        have old : ∀ b o, s₁.heap.get? b = some o → asItWas s₁.heap s'.heap b o ∧ ∃ o', s'.heap.get? b = some o' := fun b o e => by
          cases q : H b with
          | none =>
            have z := un.keep b o e q (by intro z; exact absurd (show b ∈ ([] : List Addr) from z) (by simp)) (by simp)
            exact ⟨.inl z, o, z⟩
          | some u =>
            rcases hO b u q with ⟨rfl, xs, rfl⟩ | ⟨rfl, r, hr, rfl⟩
            · have z2 := un.frzs _ _ _ q
              obtain ⟨e1, _⟩ := hok _ _ q
              obtain ⟨e2, _⟩ := hok' _ _ z2
              rw [e] at e1; cases e1
              exact ⟨.inl e2, _, e2⟩
            · obtain ⟨more, z2⟩ := un.tbls _ _ q
              have e2 : s'.heap.get? r.2 = some { cls := .none, data := .fields (#[] ++ more) } := hok' _ _ z2
              rw [tab r hr] at e; cases e
              exact ⟨.inr (.inl ⟨(hT r hr).2.isCodeTable, rfl, #[], more, rfl, e2⟩), _, e2⟩
        exact ⟨rfl, ⟨fun b o e => (old b o e).1, fun b o e => (old b o e).2⟩, os, bare⟩
  have naT : ∀ q ∈ tabs, q.2 ≠ a := fun q hq z => by
    have e := tab q hq
    rw [z, ha] at e; cases e
  have tabIn : ∀ b, (∃ q ∈ tabs, q.2 = b) ∨ ¬ ∃ q ∈ tabs, q.2 = b := fun b => Classical.em _
  cases hk : K.lookup a with
  | some o =>
    have e := KX a o hk
    rw [ha] at e
    cases e
    open Classical in
    refine core (fun b => if ∃ q ∈ tabs, q.2 = b then some (.tbl #[]) else none) (fun b u z => ?_) (fun q hq => if_pos ⟨q, hq, rfl⟩) (.inr ⟨_, vs.toArray, _, hk, rfl, rfl, rfl, by rw [List.size_toArray, lenV]; exact hl, by simpa using rv⟩) (fun b u z => ?_) (fun z => ?_)
    · by_cases c : ∃ q ∈ tabs, q.2 = b
      · have z' := (if_pos c).symm.trans z
        cases z'; exact .inr ⟨rfl, c⟩
      · have z' := (if_neg c).symm.trans z
        cases z'
    · by_cases c : ∃ q ∈ tabs, q.2 = b
      · have z' := (if_pos c).symm.trans z
        cases z'
        obtain ⟨q, hq, rfl⟩ := c
        exact tab q hq
      · have z' := (if_neg c).symm.trans z
        cases z'
    · exfalso
      apply z
      exact if_neg (fun ⟨q, hq, e⟩ => naT q hq e)
  | none =>
    open Classical in
    refine core (fun b => if b = a then some (.frz { cls := .type "list", data := .seq vs.toArray } (.lst (ns.map V.int))) else if ∃ q ∈ tabs, q.2 = b then some (.tbl #[]) else none) (fun b u z => ?_) (fun q hq => (if_neg (naT q hq)).trans (if_pos ⟨q, hq, rfl⟩)) (.inl (.inr ⟨{ cls := .type "list", data := .seq vs.toArray }, if_pos rfl⟩)) (fun b u z => ?_) fun _ => hk
    · by_cases hb : b = a
      · have z' := (if_pos hb).symm.trans z
        cases z'; exact .inl ⟨hb, _, rfl⟩
      · have z1 := (if_neg hb).symm.trans z
        by_cases c : ∃ q ∈ tabs, q.2 = b
        · have z' := (if_pos c).symm.trans z1
          cases z'; exact .inr ⟨rfl, c⟩
        · have z' := (if_neg c).symm.trans z1
          cases z'
    · by_cases hb : b = a
      · have z' := (if_pos hb).symm.trans z
        cases z'
        subst hb
        exact ⟨ha, by rw [List.length_map]; exact hl, vs, _, rv, ha⟩
      · have z1 := (if_neg hb).symm.trans z
        by_cases c : ∃ q ∈ tabs, q.2 = b
        · have z' := (if_pos c).symm.trans z1
          cases z'
          obtain ⟨q, hq, rfl⟩ := c
          exact tab q hq
        · have z' := (if_neg c).symm.trans z1
          cases z'
def Tabs (gnames : List Str) (mg : Str → Option Value) (h : Heap) : Prop := ∀ m ∈ gnames, ∃ a o fd c P, mg m = some (.ref a) ∧ h.get? a = some o ∧ o.data = .func fd ∧ fd.code = .ref c ∧ h.IsCode c P #[] ∧ h.TableAt c P #[]
theorem walk_ofT {l : PySem.W.OpenLaw} {n k : Nat} {q : Program} {loose : List Str} {XP : (Str → Option Value) → Heap → Prop} {YP : World → Heap → Prop} {d : DefRec} {K : Params → PySem.W.Frag} {x : Str} (gnames : List Str)
    (hn : l.most = some n) (hn2 : n ≤ sizeLine) (hdf : d.params.defaults = []) (hr : Room k callerA) (hY : ∀ (w : World) (h : Heap), YP w h → (K w.params).In h)
    (hgn : ∀ m ∈ gnames, ∃ e, (recsOf q).find? (fun e => e.name == m) = some e)
    (F : ∀ (w : World) (mg : Str → Option Value) (fa : Addr) (h : Heap), (K w.params).In h → h.Ns mainGlobals mg → mg d.name = some (.ref fa) → Tabs gnames mg h →
      ∃ (fd : FuncData) (tabs : List (Addr × Addr)) (sp : Sp), (∀ (s : Shared) (u : Value), BindsTo s fd ⟨[u], []⟩ [(x, u)]) ∧ (∀ r ∈ tabs, h.IsCode r.1 r.2 #[] ∧ h.TableAt r.1 r.2 #[]) ∧ PySem.W.kb_classed (K w.params) = true ∧
        (∀ base : Heap, (K w.params).In base → base.Ns mainGlobals mg → BaseX tabs mg base → FnOk l.prog w (K w.params) mg base CX0 k fa fd [x] sp) ∧
        ∀ (H : Hp) (a : Addr) (ns : List Int), ns.length ≤ n → (∀ r ∈ tabs, H r.2 = some (.tbl #[])) → SqL (K w.params) H a (ns.map V.int) → sp [.ref a] H (fun v _ => v = .bl true) fun _ _ _ => False) :
    PySem.W.WalkO q loose XP YP l.row.toRowW d [] (fun f vs => PySem.call f vs) := by
  refine Att.attach_call hn hdf fun w s₀ s₁ mg mb fa o pm cd doc a vs ns G Y ho hd hcd hmg hobj hints hlen hg => ?_
  have KX := hY w _ Y
  have tb : Tabs gnames mg s₁.heap := fun m hm => by
    obtain ⟨e, he⟩ := hgn m hm
    have hn' : e.name = m := beq_iff_eq.mp (List.find?_some (p := fun e : DefRec => e.name == m) he)
    obtain ⟨a', o', fd', c, P, h1, r⟩ := G.T.tab e (List.mem_of_find?_eq_some he)
    exact ⟨a', o', fd', c, P, by rw [← hn']; exact h1, r⟩
  obtain ⟨fd, tabs, sp, hb, ht, hcl, hF, hsp⟩ := F w mg fa _ KX G.T.g hmg tb
  exact law_callT tabs KX G.T.g G.T.b G.T.builtins G.T.nolimit hg hobj hints (Nat.le_trans hlen hn2) hr ht hcl (PySem.W.bmod_of_top G.T) hF hb fun H hO hS => hsp H a ns hlen hO hS
end L4
set_option Elab.async false
set_option linter.all false
set_option maxRecDepth 100000
set_option maxHeartbeats 1000000
namespace L4
open PySem PySem.Spec PyProof.Rows L2 L3
theorem fun_okC {P : Program} {w : World} {K : PySem.W.Frag} {mg : Str → Option Value} {base : Heap} {x qual : Str} {st : Stmt} {f c : Addr} {fd : FuncData} {N ps : List Str} {k : Nat} {sp : Sp} (F : Fun K x qual st f fd) (hcode : fd.code = .ref c) (S : FnScope N ps (defScope st)) (len : ∀ vs H Q E, sp vs H Q E → vs.length = ps.length)
    (hbody : ∀ (A : Around) (outer : List Env) (s : Shared) (H : Hp) (vs : List V) (Q : VK) (E : XK), Room k (A.deeper (envOfC qual (defScope st) s.heap.objs.size f (.ref c))) → sp vs H Q E →
      ∃ t, PSs (cxOf CX0 P w K mg base N qual (defScope st) f (.ref c) A outer s H E).nox (defBody st) t ∧ t { nx := fun _ H' => Q .non H', rt := Q } (start N vs) H) : FnOk P w K mg base CX0 (k + 1) f fd ps sp := by
  obtain ⟨oc, od, kV, doc, pm, an, cdv, ct, osl, rfl, lk, hcd⟩ := F.ex
  have e : cdv = .ref c := hcode
  subst e
  refine fn_of lk hcd S len fun A outer s H vs Q E hr hsp => ?_
  obtain ⟨t, h, q⟩ := hbody A outer s H vs Q E hr hsp
  exact ⟨t, h.nox, q⟩
section
variable {D : Ends} {σ : L2.St} {H : Hp} {Q : VK} {g : TG} {tb : TS} {ta : TA} {te to ti : TE} {K : PySem.W.Frag}
theorem rd_forE : tFor (iEnum K ta) g tb D σ H = ta σ H fun vs H1 => ∃ a xs, vs = [.ref a] ∧ SqL K H1 a xs ∧ ForW (Ite K a) g tb D σ H1 := rfl
theorem forW_enum {a : Addr} {xs : List V} (Pv : Nat → L2.St → Hp → Prop) (h0 : Pv 0 σ H) (hl : ∀ i σ H, i ≤ xs.length → Pv i σ H → H a = some (.lst xs))
    (hs : ∀ i x σ H T, xs[i]? = some x → Pv i σ H → H T = none → g (.ref T) σ (upd H T (.tup [.int (i : Nat), x])) fun σ2 H2 => tb { D with nx := Pv (i + 1), ct := Pv (i + 1), bk := D.nx } σ2 H2) (hd : ∀ σ H, Pv xs.length σ H → D.nx σ H) : ForW (Ite K a) g tb D σ H := by
  refine ⟨fun i m σ H => m = xs.length - i ∧ i ≤ xs.length ∧ Pv i σ H, ⟨xs.length, by simp, Nat.zero_le _, h0⟩, ?_⟩
  rintro i m σ H ⟨rfl, hi, p⟩
  have q : SqL K H a xs := SqL.of (hl i σ H hi p)
  by_cases hlt : i < xs.length
  · refine .inr ⟨⟨xs, xs[i], q, by simp [hlt]⟩, Pv (i + 1), fun σ' H' p' => ⟨xs.length - (i + 1), by omega, rfl, hlt, p'⟩, fun x H' y => ?_⟩
    obtain ⟨T, x, rfl, hT, rfl, hx⟩ := y
    exact hs i x σ H T (hx xs q) p hT
  · have e : i = xs.length := by omega
    subst e
    exact .inl ⟨⟨xs, q, Nat.le_refl _⟩, hd σ H p⟩
theorem lcW_tup {a A : Addr} {xs : List V} {vs : List Nat} {tt : TT} (Pv : Nat → Hp → Prop) (h0 : Pv 0 (upd H A (.lst []))) (hl : ∀ i H, i ≤ xs.length → Pv i H → H a = some (.tup xs))
    (hs : ∀ i x H, xs[i]? = some x → Pv i H → g x (wipe σ vs) H fun σ2 H2 => wipe σ2 vs = wipe σ vs ∧ tt σ2 H2 fun b H3 =>
      if b = true then te σ2 H3 fun y H4 => ∃ acc, H4 A = some (.lst acc) ∧ acc.length < sizeLine ∧ Pv (i + 1) (upd H4 A (.lst (acc ++ [y]))) else Pv (i + 1) H3) (hd : ∀ H, Pv xs.length H → Q (.ref A) H) : LcW (Itt K a) g tt te vs σ H A Q :=
  lc_tup (xs := xs) Pv h0 (fun i H h1 h2 => SqT.of (hl i H h1 h2)) hs hd
theorem rd_m1 {r : V → List V → Hp → VK → Prop} : tM1 r to te σ H Q = to σ H fun x H1 => (∃ a, x = .str a) ∧ te σ H1 fun y H2 => r x [y] H2 Q := rfl
theorem rd_isS {a : Str} : (∃ b, V.str a = V.str b) = True := eq_true ⟨a, rfl⟩
theorem rd_anyS {P : Addr} {f : Nat → Bool} : tAnyS P ti f σ H Q = ti σ H fun v H1 => ∃ z ps, v = .str z ∧ H1 P = some (.tbl ps) ∧ TriplesOk ps.toList ∧ ∀ ps', TriplesOk ps'.toList → Q (.bl (z.cps.toList.any f)) (upd H1 P (.tbl ps')) := rfl
theorem rd_joinI {P : Addr} {f : Int → Str} {ok : Int → Prop} : tJoinI P to ti f ok σ H Q = to σ H fun x H1 => ∃ a, x = .str a ∧ ti σ H1 fun v H2 => ∃ (l : Addr) (ns : List Int) (ps : Array Value), v = .ref l ∧ H2 l = some (.tup (ns.map V.int)) ∧ (∀ n ∈ ns, ok n) ∧ H2 P = some (.tbl ps) ∧ TriplesOk ps.toList ∧
  JoinOk a (ns.map f) = true ∧ ∀ ps', TriplesOk ps'.toList → Q (.str (Txt.join a (ns.map f))) (upd H2 P (.tbl ps')) := rfl
end
end L4
set_option Elab.async false
set_option linter.all false
set_option maxRecDepth 100000
set_option maxHeartbeats 1000000
namespace L4
open PySem PySem.Spec PyProof.Rows L2 L3
def DK (h h' : Heap) : Prop := ∀ (b : Nat) (o : Obj), h.objs[b]? = some o → ∃ o' : Obj, h'.objs[b]? = some o' ∧ o'.dict = o.dict
theorem DK.refl (h : Heap) : DK h h := fun b o e => ⟨o, e, rfl⟩
theorem DK.trans {h1 h2 h3 : Heap} (x : DK h1 h2) (y : DK h2 h3) : DK h1 h3 := fun b o e => by
  obtain ⟨o1, e1, d1⟩ := x b o e
  obtain ⟨o2, e2, d2⟩ := y b o1 e1
  exact ⟨o2, e2, d2.trans d1⟩
theorem DK.push (h : Heap) (o : Obj) : DK h (h.push o) := fun b ob e => by
  refine ⟨ob, ?_, rfl⟩
  obtain ⟨l, e1⟩ := Array.getElem?_eq_some_iff.mp e
  show (h.objs.push o)[b]? = some ob
  rw [Array.getElem?_push_lt l, e1]
theorem DK.update (h : Heap) (a : Addr) {f : Obj → Obj} (hf : ∀ o, (f o).dict = o.dict) : DK h (h.update a f) := fun b ob e => by
  show ∃ o' : Obj, (h.objs.modify a f)[b]? = some o' ∧ o'.dict = ob.dict
  rw [Array.getElem?_modify, e]
  split
  · exact ⟨f ob, rfl, hf ob⟩
  · exact ⟨ob, rfl, rfl⟩
theorem obj_of_get {h : Heap} {b : Addr} {o : Obj} (e : h.get? b = some o) : h.objs[b]? = some o := by
  unfold Heap.get? at e
  split at e
  · cases e
  · exact e
theorem DK.get {h h' : Heap} (x : DK h h') {b : Addr} {o o' : Obj} (e : h.get? b = some o) (e' : h'.get? b = some o') : o'.dict = o.dict := by
  obtain ⟨o2, e2, d⟩ := x b o (obj_of_get e)
  have := e2.symm.trans (obj_of_get e')
  cases this
  exact d
inductive CalmD {α : Type} : Sem α → Prop
  | pure (a : α) : CalmD (.pure a)
  | raise (e : Value) : CalmD (.raise e)
  | unsupported (w : String) : CalmD (.unsupported w)
  | rule (t : String) (k : Unit → Sem α) (h : ∀ x, CalmD (k x)) : CalmD (.rule t k)
  | at (p : Pos) (k : Unit → Sem α) (h : ∀ x, CalmD (k x)) : CalmD (.at p k)
  | load (a : Addr) (p : Option Value) (k : Obj → Sem α) (h : ∀ x, CalmD (k x)) : CalmD (.load a p k)
  | update (a : Addr) (p : Option Value) (f : Obj → Obj) (k : Unit → Sem α) (hf : ∀ o, (f o).dict = o.dict) (h : ∀ x, CalmD (k x)) : CalmD (.update a p f k)
  | alloc (o : Obj) (k : Addr → Sem α) (h : ∀ x, CalmD (k x)) : CalmD (.alloc o k)
  | alive (a : Addr) (k : Option Obj → Sem α) (h : ∀ x, CalmD (k x)) : CalmD (.loadIfAlive a k)
  | point (l : List Value) (k : Unit → Sem α) (h : ∀ x, CalmD (k x)) : CalmD (.point l k)
  | fresh (k : Tok → Sem α) (h : ∀ x, CalmD (k x)) : CalmD (.fresh k)
  | ask (k : Setting → Sem α) (h : ∀ x, CalmD (k x)) : CalmD (.ask k)
  | handled (o : Bool) (k : Option Value → Sem α) (h : ∀ x, CalmD (k x)) : CalmD (.handled o k)
  | stack (k : List (Code × Pos) → Sem α) (h : ∀ x, CalmD (k x)) : CalmD (.stack k)
  | thread (k : Nat → Sem α) (h : ∀ x, CalmD (k x)) : CalmD (.thread k)
  | register (a : Addr) (k : Unit → Sem α) : CalmD (.register a k)
theorem CalmD.bind {α β : Type} {t : Sem α} {k : α → Sem β} (ht : CalmD t) (hk : ∀ a, CalmD (k a)) : CalmD (t >>= k) := by
  show CalmD (Sem.bind t k)
  induction ht with
  | pure a => exact hk a
  | raise e => exact .raise e
  | unsupported w => exact .unsupported w
  | rule t k h ih => exact .rule _ _ ih
  | «at» p k h ih => exact .at _ _ ih
  | load a p k h ih => exact .load _ _ _ ih
  | update a p f k hf h ih => exact .update _ _ _ _ hf ih
  | alloc o k h ih => exact .alloc _ _ ih
  | alive a k h ih => exact .alive _ _ ih
  | point l k h ih => exact .point _ _ ih
  | fresh k h ih => exact .fresh _ ih
  | ask k h ih => exact .ask _ ih
  | handled o k h ih => exact .handled _ _ ih
  | stack k h ih => exact .stack _ ih
  | thread k h ih => exact .thread _ ih
  | register a k => exact .register _ _
theorem keepD {α : Type} {M : Model} {Γ : PySem.Ctx} {t : Sem α} (ht : CalmD t) : ∀ {Q : α → Pos → Shared → Prop} {E : Value → Pos → Shared → Prop} {p : Pos} {s : Shared}, Sem.wp M Γ t Q E p s → Sem.wp M Γ t (fun a p s' => Q a p s' ∧ DK s.heap s'.heap) E p s := by
  have mono : ∀ {α : Type} {t : Sem α} {Q Q' : α → Pos → Shared → Prop} {E : Value → Pos → Shared → Prop} {p : Pos} {s : Shared}, CalmD t → (∀ a p s, Q a p s → Q' a p s) → Sem.wp M Γ t Q E p s → Sem.wp M Γ t Q' E p s := by
    intro α t Q Q' E p s ht hq h
    induction ht generalizing p s with
    | pure a => exact hq _ _ _ h
    | raise e => exact h
    | unsupported w => exact h
    | rule t k h1 ih => exact ih _ h
    | «at» p k h1 ih => exact ih _ h
    | load a p k h1 ih => obtain ⟨o, e, h⟩ := h; exact ⟨o, e, ih _ h⟩
    | update a p f k hf h1 ih => exact ⟨h.1, ih _ h.2⟩
    | alloc o k h1 ih => exact ih _ h
    | alive a k h1 ih => exact ih _ h
    | point l k h1 ih => exact ih _ h
    | fresh k h1 ih => exact ih _ h
    | ask k h1 ih => exact ih _ h
    | handled o k h1 ih => exact ih _ h
    | stack k h1 ih => exact ih _ h
    | thread k h1 ih => exact ih _ h
    | register a k => exact h
  intro Q E p s h
  induction ht generalizing p s with
  | pure a => exact ⟨h, DK.refl _⟩
  | raise e => exact h
  | unsupported w => exact h
  | rule t k h1 ih => exact ih _ h
  | «at» p k h1 ih => exact ih _ h
  | load a p k h1 ih => obtain ⟨o, e, h⟩ := h; exact ⟨o, e, ih _ h⟩
  | update a p f k hf h1 ih => exact ⟨h.1, mono (h1 _) (fun a p s' ⟨q, d⟩ => ⟨q, (DK.update _ _ hf).trans d⟩) (ih _ h.2)⟩
  | alloc o k h1 ih =>
    have h2 := ih s.heap.objs.size (s := { s with heap := s.heap.push o }) (show Sem.wp M Γ (k s.heap.objs.size) Q E p { s with heap := s.heap.push o } from h)
    exact show Sem.wp M Γ (k s.heap.objs.size) _ E p { s with heap := s.heap.push o } from mono (h1 s.heap.objs.size) (fun a p s' ⟨q, d⟩ => ⟨q, (DK.push _ _).trans d⟩) h2
  | alive a k h1 ih => exact ih _ h
  | point l k h1 ih => exact ih _ h
  | fresh k h1 ih => exact ih _ h
  | ask k h1 ih => exact ih _ h
  | handled o k h1 ih => exact ih _ h
  | stack k h1 ih => exact ih _ h
  | thread k h1 ih => exact ih _ h
  | register a k => exact h
theorem wpAny_keepD {α : Type} {M : Model} {A : Around} {t : Sem α} {Q : α → Shared → Prop} {E : Value → Shared → Prop} {s : Shared} (ht : CalmD t) (h : wpAny M A t Q E s) : wpAny M A t (fun a s' => Q a s' ∧ DK s.heap s'.heap) E s := fun Γ p i => keepD ht (h Γ p i)
theorem cd_fields (v : Value) : CalmD (fieldsOf v) := by
  unfold fieldsOf
  cases v <;> try exact .unsupported _
  refine .load _ _ _ fun o => ?_
  show CalmD (match o.data with | .fields vs => _ | _ => _)
  split
  · exact .pure _
  · exact .unsupported _
theorem cd_field (v : Value) (i : Nat) : CalmD (field v i) := by
  unfold field
  refine (cd_fields v).bind fun vs => ?_
  split
  · exact .pure _
  · exact .unsupported _
theorem mapF_dict (f : Array Value → Array Value) (o : Obj) : (Obj.mapFields f o).dict = o.dict := by
  obtain ⟨c, d, data, sl⟩ := o
  cases data <;> rfl
theorem cd_setField (v : Value) (i : Nat) (x : Value) : CalmD (setField v i x) := by
  unfold setField
  cases v <;> try exact .unsupported _
  show CalmD (updateField _ _ _)
  unfold updateField
  refine CalmD.bind (.load _ _ _ fun o => .pure _) fun o => ?_
  split
  · split
    · exact .update _ _ _ _ (fun o => mapF_dict _ o) fun _ => .pure _
    · exact .unsupported _
  · exact .unsupported _
theorem cd_flight (e : Value) (f : Option Addr) : CalmD (setFlight e f) := by
  unfold setFlight
  refine (cd_field e 1).bind fun tb => ?_
  split
  · exact cd_setField _ _ _
  · exact .pure _
theorem cd_load (a : Addr) : CalmD (load a) := .load _ _ _ fun _ => .pure _
theorem cd_stack : CalmD stack := .stack _ fun _ => .pure _
theorem cd_newFields (ty : String) (vs : List Value) : CalmD (newFields ty vs) := by
  unfold newFields newObj
  dsimp only
  split
  · exact CalmD.unsupported _
  · unfold newObjAsIs
    refine CalmD.bind (.alloc _ _ fun _ => .pure _) fun _ => ?_
    exact .pure _
theorem cd_place (f : Addr) (b : Bool) : CalmD (entryPlaceOf f b) := by
  unfold entryPlaceOf
  refine cd_stack.bind fun acts => ?_
  split
  · exact .pure _
  · exact .pure _
theorem cd_behind (env : Env) (l : List Env) : CalmD (behindIsImport env l) := by
  unfold behindIsImport
  split
  · exact .pure _
  · split
    · exact .pure _
    · exact (cd_field _ _).bind fun _ => .pure _
theorem cd_ready : ∀ l : List Env, CalmD (readyFrames l)
  | [] => .pure _
  | env :: outer => by
    unfold readyFrames
    split
    · refine (cd_load _).bind fun o => ?_
      split
      · exact .pure _
      · refine (cd_behind _ _).bind fun b => ?_
        refine CalmD.bind ?_ fun back => ?_
        · cases outer with
          | nil =>
            show CalmD (if _ then _ else _)
            split
            · exact .pure _
            · refine CalmD.bind ?_ fun _ => .pure _
              unfold underTheClaimsCaller
              exact cd_stack.bind fun _ => .pure _
          | cons => exact .pure _
        · exact CalmD.bind (.update _ _ _ _ (fun _ => rfl) fun _ => .pure _) fun _ => cd_ready outer
    · exact .unsupported _
theorem cd_frame (env : Env) : CalmD (PySem.frameOf env) := by
  unfold PySem.frameOf
  refine CalmD.bind ?_ fun l => ?_
  · unfold frameEnvs
    exact cd_stack.bind fun _ => .pure _
  · refine CalmD.bind ?_ fun r => ?_
    · cases l.dropWhile (·.frame != env.frame)
      · exact .pure _
      · exact (cd_ready _).bind fun _ => .pure _
    · split
      · exact .pure _
      · exact .unsupported _
theorem cd_note (e : Value) (env : Env) : CalmD (noteFrame e env) := by
  unfold noteFrame
  split
  · refine (cd_field _ _).bind fun hd => ?_
    have last : ∀ f : Addr, CalmD (do let a ← PySem.frameOf env; let pl ← entryPlaceOf f (hd != .none); let b ← EntryCells.newEntry hd a .none (rawInt f) .none pl; setField e 1 b) := fun f => (cd_frame _).bind fun _ => (cd_place _ _).bind fun _ => (cd_newFields _ _).bind fun _ => cd_setField _ _ _
    split
    · refine (cd_field _ _).bind fun _ => ?_
      split
      · exact .pure _
      · exact (cd_setField _ _ _).bind fun _ => last _
    · exact last _
  · exact .unsupported _
theorem cd_leaving (env : Env) (e : Value) : CalmD (leaving env e) := by
  unfold leaving
  exact (cd_note _ _).bind fun _ => cd_flight _ _
end L4
set_option Elab.async false
set_option linter.all false
set_option maxRecDepth 100000
set_option maxHeartbeats 1000000
namespace L4
open PySem PySem.Spec PyProof.Rows L2 L3
structure Fly (h : Heap) (a T : Addr) (C t0 : Value) (d : Option Addr) : Prop where
  ne : T ≠ a
  exc : ∃ oe vs, h.get? a = some oe ∧ oe.cls = C ∧ oe.data = .fields vs ∧ vs[0]? = some t0 ∧ vs[1]? = some (.ref T) ∧ oe.dict = d
  ent : ∃ oT ts, h.get? T = some oT ∧ oT.data = .fields ts ∧ ts[3]? = some .none
def CX1 (P : Program) (w : World) : CXT := fun outer H s E e s' => ∃ (a T : Addr) (C t0 : Value) (d : Option Addr), e = .ref a ∧ s.heap.get? a = none ∧ s.heap.get? T = none ∧ Fly s'.heap a T C t0 d ∧ CE outer P w H s (fun _ H' => H' a = none ∧ H' T = none ∧ E C d H') (.ref a) s'
theorem ff_re {h h' base base' : Heap} : ∀ {l : List Env}, h.FunFrames base l → (∀ b ∈ frs l, base'.get? b = none) → (∀ b ∈ frs l, ∀ o, h.get? b = some o → ∃ sl, h'.get? b = some { o with slots := sl }) → h'.FunFrames base' l
  | [], _, _, _ => trivial
  | env :: rest, hl, hb, hk => by
    obtain ⟨h1, ⟨L, o, e1, e2, e3, e4⟩, h3⟩ := hl
    have hm : L ∈ frs (env :: rest) := by unfold frs; rw [List.filterMap_cons, e1]; exact List.mem_cons_self
    have hr : ∀ b ∈ frs rest, b ∈ frs (env :: rest) := fun b q => by
      unfold frs at q ⊢
      rw [List.filterMap_cons, e1]
      exact List.mem_cons_of_mem _ q
    obtain ⟨sl, e5⟩ := hk L hm o e3
    exact ⟨h1, ⟨L, _, e1, hb L hm, e5, e4⟩, ff_re h3 (fun b q => hb b (hr b q)) fun b q => hk b (hr b q)⟩
theorem obj_there {P : Program} {w : World} {H : Hp} {h : Heap} {a : Addr} : ∀ {o : HO}, ObjOk P w H h a o → ∃ ob, h.get? a = some ob
  | .lst xs, x => by obtain ⟨_, _, _, _, e⟩ := x; exact ⟨_, e⟩
  | .tup xs, x => by obtain ⟨_, _, _, o, e, _⟩ := x; exact ⟨o, e⟩
  | .dK kvs, x => by obtain ⟨_, _, _, _, o, _, _, e, _⟩ := x; exact ⟨o, e⟩
  | .dT kvs, x => by obtain ⟨_, _, _, _, o, _, _, e, _⟩ := x; exact ⟨o, e⟩
  | .set S n, x => by obtain ⟨o, _, _, _, e, _⟩ := x; exact ⟨o, e⟩
  | .ins C dx fs, x => by obtain ⟨_, _, _, e, _⟩ := x; exact ⟨_, e⟩
  | .own _, x => x
  | .xd fs, x => by obtain ⟨_, ⟨o, _, _, e, _⟩, _⟩ := x; exact ⟨o, e⟩
  | .rng lo hi, x => by obtain ⟨_, _, _, e⟩ := x; exact ⟨_, e⟩
  | .frz o u, x => ⟨o, x.1⟩
  | .tbl ps, x => ⟨_, x⟩
  | .met f y, x => ⟨_, x⟩
  | .ext φ, x => x.2.1
section
variable {P : Program} {w : World} {K : PySem.W.Frag} {mg : Str → Option Value} {base : Heap} {N : List Str} {qual : Str} {scope : Scope} {f : Addr} {cd : Value} {A : Around} {outer : List Env} {s0 s : Shared} {H0 H1 : Hp} {E : XK} {pins : List (Addr × Obj)} {σ : L2.St} {a T : Addr} {C t0 : Value} {dx : Option Addr}
theorem frames_at (hk : scope.kind = .function) (I : Inv (cxOf (CX1 P w) P w K mg base N qual scope f cd A outer s0 H0 E) pins σ H1 s) {base' : Heap} (hb : ∀ b ∈ frs (envOfC qual scope s0.heap.objs.size f cd :: outer), base'.get? b = none) :
    s.heap.FunFrames base' (envOfC qual scope s0.heap.objs.size f cd :: outer) := by
  have h2 : ∀ b ∈ frs outer, b ∈ frs (envOfC qual scope s0.heap.objs.size f cd :: outer) := fun b q => by
    unfold frs at q ⊢
    rw [List.filterMap_cons]
    split
    · exact q
    · exact List.mem_cons_of_mem _ q
  obtain ⟨m, hn, _⟩ := I.loc
  have hout : s.heap.FunFrames base' outer := ff_re I.ok.funs (fun b q => hb b (h2 b q)) fun b q o e => I.base.slot b o e (I.ok.frf b q) q (by intro z; exact absurd (show b ∈ ([] : List Addr) from z) (by simp))
  refine Heap.FunFrames.cons (L := s0.heap.objs.size) (m := m) ?_ rfl hn (hb _ ?_) hout
  · show scope.kind ≠ .module
    rw [hk]; intro z; cases z
  · unfold frs; rw [List.filterMap_cons]; exact List.mem_cons_self
theorem leave_new (hk : scope.kind = .function) (I : Inv (cxOf (CX1 P w) P w K mg base N qual scope f cd A outer s0 H0 E) pins σ H1 s) (n1 : s0.heap.get? a = none) (l1 : a ≠ s0.heap.objs.size) (h1 : H1 a = none) {oe : Obj} {vs : Array Value} (e1 : s.heap.get? a = some oe) (e2 : oe.cls = C) (e3 : oe.data = .fields vs) (e4 : vs[0]? = some t0) (e5 : vs[1]? = some .none) (e9 : oe.dict = dx) (q : E C dx H1) :
    (cxOf (CX1 P w) P w K mg base N qual scope f cd A outer s0 H0 E).xe (.ref a) s := by
  have hfr : (A.deeper (envOfC qual scope s0.heap.objs.size f cd)).frames = some (envOfC qual scope s0.heap.objs.size f cd :: outer) := I.ok.frames
  have ff0 := frames_at hk I (base' := PySem.W.hideAll s.heap (a :: frs (envOfC qual scope s0.heap.objs.size f cd :: outer))) fun b hb => PySem.W.hideAll_none _ (List.mem_cons_of_mem _ hb)
  have hfrm : ∀ b ∈ frs (envOfC qual scope s0.heap.objs.size f cd :: outer), b = s0.heap.objs.size ∨ b ∈ frs outer := fun b hb => by
    unfold frs at hb
    rw [List.filterMap_cons] at hb
    have hb : b ∈ s0.heap.objs.size :: outer.filterMap (·.frame) := hb
    exact List.mem_cons.mp hb
  show wpAny (model P w) (A.deeper (envOfC qual scope s0.heap.objs.size f cd)) (leaving (envOfC qual scope s0.heap.objs.size f cd) (.ref a)) (fun _ s'' => CX1 P w outer H0 s0 E (.ref a) s'') (fun e' s'' => CX1 P w outer H0 s0 E e' s'') s
  refine wpAny_mono (wpAny_keepD (cd_leaving _ _) (wpAny_leaving_firstW (Q := fun _ s'' => ∃ h', s'' = { s with heap := h' } ∧ Heap.LeftW (PySem.W.hideAll s.heap (a :: frs (envOfC qual scope s0.heap.objs.size f cd :: outer))) (envOfC qual scope s0.heap.objs.size f cd :: outer) a oe.cls t0 s.heap h') (L := s0.heap.objs.size) hfr ff0 rfl e1 (fun b o e => PySem.W.of_hideAll _ e) (PySem.W.hideAll_none _ List.mem_cons_self) e3 e5 e4 fun h' z => ⟨h', rfl, z⟩)) (fun _ s'' hs'' => ?_) fun _ _ z => z
  obtain ⟨⟨h', rfl, stay, ff', ⟨oe', vs', T', oT', ts', g1, ⟨g2, g4⟩, g3, g5, g0, gne, g6, g7, g8⟩, up⟩, dk⟩ := hs''
  rw [e2] at g2
  have g9 : oe'.dict = dx := (dk.get e1 g1).trans e9
  have keep : ∀ b o, b ≠ a → b ∉ frs (envOfC qual scope s0.heap.objs.size f cd :: outer) → s.heap.get? b = some o → h'.get? b = some o := fun b o x1 x3 e => stay b o (PySem.W.hideAll_get _ e fun z => (List.mem_cons.mp z).elim x1 x3)
  have nex : ∀ b : Addr, b ∉ ([] : List Addr) := fun b => by simp
  have nold : ∀ b o, s0.heap.get? b = some o → b ≠ s0.heap.objs.size := fun b o e => Nat.ne_of_lt (Heap.lt_size e)
  have tra : ∀ b o, H1 b = some o → b ≠ a := fun b o e z => by rw [z, h1] at e; cases e
  have na : ∀ b o, s0.heap.get? b = some o → b ≠ a := fun b o e z => by rw [z, n1] at e; cases e
  have trk : ∀ b o, H1 b = some o → b ∉ frs (envOfC qual scope s0.heap.objs.size f cd :: outer) := fun b o e z => by
    rcases hfrm b z with z | z
    · have := I.free
      rw [z] at e
      rw [show H1 s0.heap.objs.size = none from this] at e; cases e
    · obtain ⟨o2, p2, _⟩ := (I.ok.funs.mem z).2
      have := I.base.free b o2 p2 (I.ok.frf b z) (nex _)
      rw [this] at e; cases e
  have fro : ∀ b ∈ frs outer, ∃ o, h'.get? b = some o ∧ ∀ vs, o.data ≠ .fields vs := fun b hb => (ff'.2.2.mem hb).2
  -- where the base has nothing, nothing is tracked, and what has fields there is new
  have non : ∀ b, (PySem.W.hideAll s.heap (a :: frs (envOfC qual scope s0.heap.objs.size f cd :: outer))).get? b = none → H1 b = none := fun b g => by
    cases e : H1 b with
    | none => rfl
    | some u =>
      exfalso
      obtain ⟨o, ob⟩ := obj_there (I.hok b u e)
      rw [PySem.W.hideAll_get _ ob (fun z => (List.mem_cons.mp z).elim (tra b u e) (trk b u e))] at g; cases g
  have new : ∀ b ob vs, (PySem.W.hideAll s.heap (a :: frs (envOfC qual scope s0.heap.objs.size f cd :: outer))).get? b = none → h'.get? b = some ob → ob.data = .fields vs → s0.heap.get? b = none := fun b ob vs g e1 e2 => by
    cases e : s0.heap.get? b with
    | none => rfl
    | some o =>
      exfalso
      obtain ⟨o', e'⟩ := I.base.there b o e (nex _)
      by_cases hh : b ∈ a :: frs (envOfC qual scope s0.heap.objs.size f cd :: outer)
      · rcases List.mem_cons.mp hh with hh | hh
        · exact na b o e hh
        rcases hfrm b hh with z | z
        · exact nold b o e z
        · obtain ⟨o2, p1, p2⟩ := fro b z
          rw [e1] at p1; cases p1
          exact p2 _ e2
      · rw [PySem.W.hideAll_get _ e' hh] at g; cases g
  have nfr : ∀ b o, s0.heap.get? b = some o → b ∉ frs outer → b ∉ frs (envOfC qual scope s0.heap.objs.size f cd :: outer) := fun b o e hb z => by
    rcases hfrm b z with z | z
    · exact nold b o e z
    · exact hb z
  refine ⟨a, T', C, t0, dx, rfl, n1, new T' _ _ g0 g6 g7, ⟨gne, ⟨oe', vs', g1, g2, g3, g4, g5, g9⟩, oT', ts', g6, g7, g8⟩, .ref a, H1, I.os, I.bare, ?_, fun b u e => ?_, rfl, h1, non T' g0, q⟩
  · refine ⟨fun b o e n hb hx => ?_, fun b o e n hb hx => ?_, fun b o e n hx => I.base.free b o e n (nex _), fun b o e hx => ?_, I.base.tups, I.base.frzs, I.base.tbls⟩
    · exact keep b o (na b o e) (nfr b o e hb) (I.base.keep b o e n hb (nex _))
    · obtain ⟨sl, e'⟩ := I.base.slot b o e n hb (nex _)
      obtain ⟨_, o2, p1, p2⟩ := I.ok.funs.mem hb
      have p1 : s0.heap.get? b = some o2 := p1
      rw [e] at p1; cases p1
      obtain ⟨sl', e2⟩ := up b _ e' p2
      exact ⟨sl', e2⟩
    · obtain ⟨o', e'⟩ := I.base.there b o e (nex _)
      by_cases hb : b ∈ frs outer
      · obtain ⟨o2, p1, _⟩ := fro b hb
        exact ⟨o2, p1⟩
      · exact ⟨o', keep b o' (na b o e) (nfr b o e hb) e'⟩
  · refine (I.hok b u e).stay (fun c x hc ec => ?_) (fun _ z => z) fun _ _ z => z
    have ht : ∃ o, H1 c = some o := hc.elim (fun z => ⟨u, by rw [z]; exact e⟩) fun z => ⟨_, z⟩
    obtain ⟨o, ht⟩ := ht
    exact keep c x (tra c o ht) (trk c o ht) ec
end
section
variable {X : Cx} {H : Hp} {E : XK} {pins : List (Addr × Obj)} {σ : L2.St} {s s' : Shared} {e : Value} {A : Around} {EE : Value → Shared → Prop}
theorem stack_at (I : Inv X pins σ H s) (hs : X.stack = X.env :: X.outer) (hk : X.env.scope.kind = .function) (hf : X.env.frame = some X.env.locals) {base' : Heap} (hb : ∀ b ∈ frs X.stack, base'.get? b = none) : s.heap.FunFrames base' X.stack := by
  rw [hs] at hb ⊢
  have h2 : ∀ b ∈ frs X.outer, b ∈ frs (X.env :: X.outer) := fun b q => by
    unfold frs at q ⊢
    rw [List.filterMap_cons]
    split
    · exact q
    · exact List.mem_cons_of_mem _ q
  obtain ⟨m, hn, _⟩ := I.loc
  have hout : s.heap.FunFrames base' X.outer := ff_re I.ok.funs (fun b q => hb b (h2 b q)) fun b q o e => I.base.slot b o e (I.ok.frf b q) q (fun z => I.ok.exfs b z q)
  refine Heap.FunFrames.cons (L := X.env.locals) (m := m) ?_ hf hn (hb _ ?_) hout
  · rw [hk]; intro z; cases z
  · unfold frs; rw [List.filterMap_cons, hf]; exact List.mem_cons_self
theorem stack_free (I : Inv X pins σ H s) (hs : X.stack = X.env :: X.outer) (hf : X.env.frame = some X.env.locals) : ∀ b ∈ frs X.stack, H b = none := fun b hb => by
  rw [hs] at hb
  unfold frs at hb
  rw [List.filterMap_cons, hf] at hb
  rcases List.mem_cons.mp hb with rfl | hb
  · exact I.free
  · obtain ⟨o2, p2, _⟩ := (I.ok.funs.mem hb).2
    exact I.base.free b o2 p2 (I.ok.frf b hb) (fun z => I.ok.exfs b z hb)
theorem cx_move (I : Inv X pins σ H s) (hs : X.stack = X.env :: X.outer) (hk : X.env.scope.kind = .function) (hf : X.env.frame = some X.env.locals) (hx : CX1 X.prog X.w X.stack H s E e s') {G : Prop} {Good : Shared → Prop}
    (hop : ∀ (B : Heap) (a : Addr) (C t0 : Value), e = .ref a → Heap.FlyingW B X.stack a C t0 s'.heap → (∀ h', Heap.FlyingW B X.stack a C t0 h' → s'.heap.UpToSlots h' → DK s'.heap h' → Good { s' with heap := h' }) → G)
    (hQ : ∀ s2, CX1 X.prog X.w X.stack H s E e s2 → Good s2) : G := by
  obtain ⟨a, T, C, t0, d, rfl, na, nT, ⟨ne, ⟨oe, vs, e1, e2, e3, e4, e5, e9⟩, oT, ts, e6, e7, e8⟩, v, H', os, bare, un, hok, rv, h1, h2, q⟩ := hx
  have nex : ∀ b : Addr, b ∉ ([] : List Addr) := fun b => by simp
  have fr0 := stack_free I hs hf
  have ff0 : s'.heap.FunFrames (PySem.W.hideAll s'.heap (a :: T :: frs X.stack)) X.stack := ff_re (stack_at I hs hk hf (base' := PySem.W.hideAll s.heap (frs X.stack)) fun b hb => PySem.W.hideAll_none _ hb) (fun b hb => PySem.W.hideAll_none _ (List.mem_cons_of_mem _ (List.mem_cons_of_mem _ hb))) fun b hb o e => un.slot b o e (fr0 b hb) hb (nex _)
  have fat := stack_at I hs hk hf (base' := PySem.W.hideAll s.heap (frs X.stack)) fun b hb => PySem.W.hideAll_none _ hb
  refine hop (PySem.W.hideAll s'.heap (a :: T :: frs X.stack)) a C t0 rfl
    ⟨fun b o e => PySem.W.of_hideAll _ e, PySem.W.hideAll_none _ List.mem_cons_self, ff0, oe, vs, T, oT, ts, e1, ⟨e2, e4⟩, e3, e5, PySem.W.hideAll_none _ (List.mem_cons_of_mem _ List.mem_cons_self), ne, e6, e7, e8⟩ fun h' fl' up dk => hQ _ ?_
  obtain ⟨stay, _, ff', oe', vs', T', oT', ts', g1, ⟨g2, g4⟩, g3, g5, g0, gne, g6, g7, g8⟩ := fl'
  have g9 : oe'.dict = d := (dk.get e1 g1).trans e9
  have keep : ∀ b o, b ≠ a → b ≠ T → b ∉ frs X.stack → s'.heap.get? b = some o → h'.get? b = some o := fun b o x1 x2 x3 e => stay b o (PySem.W.hideAll_get _ e fun z => by
    rcases List.mem_cons.mp z with z | z
    · exact x1 z
    · rcases List.mem_cons.mp z with z | z
      · exact x2 z
      · exact x3 z)
  have fro : ∀ b ∈ frs X.stack, ∃ o, h'.get? b = some o ∧ ∀ vs, o.data ≠ .fields vs := fun b hb => (ff'.mem hb).2
  have frH : ∀ b ∈ frs X.stack, H' b = none := fun b hb => by
    obtain ⟨_, o, p1, _⟩ := fat.mem hb
    exact un.free b o p1 (fr0 b hb) (nex _)
  have trk : ∀ b o, H' b = some o → b ≠ a ∧ b ≠ T ∧ b ∉ frs X.stack := fun b o e => ⟨(fun z => by rw [z, h1] at e; cases e), (fun z => by rw [z, h2] at e; cases e), (fun z => by rw [frH b z] at e; cases e)⟩
  have na' : ∀ b o, s.heap.get? b = some o → b ≠ a := fun b o e z => by rw [z, na] at e; cases e
  have nt' : ∀ b o, s.heap.get? b = some o → b ≠ T := fun b o e z => by rw [z, nT] at e; cases e
  have nTT : H' T' = none := by
    cases e : H' T' with
    | none => rfl
    | some u =>
      exfalso
      obtain ⟨x1, x2, x3⟩ := trk T' u e
      obtain ⟨o, ob⟩ := obj_there (hok T' u e)
      rw [PySem.W.hideAll_get _ ob (fun z => by
        rcases List.mem_cons.mp z with z | z
        · exact x1 z
        · rcases List.mem_cons.mp z with z | z
          · exact x2 z
          · exact x3 z)] at g0
      cases g0
  have nT' : s.heap.get? T' = none := by
    cases e : s.heap.get? T' with
    | none => rfl
    | some o =>
      exfalso
      obtain ⟨o', e'⟩ := un.there T' o e (nex _)
      by_cases hh : T' ∈ a :: T :: frs X.stack
      · rcases List.mem_cons.mp hh with z | z
        · exact na' T' o e z
        · rcases List.mem_cons.mp z with z | z
          · exact nt' T' o e z
          · obtain ⟨o2, p1, p2⟩ := fro T' z
            rw [g6] at p1; cases p1
            exact p2 _ g7
      · rw [PySem.W.hideAll_get _ e' hh] at g0; cases g0
  refine ⟨a, T', C, t0, d, rfl, na, nT', ⟨gne, ⟨oe', vs', g1, g2, g3, g4, g5, g9⟩, oT', ts', g6, g7, g8⟩, v, H', os, bare, ?_, fun b u e => ?_, rv, h1, nTT, q⟩
  · refine ⟨fun b o e n hb hx => ?_, fun b o e n hb hx => ?_, un.free, fun b o e hx => ?_, un.tups, un.frzs, un.tbls⟩
    · exact keep b o (na' b o e) (nt' b o e) hb (un.keep b o e n hb (nex _))
    · obtain ⟨sl, e'⟩ := un.slot b o e n hb (nex _)
      obtain ⟨_, o2, p1, p2⟩ := fat.mem hb
      rw [e] at p1; cases p1
      obtain ⟨sl', e2⟩ := up b _ e' p2
      exact ⟨sl', e2⟩
    · obtain ⟨o', e'⟩ := un.there b o e (nex _)
      by_cases hb : b ∈ frs X.stack
      · obtain ⟨o2, p1, _⟩ := fro b hb
        exact ⟨o2, p1⟩
      · exact ⟨o', keep b o' (na' b o e) (nt' b o e) hb e'⟩
  · refine (hok b u e).stay (fun c x hc ec => ?_) (fun _ z => z) fun _ _ z => z
    have ht : ∃ o, H' c = some o := hc.elim (fun z => ⟨u, by rw [z]; exact e⟩) fun z => ⟨_, z⟩
    obtain ⟨o, ht⟩ := ht
    obtain ⟨x1, x2, x3⟩ := trk c o ht
    exact keep c x x1 x2 x3 ec
end
end L4
set_option Elab.async false
set_option linter.all false
set_option maxRecDepth 100000
set_option maxHeartbeats 1000000
namespace L4
open PySem PySem.Spec PyProof.Rows L2 L3
theorem own_in {K : PySem.W.Frag} {base : Heap} {mg : Str → Option Value} {x : Str} {C : Addr} {bmB : List Value} {newId : String} (X : K.In base) (G : base.Ns mainGlobals mg) (e : PySem.W.nsIn K mainGlobals x = some (some (.ref C))) (q : PySem.W.excIn K C bmB newId = true) : OwnCls x C bmB newId mg base := by
  refine ⟨PySem.W.mg_of X G e, ?_⟩
  unfold PySem.W.excIn at q
  split at q
  · rename_i dd cd sl ho
    split at q
    · rename_i C' bm k0 k1 k2 k3 n k5 hm hs
      simp only [Bool.and_eq_true, beq_iff_eq, Bool.not_eq_true'] at q
      obtain ⟨⟨⟨⟨⟨rfl, rfl⟩, hdel⟩, ht⟩, hok⟩, hni⟩ := q
      obtain ⟨nm, bs, mro, ns, qn, hd, sn, sub, ab, col, del⟩ := cd
      dsimp only at hm hdel hok hni
      subst hm hdel
      have hsl : sl = #[k0, k1, k2, k3, some (.builtin n), k5] := by
        obtain ⟨l⟩ := sl
        simp only at hs
        rw [hs]
      subst hsl
      exact ⟨bm, ns, nm, qn, bs, hd, sn, sub, ab, col, dd, k0, k1, k2, k3, k5, _, X _ _ ho, .of_isNs (PySem.W.isNs_of_in X hok), PySem.W.nsMap_none_of_in X hok hni, PySem.W.tail_of_in X ht⟩
    · cases q
  · cases q
section
variable {P : Program} {w : World} {K : PySem.W.Frag} {mg : Str → Option Value} {base : Heap} {N : List Str} {qual : Str} {scope : Scope} {f : Addr} {cd : Value} {A : Around} {outer : List Env} {s0 s : Shared} {H0 H1 : Hp} {E : XK} {pins : List (Addr × Obj)} {σ : L2.St} {a T : Addr} {t0 : Value}
end
end L4
set_option Elab.async false
set_option linter.all false
set_option maxRecDepth 100000
set_option maxHeartbeats 1000000
namespace L4
open PySem PySem.Spec PyProof.Rows L2 L3
def exD (C : Value) (d : Option Addr) (a : Addr) : HO := .ext fun h => ∃ o vs, h.get? a = some o ∧ o.cls = C ∧ o.dict = d ∧ o.data = .fields vs
abbrev exO (C : Value) (a : Addr) : HO := exD C none a
theorem exd_ok {P : Program} {w : World} {H : Hp} {h : Heap} {C : Value} {d : Option Addr} {a : Addr} {o : Obj} {vs : Array Value} (e : h.get? a = some o) (c : o.cls = C) (di : o.dict = d) (da : o.data = .fields vs) : ObjOk P w H h a (exD C d a) := ⟨⟨o, vs, e, c, di, da⟩, ⟨o, e⟩, fun h1 h2 ⟨o, vs, e, c, di, da⟩ k => ⟨o, vs, k o e, c, di, da⟩⟩
def PassS (X : Cx) (Ex : L2.St → XK) : Prop := ∀ (pins : List (Addr × Obj)) (σ : L2.St) (H : Hp) (s : Shared) (e : Value) (s' : Shared), Inv X pins σ H s → CX1 X.prog X.w X.stack H s (Ex σ) e s' → X.xe e s'
abbrev held (X : Cx) (a : Addr) : Cx := { X with A := X.A.mark (some (.ref a)), calm := false, xe := fun _ _ => False }
abbrev trying (X : Cx) (pn : List (Addr × Obj)) (xe : Value → Shared → Prop) : Cx := { X with pn := pn, xe := xe }
section
variable {X : Cx} {pins pins' : List (Addr × Obj)} {σ : L2.St} {H : Hp} {s : Shared} {xe : Value → Shared → Prop} {a : Addr}
theorem inv_held (I : Inv X pins σ H s) (a : Addr) : Inv (held X a) pins σ H s :=
  ⟨⟨I.ok.mod, I.ok.kind, I.ok.glob, I.ok.blt, I.ok.above, I.ok.inj, I.ok.has, I.ok.cab, (fun z => nomatch z), I.ok.frames, I.ok.stk, I.ok.exf, I.ok.bs, I.ok.bsz, I.ok.noex, I.ok.exfs, I.ok.funs, I.ok.frf⟩, I.os, I.bare, I.base, I.loc, I.cell, I.free, I.freeC, I.pin, I.hok, I.len⟩
theorem inv_unheld (ok : X.Ok) (I : Inv (held X a) pins σ H s) : Inv X pins σ H s := ⟨ok, I.os, I.bare, I.base, I.loc, I.cell, I.free, I.freeC, I.pin, I.hok, I.len⟩
theorem inv_trying (I : Inv X pins σ H s) (xe : Value → Shared → Prop) : Inv (trying X (X.pn ++ pins) xe) [] σ H s :=
  ⟨⟨I.ok.mod, I.ok.kind, I.ok.glob, I.ok.blt, I.ok.above, I.ok.inj, I.ok.has, I.ok.cab, I.ok.hd, I.ok.frames, I.ok.stk, I.ok.exf, I.ok.bs, I.ok.bsz, I.ok.noex, I.ok.exfs, I.ok.funs, I.ok.frf⟩, I.os, I.bare, I.base, I.loc, I.cell, I.free, I.freeC, (fun p hp => I.pin p (by simpa using hp)), I.hok, I.len⟩
theorem inv_tried (ok : X.Ok) (I : Inv (trying X (X.pn ++ pins) xe) pins' σ H s) : Inv X pins σ H s := ⟨ok, I.os, I.bare, I.base, I.loc, I.cell, I.free, I.freeC, (fun p hp => I.pin p (List.mem_append_left _ hp)), I.hok, I.len⟩
theorem name_goes {n : Str} {ie : Nat} {pos : Pos} {A : Around} {E : Value → Shared → Prop} {Q : Unit → Shared → Prop} (I : Inv X pins σ H s) (hi : X.N[ie]? = some n) (hN : X.N.Nodup) (hn : X.env.scope.names.lookup n = some .local)
    (h : ∀ s', Inv X pins (σ.set ie none) H s' → Q () s') : wpAny (model X.prog X.w) A (do bindName X.env n .none; unbindBehindTheSuite X.env n pos) Q E s := by
  obtain ⟨m, hns, hl⟩ := I.loc
  refine wpAny_nameGoes_keeps (m := m) (by show X.env.kindOf n = some .local; exact hn) hns (by rw [I.ok.kind]; rfl) fun h' v hn' sb => h _ ?_
  have neL : ∀ b, b ≠ X.env.locals → h'.get? b = s.heap.get? b := fun b nb => sb.2 b nb
  have old : ∀ b o, X.s_0.heap.get? b = some o → b ≠ X.env.locals := fun b o e => Nat.ne_of_lt (Nat.lt_of_lt_of_le (Heap.lt_size e) I.ok.above)
  have cel : ∀ c v, c ≠ X.env.locals → s.heap.IsCell c v → h'.IsCell c v := fun c v nc ⟨o, ho, hd⟩ => ⟨o, (neL c nc).trans ho, hd⟩
  refine ⟨I.ok, I.os, I.bare, ⟨fun b o e n1 n2 n3 => (neL b (old b o e)).trans (I.base.keep b o e n1 n2 n3), fun b o e n1 n2 n3 => ?_, I.base.free, fun b o e n1 => ?_, I.base.tups, I.base.frzs, I.base.tbls⟩, ⟨_, hn', fun i x u hi' hσ hv => ?_⟩, fun x c e => ?_, I.free, I.freeC, fun p hp => ?_, fun b u e => ?_, by rw [List.length_set]; exact I.len⟩
  · obtain ⟨sl, q⟩ := I.base.slot b o e n1 n2 n3
    exact ⟨sl, (neL b (old b o e)).trans q⟩
  · obtain ⟨o', q⟩ := I.base.there b o e n1
    exact ⟨o', (neL b (old b o e)).trans q⟩
  · have hne : i ≠ ie := fun z => by
      subst z
      rw [List.getElem?_set] at hσ
      simp at hσ
    rw [List.getElem?_set_ne (Ne.symm hne)] at hσ
    have hxn : x ≠ n := fun z => by
      subst z
      have l1 := (List.getElem?_eq_some_iff.mp hi').1
      exact hne ((List.getElem?_inj l1 hN).mp (hi'.trans hi.symm))
    obtain ⟨w', rw', lk⟩ := hl i x u hi' hσ hv
    refine ⟨w', rw', ?_⟩
    rcases lk with ⟨k1, k2⟩ | ⟨k1, c, k2, k3⟩
    · exact .inl ⟨k1, by simp only [if_neg hxn]; exact k2⟩
    · exact .inr ⟨k1, c, k2, cel c _ (I.cne x c k2) k3⟩
  · obtain ⟨v', hv⟩ := I.cell x c e
    exact ⟨v', cel c v' (I.cne x c e) hv⟩
  · obtain ⟨p1, p2, p3, p4, p5⟩ := I.pin p hp
    exact ⟨(neL p.1 p3).trans p1, p2, p3, p4, p5⟩
  · refine (I.hok b u e).stay (fun c x hc ec => (neL c fun z => ?_).trans ec) (fun _ z => z) fun _ _ z => z
    rcases hc with hc | hc
    · rw [← hc, z, I.free] at e; cases e
    · rw [z, I.free] at hc; cases hc
theorem landed {E : XK} {e : Value} {s' : Shared} (I : Inv X pins σ H s) (hx : CX1 X.prog X.w X.stack H s E e s') : ∃ a C d H', e = .ref a ∧ H' a = none ∧ E C d H' ∧ (∃ o, s'.heap.get? a = some o ∧ o.cls = C) ∧ Inv X pins σ (upd H' a (exD C d a)) s' := by
  obtain ⟨a, T, C, t0, d, rfl, na, nT, ⟨ne, ⟨oe, vs, e1, e2, e3, e4, e5, e9⟩, _⟩, v, H', os, bare, un, hok, rv, h1, h2, q⟩ := hx
  have ce : CE X.stack X.prog X.w H s (fun _ H'' => H'' = upd H' a (exD C d a)) (.ref a) s' := by
    refine ⟨v, _, os, bare, ⟨un.keep, un.slot, fun b o e n1 n2 => ?_, un.there, fun b xs e => ?_, fun b o x e => ?_, fun b ps e => ?_⟩, fun b u e => ?_, rv, rfl⟩
    · rw [upd_ne (fun z => by rw [z, na] at e; cases e)]; exact un.free b o e n1 n2
    · have e := un.tups b xs e
      rw [upd_ne (fun z => by rw [z, h1] at e; cases e)]; exact e
    · have e := un.frzs b o x e
      rw [upd_ne (fun z => by rw [z, h1] at e; cases e)]; exact e
    · obtain ⟨more, e⟩ := un.tbls b ps e
      exact ⟨more, by rw [upd_ne (fun z => by rw [z, h1] at e; cases e)]; exact e⟩
    · by_cases hb : b = a
      · subst hb
        rw [upd_same] at e; cases e
        exact exd_ok e1 e2 e9 e3
      rw [upd_ne hb] at e
      refine (hok b u e).stay (fun _ _ _ ec => ec) (fun c z => ?_) fun c xs z => ?_
      · rw [upd_ne (fun y => by rw [y, h1] at z; cases z)]; exact z
      · rw [upd_ne (fun y => by rw [y, h1] at z; cases z)]; exact z
  obtain ⟨v', H'', I', _, e'⟩ := I.after ce
  subst e'
  exact ⟨a, C, d, H', rfl, h1, q, ⟨oe, e1, e2⟩, I'⟩
theorem base_cx {E : XK} {e : Value} {s' : Shared} (I : Inv X pins σ H s) (hs : X.stack = X.env :: X.outer) (hf : X.env.frame = some X.env.locals) (hx : CX1 X.prog X.w X.stack H s E e s') : ∀ b o, X.base.get? b = some o → s'.heap.get? b = some o := fun b o e => by
  obtain ⟨_, _, _, _, _, _, _, _, _, _, _, _, _, un, _⟩ := hx
  obtain ⟨e1, e2⟩ := I.bs b o e
  refine un.keep b o e1 e2 (fun z => ?_) (by simp)
  rw [hs] at z
  unfold frs at z
  rw [List.filterMap_cons, hf] at z
  rcases List.mem_cons.mp z with z | z
  · have h1 : X.env.locals < X.base.objs.size := by rw [← z]; exact Heap.lt_size e
    exact Nat.lt_irrefl _ (Nat.lt_of_lt_of_le h1 (Nat.le_trans I.ok.bsz I.ok.above))
  · exact I.ok.nofr e z
theorem cx_put {E : XK} {e : Value} {s' : Shared} {A : Around} {EE : Value → Shared → Prop} {Q : Unit → Shared → Prop} (I : Inv X pins σ H s) (hs : X.stack = X.env :: X.outer) (hk : X.env.scope.kind = .function) (hf : X.env.frame = some X.env.locals) (hx : CX1 X.prog X.w X.stack H s E e s')
    (hQ : ∀ s2, CX1 X.prog X.w X.stack H s E e s2 → Q () s2) : wpAny (model X.prog X.w) A (setFlight e none) Q EE s' :=
  cx_move I hs hk hf hx (Good := fun s2 => Q () s2) (fun B a C t0 he fl k => by
    subst he
    refine wpAny_mono (wpAny_keepD (cd_flight _ _) (lands_againW (Q := fun _ s2 => ∃ h', s2 = { s' with heap := h' } ∧ Heap.FlyingW B X.stack a C t0 h' ∧ s'.heap.UpToSlots h') fl fun h' fl' up => ⟨h', rfl, fl', up⟩)) (fun _ s2 hs2 => ?_) fun _ _ z => z
    obtain ⟨⟨h', rfl, fl', up⟩, dk⟩ := hs2
    exact k h' fl' up dk) hQ
def tTryAs (ie : Nat) (hit : Value → Prop) (tb : (L2.St → XK) → TS) (ts : TS) : TS := fun D σ H =>
  tb (fun σ C d H' => hit C ∧ ∀ a, H' a = none → ts { D with nx := fun σ2 H2 => D.nx (σ2.set ie none) H2, bk := fun _ _ => False, ct := fun _ _ => False } (σ.set ie (some (.ref a))) (upd H' a (exD C d a))) D σ H
theorem ps_tryAs {body suite : List Stmt} {b₀ : Stmt} {x n : Str} {ie : Nat} {JE : Addr} {np hpos pos : Pos} {tb : (L2.St → XK) → TS} {ts : TS} (hs : X.stack = X.env :: X.outer) (hf : X.env.frame = some X.env.locals) (hg : Gl X x) (hm : X.mg x = some (.ref JE)) (hN : X.N.Nodup) (hi : X.N[ie]? = some n) (hn : X.env.scope.names.lookup n = some .local)
    (hb : ∀ (pn : List (Addr × Obj)) (xe : Value → Shared → Prop) (Ex : L2.St → XK), PassS (trying X pn xe) Ex → PSs (trying X pn xe) body (tb Ex)) (hsu : ∀ a, PSs (held X a) (b₀ :: suite) ts) (hdb : (x == ("__debug__" : Str)) = false := by decide) :
    PS X (.Try body [.ExceptHandler (some (.Name x np)) (some n) (b₀ :: suite) hpos] [] [] pos) (tTryAs ie (fun C => PySem.W.exmOne X.K C (.ref JE) = some true) tb ts) := by
  intro pins s σ H D I h
  refine wpAny_Try_except (wpAny_mono (hb (X.pn ++ pins) _ _ ?_ [] s σ H D (inv_trying I _) h) (fun f s1 hq => ?_) fun e s1 hx => hx)
  rotate_left
  · cases f with
    | next =>
      obtain ⟨σ', H', I', q⟩ := hq
      exact wpAny_execs_nil ⟨σ', H', inv_tried I.ok I', q⟩
    | brk => obtain ⟨σ', H', I', q⟩ := hq; exact ⟨σ', H', inv_tried I.ok I', q⟩
    | cont => obtain ⟨σ', H', I', q⟩ := hq; exact ⟨σ', H', inv_tried I.ok I', q⟩
    | ret u => obtain ⟨v, σ', H', I', r, q⟩ := hq; exact ⟨v, σ', H', inv_tried I.ok I', r, q⟩
  intro pins' σ H s e s' I1 hx
  have I1 : Inv X pins σ H s := inv_tried I.ok I1
  have hx : CX1 X.prog X.w X.stack H s _ e s' := hx
  have hfr : X.A.frames = some (X.env :: X.outer) := by rw [← hs]; exact I.ok.frames
  -- it is noted and put down
  refine cx_move I1 hs I.ok.kind hf hx (Good := fun s3 => wpAny (model X.prog X.w) X.A (handleBy e X.env [.ExceptHandler (some (.Name x np)) (some n) (b₀ :: suite) hpos]) (SP X pins D) X.xe s3) (fun B a C t0 he fl k => ?_) fun s3 hx3 => ?_
  · subst he
    rw [hs] at fl k
    refine wpAny_mono (wpAny_keepD (cd_note _ _) (wpAny_looks_onW (Q := fun _ s2 => ∃ h', s2 = { s' with heap := h' } ∧ Heap.HeldW B (X.env :: X.outer) a C t0 X.env.locals h' ∧ s'.heap.UpToSlots h') hfr hf fl fun h' held up => ⟨h', rfl, held, up⟩)) (fun _ s2 hs2 => ?_) fun _ _ z => z
    obtain ⟨⟨h', rfl, held, up⟩, dk⟩ := hs2
    refine wpAny_mono (wpAny_keepD (cd_flight _ _) (wpAny_landsW (Q := fun _ s2 => ∃ h'', s2 = { s' with heap := h'' } ∧ Heap.FlyingW B (X.env :: X.outer) a C t0 h'' ∧ h'.UpToSlots h'') held fun h'' fl'' up' => ⟨h'', rfl, fl'', up'⟩)) (fun _ s2 hs2 => ?_) fun _ _ z => z
    obtain ⟨⟨h'', rfl, fl'', up'⟩, dk'⟩ := hs2
    exact k h'' fl'' (up.trans up') (dk.trans dk')
  obtain ⟨a, C, _, _, rfl, _, qE, ⟨o3, eo3, ec3⟩, _⟩ := landed I1 hx3
  have bk3 := base_cx I1 hs hf hx3
  refine wpAny_handleBy_cons (codeAny_handlers_test (Calls.Name_function_global I.ok.kind hg (Calls.loadGlobal_global (by rw [I.ok.glob]; exact I.mod.glob.keeps bk3) hm ?_) hdb)) (by intro q; cases q)
  have KI : X.K.In s3.heap := I.ok.mod.kin.keeps bk3
  refine PySem.W.exm_one (M := model X.prog X.w) KI ?_ qE.1 _ _ _ s3 (fun _ _ e => e) ?_
  · rw [← ec3]
    exact (PySem.W.Looks.ld eo3).andThen .now
  refine codeAny_handlers_suite_as ?_
  -- put down once more
  refine cx_put I1 hs I.ok.kind hf hx3 fun s4 hx4 => ?_
  obtain ⟨a4, C4, d4, H4, he4, h4, qE4, _, I4⟩ := landed I1 hx4
  cases he4
  refine store_ok I4 hN hi (.inl hn) (v := .ref a) rfl (fun s5 I5 => ?_) (.inr hn)
  refine wpAny_mono (hsu a pins s5 _ _ _ (inv_held I5 a) (qE4.2 a h4)) (fun f s6 hq => ?_) fun _ _ z => False.elim z
  cases f with
  | next =>
    obtain ⟨σ6, H6, I6, q6⟩ := hq
    exact name_goes (inv_unheld I.ok I6) hi hN hn fun s7 I7 => ⟨_, _, I7, q6⟩
  | brk => obtain ⟨_, _, _, q⟩ := hq; exact False.elim q
  | cont => obtain ⟨_, _, _, q⟩ := hq; exact False.elim q
  | ret u =>
    obtain ⟨v, σ6, H6, I6, r, q6⟩ := hq
    exact name_goes (inv_unheld I.ok I6) hi hN hn fun s7 I7 => ⟨v, _, _, I7, r, q6⟩
end
end L4
set_option Elab.async false
set_option linter.all false
set_option maxRecDepth 100000
set_option maxHeartbeats 1000000
namespace L4
open PySem PySem.Spec PyProof.Rows L2 L3
section
variable {X : Cx}
def tF2 (t1 t2 : TE) : TE := fun σ H Q => t1 σ H fun x H1 => ∃ c, x = .str c ∧ c.length ≤ 1000 ∧ t2 σ H1 fun y H2 => ∃ i : Int, y = .int i ∧ i.natAbs.log2 < 1920 ∧ (Str.ofString (toString i)).length ≤ 1000 ∧ Q (.str (Str.empty ++ c ++ Str.ofString (toString i))) H2
theorem pe_f2 {e1 e2 : Expr} {t1 t2 : TE} {p pos : Pos} (h1 : PE X e1 t1) (h2 : PE X e2 t2) : PE X (.JoinedStr [e1, .FormattedValue e2 (-1) none p] pos) (tF2 t1 t2) := by
  intro pins s σ H Q I h
  refine JoinedStr_many (joinParts_cons (thn (h1 pins s σ H _ I h) fun v s1 ⟨x, H1, I1, r1, q1⟩ => ?_))
  obtain ⟨c, rfl, hc, q1⟩ := q1
  obtain ⟨t, rfl⟩ := r1
  have e0 : Str.empty.length = 0 := by decide
  have sl : (2000 : Nat) ≤ sizeLine := by decide
  refine ⟨by rw [strLen_append, e0]; omega, joinParts_cons (FormattedValue_plain (thn (h2 pins s1 σ H1 _ I1 q1) fun v2 s2 ⟨y, H2, I2, r2, q2⟩ => ?_))⟩
  obtain ⟨i, rfl, hi, hl, q2⟩ := q2
  obtain ⟨t2, rfl⟩ := r2
  refine formatField_int_small hi ⟨by rw [strLen_append, strLen_append, e0]; omega, joinParts_nil ⟨.str _, H2, I2.tok _, ⟨_, rfl⟩, q2⟩ (by rw [strLen_append, strLen_append, e0]; omega)⟩
theorem run_fnS {CX : CXT} {k : Nat} {f : Addr} {fd : FuncData} {ps : List Str} {sp : Sp} {E : XK} {pins : List (Addr × Obj)} {σ : L2.St} {H : Hp} {s : Shared} {Q : VK} {us : List Value} {vs : List V} (F : FnOk X.prog X.w X.K X.mg X.base CX k f fd ps sp) (hr : Room k X.A) (hb : Binds X.K fd ps [])
    (hx : ∀ e s', CX X.stack H s E e s' → X.xe e s') (I : Inv X pins σ H s) (r : Vals vs us) (h : sp vs H Q E) : wpAny (model X.prog X.w) X.A (call (.ref f) us) (EP X pins σ Q) X.xe s := by
  have hl : (us ++ []).length = ps.length := by rw [List.append_nil, ← r.length]; exact F.len _ _ _ _ h
  have hb' := hb s us I.kIn hl
  rw [List.append_nil] at hb'
  refine wpAny_call (codeAny_mono (F.run X.A X.stack s H ⟨us, []⟩ us vs Q E hr I.env0 hb' r h) fun r s' hq => ?_)
  cases r with
  | error e => exact hx e s' hq
  | ok fl =>
    cases fl with
    | ret u => exact I.after hq
    | next => exact False.elim hq
    | brk => exact False.elim hq
    | cont => exact False.elim hq
def DefX (P : Program) (w : World) (K : PySem.W.Frag) (mg : Str → Option Value) (base : Heap) (k : Nat) (name : Str) (ps : List Str) (sp : Sp) : Prop :=
  ∃ f fd, FnOk P w K mg base (CX1 P w) k f fd ps sp ∧ PySem.W.keepIn K (.ref f) = true ∧ Binds K fd ps [] ∧ mg name = some (.ref f)
def tCallX (sp : Sp) (Ex : L2.St → XK) (t : TA) : TE := fun σ H Q => t σ H fun vs H1 => sp vs H1 Q (Ex σ)
theorem pe_callX {name : Str} {ps : List Str} {sp : Sp} {k : Nat} {e : Expr} {es : List Expr} {t : TA} {p pos : Pos} {Ex : L2.St → XK} (hx : PassS X Ex) (d : DefX X.prog X.w X.K X.mg X.base k name ps sp) (hr : Room k X.A) (hg : Gl X name) (ha : PA X (e :: es) t)
    (hdb : (name == ("__debug__" : Str)) = false := by decide) (he : starEach (e :: es) X.env = (false, eval e X.env) :: starEach es X.env := by rfl) (hpl : (backTo pos (starEach es X.env)).any (·.1) = false := by rfl) :
    PE X (.Call (.Name name p) (e :: es) [] pos) (tCallX sp Ex t) := by
  obtain ⟨f, fd, F, kp, b, m⟩ := d
  intro pins s σ H Q I h
  refine wpAny_Call_Name_kw (ld_glob I hg m ?_ hdb)
  refine PySem.W.callWith_K (h₀ := X.base) I.ok.mod.kin kp (thn (ha pos pins s σ H _ I h) fun us s1 ⟨vs, H1, I1, r, q⟩ => ⟨I1.kIn, ?_⟩) he hpl
  exact run_fnS F hr b (fun e s' z => hx pins σ H1 s1 e s' I1 z) I1 r q
theorem rd_callX {sp : Sp} {Ex : L2.St → XK} {t : TA} {σ : L2.St} {H : Hp} {Q : VK} : tCallX sp Ex t σ H Q = t σ H fun vs H1 => sp vs H1 Q (Ex σ) := rfl
theorem rd_f2 {t1 t2 : TE} {σ : L2.St} {H : Hp} {Q : VK} : tF2 t1 t2 σ H Q = t1 σ H fun x H1 => ∃ c, x = .str c ∧ c.length ≤ 1000 ∧ t2 σ H1 fun y H2 => ∃ i : Int, y = .int i ∧ i.natAbs.log2 < 1920 ∧ (Str.ofString (toString i)).length ≤ 1000 ∧ Q (.str (Str.empty ++ c ++ Str.ofString (toString i))) H2 := rfl
theorem rd_tryAs {ie : Nat} {hit : Value → Prop} {tb : (L2.St → XK) → TS} {ts : TS} {D : Ends} {σ : L2.St} {H : Hp} : tTryAs ie hit tb ts D σ H = tb (fun σ C d H' => hit C ∧ ∀ a, H' a = none → ts { D with nx := fun σ2 H2 => D.nx (σ2.set ie none) H2, bk := fun _ _ => False, ct := fun _ _ => False } (σ.set ie (some (.ref a))) (upd H' a (exD C d a))) D σ H := rfl
end
section
variable {P : Program} {w : World} {K : PySem.W.Frag} {mg : Str → Option Value} {base : Heap}
theorem fun_okX {x qual : Str} {st : Stmt} {f : Addr} {fd : FuncData} {N ps : List Str} {k : Nat} {sp : Sp} (F : Fun K x qual st f fd) (S : FnScope N ps (defScope st)) (len : ∀ vs H Q E, sp vs H Q E → vs.length = ps.length)
    (hbody : ∀ (cdv : Value) (A : Around) (outer : List Env) (s : Shared) (H : Hp) (vs : List V) (Q : VK) (E : XK), Room k (A.deeper (envOfC qual (defScope st) s.heap.objs.size f cdv)) → sp vs H Q E →
      ∃ t, PSs (cxOf (CX1 P w) P w K mg base N qual (defScope st) f cdv A outer s H E) (defBody st) t ∧ t { nx := fun _ H' => Q .non H', rt := Q } (start N vs) H) : FnOk P w K mg base (CX1 P w) (k + 1) f fd ps sp := by
  obtain ⟨oc, od, kV, doc, pm, an, cdv, ct, osl, rfl, lk, hcd⟩ := F.ex
  exact fn_of lk hcd S len fun A outer s H vs Q E hr hsp => hbody cdv A outer s H vs Q E hr hsp
end
end L4
set_option Elab.async false
set_option linter.all false
set_option maxRecDepth 100000
set_option maxHeartbeats 1000000
namespace L4
open PySem PySem.Spec PyProof.Rows L2 L3
structure Part (prog : Program) (w : World) (i l : Addr) (n : Nat) (val : Nat → Value → Prop) (St : Nat → Heap → Prop) : Prop where
  stay : ∀ k h h', St k h → (∀ b, b = i ∨ b = l → ∀ o, h.get? b = some o → h'.get? b = some o) → St k h'
  item : ∀ (A : Around) (k : Nat) (s : Shared) (Q : Value → Shared → Prop) (E : Value → Shared → Prop), k < n → St k s.heap → (∀ x h', val k x → St (k + 1) h' → Heap.SameBut i s.heap h' → Q x { s with heap := h' }) →
    wpAny (model prog w) A (Builtin.SmallTypes.nextOf (.ref i)) Q E s
  fin : ∀ (A : Around) (k : Nat) (s : Shared) (Q : Value → Shared → Prop) (E : Value → Shared → Prop), n ≤ k → A.handled = none → St k s.heap →
    (∀ h' e, Heap.ExtBut i s.heap h' → (∃ o, h'.get? e = some o ∧ o.cls = .type "StopIteration") → E (.ref e) { s with heap := h' }) → wpAny (model prog w) A (Builtin.SmallTypes.nextOf (.ref i)) Q E s
  lt : ∀ k h, St k h → i < h.objs.size ∧ l < h.objs.size
section
variable {prog : Program} {w : World} {A : Around} {E : Value → Shared → Prop} {s : Shared}
variable {z TI TO i1 i2 l1 l2 : Addr} {n1 n2 k1 k2 : Nat} {v1 v2 : Nat → Value → Prop} {S1 S2 : Nat → Heap → Prop} {a b : Value}
end
end L4
set_option Elab.async false
set_option linter.all false
set_option maxRecDepth 100000
set_option maxHeartbeats 1000000
namespace L4
open PySem PySem.Spec PyProof.Rows L2 L3
section
variable {prog : Program} {w : World} {A : Around} {z TI TO i1 i2 l1 l2 : Addr} {n1 n2 : Nat} {v1 v2 : Nat → Value → Prop} {S1 S2 : Nat → Heap → Prop}
end
section
variable {X : Cx} {pins : List (Addr × Obj)} {σ : L2.St} {H : Hp} {s s' : Shared}
def tSumZ (P : Addr) (ta : TA) (f : Int → Int → Int) (ok : Int → Int → Prop) : TE := fun σ H Q => ta σ H fun vs H1 => ∃ (a b : Addr) (ns ms : List Int) (ps : Array Value), vs = [.ref a, .ref b] ∧ H1 a = some (.tup (ns.map V.int)) ∧ H1 b = some (.tup (ms.map V.int)) ∧ H1 P = some (.tbl ps) ∧ TriplesOk ps.toList ∧
  (∀ n ∈ ns, ∀ m ∈ ms, ok n m) ∧ ∀ ps', TriplesOk ps'.toList → Q (.int (List.zipWith f ns ms).sum) (upd H1 P (.tbl ps'))
section
variable {Q : VK} {ta : TA}
theorem rd_sumZ {P : Addr} {f : Int → Int → Int} {ok : Int → Int → Prop} : tSumZ P ta f ok σ H Q = ta σ H fun vs H1 => ∃ (a b : Addr) (ns ms : List Int) (ps : Array Value), vs = [.ref a, .ref b] ∧ H1 a = some (.tup (ns.map V.int)) ∧ H1 b = some (.tup (ms.map V.int)) ∧ H1 P = some (.tbl ps) ∧ TriplesOk ps.toList ∧
  (∀ n ∈ ns, ∀ m ∈ ms, ok n m) ∧ ∀ ps', TriplesOk ps'.toList → Q (.int (List.zipWith f ns ms).sum) (upd H1 P (.tbl ps')) := rfl
end
end
end L4
set_option Elab.async false
set_option linter.all false
set_option maxRecDepth 100000
set_option maxHeartbeats 1000000
namespace L4
open PySem PySem.Spec PyProof.Rows L2 L3
theorem whole_tup {prog : Program} {w : World} {A : Around} {E : Value → Shared → Prop} {s : Shared} {t sl : Addr} {items : Array Value} {vl vu : Value} {lo hi : Option Int} {Q : Value → Shared → Prop} (ht : IsTup s.heap t items) (hs : s.heap.IsSliceOf sl vl vu .none) (pl : IsPart vl lo) (pu : IsPart vu hi)
    (h0 : HT.sIx items.size 0 lo = 0) (h1 : HT.sIx items.size items.size hi = items.size) (h : Q (.ref t) s) : wpAny (model prog w) A (getItem (.ref t) (.ref sl)) Q E s := by
  obtain ⟨os, hos, hcs, hds⟩ := id hs
  have hTs : s.TypeIs (.ref sl) "slice" := ⟨os, hos, hcs⟩
  unfold getItem
  try with_reducible refine wpAny_holding ?_
  first | refine wpAny_bind (wpAny_pure ?_) | skip
  refine wpAny_bind (wpAny_sequenceKey ht.typeIs (by decide) ?_)
  refine wpAny_bind (wpAny_callSpecial?_slot (name := Str.ofString "__getitem__") ht.typeIs PyProof.Rows.slot_tuple_getitem (wpAny_call_entry PyProof.Rows.slot_tuple_getitem ht.typeIs entry_tuple_getitem ?_ (args_tuple_getitem _ _)))
  show wpAny _ _ (Builtin.Tuple.tupleItemsOf (.ref t) >>= _) _ _ s
  refine wpAny_bind (tupleItemsOf_ ht (wpAny_bind (wpAny_typeOf hTs ?_)))
  rw [if_pos (by decide)]
  refine wpAny_bind (HT.sliceApplied_gen hs pl pu ?_)
  show wpAny _ _ (if (((HT.sIx items.size 0 lo : Nat) : Int) == 0 && (1 : Int) == 1 && (HT.sIx items.size items.size hi - HT.sIx items.size 0 lo) == items.size) = true then _ else _) _ _ s
  rw [if_pos (by rw [h0, h1]; simp)]
  refine wpAny_bind (wpAny_bind (wpAny_typeOf ht.typeIs (wpAny_pure ?_)))
  rw [if_pos (by decide)]
  first
    | exact wpAny_bind (wpAny_rule (wpAny_pure ⟨_, rfl, wpAny_pure h⟩))
    | exact wpAny_bind (wpAny_rule (wpAny_bind (wpAny_pure (wpAny_pure ⟨_, rfl, wpAny_pure h⟩))))
    | exact wpAny_bind (wpAny_bind (wpAny_rule (wpAny_pure (wpAny_pure ⟨_, rfl, wpAny_pure h⟩))))
section
variable {X : Cx}
def rSlTA : V → Option Int → Option Int → Hp → VK → Prop := fun x lo hi H Q => ∃ a xs, x = .ref a ∧ H a = some (.tup xs) ∧ ∀ p H', Same H H' → H' p = some (.tup (cutV xs lo hi)) → Q (.ref p) H'
theorem sl_tupA : SlR X rSlTA := by
  intro pins s σ H x v vl vu lo hi sl Q I rx hs pl pu h
  obtain ⟨a, xs, rfl, hx, q⟩ := h
  by_cases hw : HT.sIx xs.length 0 lo = 0 ∧ HT.sIx xs.length xs.length hi = xs.length
  · cases rx
    obtain ⟨its, r, ht, hz⟩ := I.tuple (SqT.of hx)
    have hlen : its.toArray.size = xs.length := by rw [List.size_toArray]; exact r.length.symm
    have e : cutV xs lo hi = xs := by unfold cutV; rw [hw.1, hw.2]; simp
    exact ⟨"tuple", _, PyProof.Rows.slot_tuple_getitem.lookup, ht.typeIs, whole_tup ht hs pl pu (by rw [hlen]; exact hw.1) (by rw [hlen]; exact hw.2) ⟨.ref a, H, I, rfl, q a H (Same.refl H) (by rw [e]; exact hx)⟩⟩
  · exact sl_tup pins s σ H (.ref a) v vl vu lo hi sl Q I rx hs pl pu ⟨a, xs, rfl, SqT.of hx, hw, fun p hp => q p _ (same_new hp _) upd_same⟩
end
section
variable {H : Hp} {Q : VK} {a b : Addr} {xs ys : List V} {lo hi : Option Int}
end
def Tb (P : Addr) (H : Hp) : Prop := ∃ ps, H P = some (.tbl ps) ∧ TriplesOk ps.toList
structure Fg (H H' : Hp) : Prop where
  keep : ∀ b o, H b = some o → (∀ ps, o ≠ .tbl ps) → H' b = some o
  tb : ∀ P, Tb P H → Tb P H'
  there : ∀ b o, H b = some o → ∃ o', H' b = some o'
theorem Fg.refl (H : Hp) : Fg H H := ⟨fun _ _ h _ => h, fun _ h => h, fun _ o h => ⟨o, h⟩⟩
theorem Fg.trans {H H1 H2 : Hp} (a : Fg H H1) (b : Fg H1 H2) : Fg H H2 := ⟨fun c o h n => b.keep c o (a.keep c o h n) n, fun P h => b.tb P (a.tb P h), fun c o h => let ⟨o', h'⟩ := a.there c o h; b.there c o' h'⟩
theorem Tb.same {P : Addr} {H H' : Hp} (s : Same H H') (h : Tb P H) : Tb P H' := by
  obtain ⟨ps, e, t⟩ := h
  exact ⟨ps, s _ _ e, t⟩
theorem Fg.of {H H' : Hp} (s : Same H H') : Fg H H' := ⟨fun b o h _ => s b o h, fun _ => Tb.same s, fun b o h => ⟨o, s b o h⟩⟩
theorem Tb.upd {P P' : Addr} {H : Hp} {ps : Array Value} (t : TriplesOk ps.toList) (h : Tb P H) : Tb P (upd H P' (.tbl ps)) := by
  by_cases e : P = P'
  · subst e; exact ⟨ps, upd_same, t⟩
  · obtain ⟨qs, h, t'⟩ := h
    exact ⟨qs, by rw [upd_ne e]; exact h, t'⟩
theorem Fg.tbl {P : Addr} {H : Hp} {ps : Array Value} (t : TriplesOk ps.toList) (h : Tb P H) : Fg H (upd H P (.tbl ps)) := ⟨fun b o q n => by
  obtain ⟨qs, e, _⟩ := h
  rw [upd_ne (fun z => by rw [z, e] at q; cases q; exact n _ rfl)]; exact q, fun _ => Tb.upd t, fun b o q => by
  by_cases e : b = P
  · exact ⟨_, by rw [e]; exact upd_same⟩
  · exact ⟨o, by rw [upd_ne e]; exact q⟩⟩
theorem Fg.own {p : Addr} {H0 H : Hp} {xs ys : List V} (s : Fg H0 H) (h : H0 p = none) (e : H p = some (.lst xs)) : Fg H0 (upd H p (.lst ys)) := by
  have tb : ∀ {P : Addr}, Tb P H → Tb P (L2.upd H p (.lst ys)) := fun {P} ⟨ps, q, t⟩ => ⟨ps, by rw [upd_ne (ne_of q e (by intro z; cases z))]; exact q, t⟩
  exact ⟨fun b o q n => by rw [upd_ne (ne_of_none q h)]; exact s.keep b o q n, fun P q => tb (s.tb P q), fun b o q => by rw [upd_ne (ne_of_none q h)]; exact s.there b o q⟩
theorem Fg.tp {H H' : Hp} (f : Fg H H') : Tp H H' := fun b xs h => f.keep b _ h (fun _ e => by cases e)
theorem Fg.lst {H H' : Hp} (f : Fg H H') {b : Addr} {xs : List V} (h : H b = some (.lst xs)) : H' b = some (.lst xs) := f.keep b _ h (fun _ e => by cases e)
end L4
set_option Elab.async false
set_option linter.all false
set_option maxRecDepth 100000
set_option maxHeartbeats 1000000
namespace L4
open PySem PySem.Spec PyProof.Rows L2 L3
def Itzt (a b : Addr) (xs ys : List V) : It :=
  ⟨fun i H => H a = some (.tup xs) ∧ H b = some (.tup ys) ∧ i < xs.length ∧ i < ys.length,
    fun i H v H' => ∃ T x y, v = .ref T ∧ H T = none ∧ H' = upd H T (.tup [x, y]) ∧ xs[i]? = some x ∧ ys[i]? = some y,
    fun i H => H a = some (.tup xs) ∧ H b = some (.tup ys) ∧ (xs.length ≤ i ∨ ys.length ≤ i)⟩
def iZipT (ta : TA) : TI := fun σ H R => ta σ H fun vs H1 => ∃ a b xs ys, vs = [.ref a, .ref b] ∧ H1 a = some (.tup xs) ∧ H1 b = some (.tup ys) ∧ R (Itzt a b xs ys) H1
section
variable {D : Ends} {σ : L2.St} {H : Hp} {Q : VK} {g : TG} {tb : TS} {ta : TA} {te : TE} {tt : TT} {ws : List Nat}
theorem rd_lcZ {tx : TE} : tLc (iZipT ta) g tt tx ws σ H Q = ta σ H fun vs H1 => ∃ a b xs ys, vs = [.ref a, .ref b] ∧ H1 a = some (.tup xs) ∧ H1 b = some (.tup ys) ∧ ∀ D, H1 D = none → LcW (Itzt a b xs ys) g tt tx ws σ H1 D Q := rfl
end
end L4
set_option Elab.async false
set_option linter.all false
set_option maxRecDepth 100000
set_option maxHeartbeats 1000000
namespace L4
open PySem PySem.Spec PyProof.Rows L2 L3
section
variable {X : Cx} {pins : List (Addr × Obj)} {σ : L2.St} {H : Hp} {s s' t t' : Shared} {P C : Addr} {scope : Scope} {cl : List (Str × Addr)}
structure GS (X : Cx) (P : Addr) (H : Hp) (σ : L2.St) (C : Addr) (scope : Scope) (cl : List (Str × Addr)) (vars : List (Str × V)) (t : Shared) : Prop where
  ok : X.Ok
  tb : ∃ ps, H P = some (.tbl ps)
  obj : ∀ a o, a ≠ P → H a = some o → ObjOk X.prog X.w H t.heap a o
  loc : ∃ m, t.heap.Ns C m ∧ ∀ y v, (y, v) ∈ vars → ∃ u, m y = some u ∧ RelV v u
  cap : ∀ (i : Nat) y v, X.N[i]? = some y → σ[i]? = some (some v) → (y, NameKind.free) ∈ scope.names → ∃ u c, RelV v u ∧ cl.lookup y = some c ∧ t.heap.IsCell c (some u)
  base : ∀ b o, X.base.get? b = some o → t.heap.get? b = some o
theorem GS.keeps {vars : List (Str × V)} (G : GS X P H σ C scope cl vars t) (k : ∀ b o, t.heap.get? b = some o → t'.heap.get? b = some o) : GS X P H σ C scope cl vars t' where
  ok := G.ok
  tb := G.tb
  obj := fun a o n e => (G.obj a o n e).stay (fun b u _ q => k b u q) (fun _ q => q) fun _ _ q => q
  loc := let ⟨m, hn, h⟩ := G.loc; ⟨m, hn.keeps k, h⟩
  cap := fun i y v e1 e2 e3 => by
    obtain ⟨u, c, r, l, o, ho, hd⟩ := G.cap i y v e1 e2 e3
    exact ⟨u, c, r, l, o, k _ _ ho, hd⟩
  base := fun b o e => k b o (G.base b o e)
def Caps (X : Cx) (scope : Scope) : Prop := ∀ y ∈ scope.names, y.2 = .free → X.env.kindOf y.1 = some .cell
abbrev GT := L2.St → List V → Hp → (V → Prop) → Prop
variable {ns : List Str} {a b : Expr} {ta tb : GT} {pos : Pos}
def gLoc (j : Nat) : GT := fun _ vs _ Φ => ∃ v, vs[j]? = some v ∧ Φ v
def gCap (i : Nat) : GT := fun σ _ _ Φ => ∃ v, σ[i]? = some (some v) ∧ Φ v
def gC (v : V) : GT := fun _ _ _ Φ => Φ v
def gI (c : Int → Int → Prop) (f : Int → Int → Int) (ta tb : GT) : GT := fun σ vs H Φ => ta σ vs H fun x => tb σ vs H fun y => ∃ i j, x = .int i ∧ y = .int j ∧ c i j ∧ Φ (.int (f i j))
end
end L4
set_option Elab.async false
set_option linter.all false
set_option maxRecDepth 100000
set_option maxHeartbeats 1000000
namespace L4
open PySem PySem.Spec PyProof.Rows L2 L3
abbrev TGn := L2.St → Hp → (Nat → (Nat → V) → Hp → Prop) → Prop
section
variable {X : Cx} {pins : List (Addr × Obj)} {σ : L2.St} {H : Hp} {s s' : Shared} {P : Addr} {scope : Scope} {elt iter : Expr} {x : Str} {px gpos : Pos} {ti : TE} {te : GT} {c bm : Addr} {ob : Obj}
structure GCx (X : Cx) (P : Addr) (scope : Scope) (x : Str) (iter : Expr) : Prop where
  calm : X.calm = true
  co : scope.isCoroutine = false
  caps : Caps X scope
  cell : ∀ y ∈ scope.names, y.2 ≠ .cell
  dot : scope.names.lookup (".0" : Str) = some NameKind.local
  var : scope.names.lookup x = some .local
  kind : scope.kind = .function
  room : X.A.depth < recursionLimit
  code : ∃ c, X.env.code = .ref c ∧ PySem.W.CodeHd X.base c P
  bmod : ∃ bm ob, BMod X.base mainGlobals X.mg bm ob
  fold : ∀ x, genFold iter X.env x = pure x
def tGnR (P : Addr) (ti : TE) (te : GT) : TGn := fun σ H R => ti σ H fun v H1 => ∃ (r : Addr) (lo hi : Int) (ps : Array Value) (f : Nat → V), v = .ref r ∧ H1 r = some (.rng lo hi) ∧ (-(2 ^ 62) ≤ lo ∧ lo < 2 ^ 62 ∧ -(2 ^ 62) ≤ hi ∧ hi < 2 ^ 62) ∧ H1 P = some (.tbl ps) ∧ TriplesOk ps.toList ∧
  (∀ k, k < (hi - lo).toNat → te σ [.int (lo + k)] H1 fun z => z = f k) ∧ ∀ ps', TriplesOk ps'.toList → R (hi - lo).toNat f (upd H1 P (.tbl ps'))
def tGnT (P : Addr) (ti : TE) (te : GT) : TGn := fun σ H R => ti σ H fun v H1 => ∃ (l : Addr) (xs : List V) (ps : Array Value) (f : Nat → V), v = .ref l ∧ H1 l = some (.tup xs) ∧ H1 P = some (.tbl ps) ∧ TriplesOk ps.toList ∧
  (∀ k x, xs[k]? = some x → te σ [x] H1 fun z => z = f k) ∧ ∀ ps', TriplesOk ps'.toList → R xs.length f (upd H1 P (.tbl ps'))
def tGnL (P : Addr) (ti : TE) (te : GT) : TGn := fun σ H R => ti σ H fun v H1 => ∃ (l : Addr) (xs : List V) (ps : Array Value) (f : Nat → V), v = .ref l ∧ H1 l = some (.lst xs) ∧ H1 P = some (.tbl ps) ∧ TriplesOk ps.toList ∧
  (∀ k x, xs[k]? = some x → te σ [x] H1 fun z => z = f k) ∧ ∀ ps', TriplesOk ps'.toList → R xs.length f (upd H1 P (.tbl ps'))
end
section
variable {X : Cx} {pins : List (Addr × Obj)} {σ : L2.St} {H : Hp} {s s' : Shared} {g : Expr} {tg : TGn} {p pos : Pos}
def tMin1 (tg : TGn) : TE := fun σ H Q => tg σ H fun n f H5 => ∃ h : Nat → Int, (∀ k, k < n → f k = .int (h k)) ∧ 0 < n ∧ ∀ k, k < n → (∀ i, i < n → h k ≤ h i) → Q (.int (h k)) H5
def tSum1 (tg : TGn) : TE := fun σ H Q => tg σ H fun n f H5 => ∃ h : Nat → Int, (∀ k, k < n → f k = .int (h k)) ∧ Q (.int (preSum h n)) H5
def tAll1 (tg : TGn) : TE := fun σ H Q => tg σ H fun n f H5 => ∃ h : Nat → Bool, (∀ k, k < n → f k = .bl (h k)) ∧ Q (.bl ((List.range n).all h)) H5
def tAny1 (tg : TGn) : TE := fun σ H Q => tg σ H fun n f H5 => ∃ h : Nat → Bool, (∀ k, k < n → f k = .bl (h k)) ∧ Q (.bl ((List.range n).any h)) H5
def tTup1 (tg : TGn) : TE := fun σ H Q => tg σ H fun n f H5 => n ≤ sizeLine ∧ ∀ q, H5 q = none → Q (.ref q) (upd H5 q (.tup ((List.range n).map f)))
end
section
variable {σ : L2.St} {H : Hp} {Q : VK} {tg : TGn} {P : Addr} {ti : TE} {te ta tb : GT} {R : Nat → (Nat → V) → Hp → Prop} {vs : List V} {Φ : V → Prop}
theorem rd_min1 : tMin1 tg σ H Q = tg σ H fun n f H5 => ∃ h : Nat → Int, (∀ k, k < n → f k = .int (h k)) ∧ 0 < n ∧ ∀ k, k < n → (∀ i, i < n → h k ≤ h i) → Q (.int (h k)) H5 := rfl
theorem rd_sum1 : tSum1 tg σ H Q = tg σ H fun n f H5 => ∃ h : Nat → Int, (∀ k, k < n → f k = .int (h k)) ∧ Q (.int (preSum h n)) H5 := rfl
theorem rd_all1 : tAll1 tg σ H Q = tg σ H fun n f H5 => ∃ h : Nat → Bool, (∀ k, k < n → f k = .bl (h k)) ∧ Q (.bl ((List.range n).all h)) H5 := rfl
theorem rd_any1 : tAny1 tg σ H Q = tg σ H fun n f H5 => ∃ h : Nat → Bool, (∀ k, k < n → f k = .bl (h k)) ∧ Q (.bl ((List.range n).any h)) H5 := rfl
theorem rd_tup1 : tTup1 tg σ H Q = tg σ H fun n f H5 => n ≤ sizeLine ∧ ∀ q, H5 q = none → Q (.ref q) (upd H5 q (.tup ((List.range n).map f))) := rfl
theorem rd_gnR : tGnR P ti te σ H R = ti σ H fun v H1 => ∃ (r : Addr) (lo hi : Int) (ps : Array Value) (f : Nat → V), v = .ref r ∧ H1 r = some (.rng lo hi) ∧ (-(2 ^ 62) ≤ lo ∧ lo < 2 ^ 62 ∧ -(2 ^ 62) ≤ hi ∧ hi < 2 ^ 62) ∧ H1 P = some (.tbl ps) ∧ TriplesOk ps.toList ∧
  (∀ k, k < (hi - lo).toNat → te σ [.int (lo + k)] H1 fun z => z = f k) ∧ ∀ ps', TriplesOk ps'.toList → R (hi - lo).toNat f (upd H1 P (.tbl ps')) := rfl
theorem rd_gnT : tGnT P ti te σ H R = ti σ H fun v H1 => ∃ (l : Addr) (xs : List V) (ps : Array Value) (f : Nat → V), v = .ref l ∧ H1 l = some (.tup xs) ∧ H1 P = some (.tbl ps) ∧ TriplesOk ps.toList ∧
  (∀ k x, xs[k]? = some x → te σ [x] H1 fun z => z = f k) ∧ ∀ ps', TriplesOk ps'.toList → R xs.length f (upd H1 P (.tbl ps')) := rfl
theorem rd_gnL : tGnL P ti te σ H R = ti σ H fun v H1 => ∃ (l : Addr) (xs : List V) (ps : Array Value) (f : Nat → V), v = .ref l ∧ H1 l = some (.lst xs) ∧ H1 P = some (.tbl ps) ∧ TriplesOk ps.toList ∧
  (∀ k x, xs[k]? = some x → te σ [x] H1 fun z => z = f k) ∧ ∀ ps', TriplesOk ps'.toList → R xs.length f (upd H1 P (.tbl ps')) := rfl
theorem rd_gLoc {j : Nat} : gLoc j σ vs H Φ = ∃ v, vs[j]? = some v ∧ Φ v := rfl
theorem rd_gCap {i : Nat} : gCap i σ vs H Φ = ∃ v, σ[i]? = some (some v) ∧ Φ v := rfl
theorem rd_gC {v : V} : gC v σ vs H Φ = Φ v := rfl
theorem rd_gI {c : Int → Int → Prop} {f : Int → Int → Int} : gI c f ta tb σ vs H Φ = ta σ vs H fun x => tb σ vs H fun y => ∃ i j, x = .int i ∧ y = .int j ∧ c i j ∧ Φ (.int (f i j)) := rfl
end
end L4
set_option Elab.async false
set_option linter.all false
set_option maxRecDepth 100000
set_option maxHeartbeats 1000000
namespace L4
open PySem PySem.Spec PyProof.Rows L2 L3
section
variable {prog : Program} {w : World} {A : Around} {E : Value → Shared → Prop} {s : Shared}
end
section
variable {X : Cx} {tg : Expr}
def iRevR (ta : TA) : TI := fun σ H R => ta σ H fun vs H1 => ∃ (r : Addr) (n : Int), vs = [.ref r] ∧ H1 r = some (.rng 0 n) ∧ 0 ≤ n ∧ n < 2 ^ 62 ∧ R (Itc (n - 1) (-1) n.toNat) H1
end
section
variable {X : Cx}
end
end L4
set_option Elab.async false
set_option linter.all false
set_option maxRecDepth 100000
set_option maxHeartbeats 1000000
namespace L4
open PySem PySem.Spec PyProof.Rows L2 L3
section
variable {X : Cx} {P : Addr} {scope sc : Scope} {x : Str} {iter : Expr}
def tTruT (te : TE) : TT := fun σ H QB => te σ H fun x H' => ∃ p xs, x = .ref p ∧ H' p = some (.tup xs) ∧ QB (!xs.isEmpty) H'
end
def DT (H : Hp) (d : Addr) (g : List Key → Option V) (n : Nat) : Prop := ∃ kvs : List (List Key × V), H d = some (.dT kvs) ∧ (∀ k, valV kvs k = g k) ∧ kvs.length ≤ n
section
variable {H H' : Hp} {d b : Addr} {g : List Key → Option V} {n : Nat} {k : List Key} {v : V}
theorem DT.same (h : DT H d g n) (s : Same H H') : DT H' d g n := by
  obtain ⟨kvs, h1, h2⟩ := h
  exact ⟨kvs, s _ _ h1, h2⟩
theorem DT.fg (h : DT H d g n) (s : Fg H H') : DT H' d g n := by
  obtain ⟨kvs, h1, h2⟩ := h
  exact ⟨kvs, s.keep _ _ h1 (fun _ z => by cases z), h2⟩
theorem DT.dict (h : DT H d g n) : ∃ kvs, H d = some (.dT kvs) := let ⟨kvs, h1, _⟩ := h; ⟨kvs, h1⟩
theorem DT.imp {g' : List Key → Option V} {n' : Nat} (h : DT H d g n) (e : ∀ k, g k = g' k) (hn : n ≤ n') : DT H d g' n' := by
  obtain ⟨kvs, h1, h2, h3⟩ := h
  exact ⟨kvs, h1, fun k => (h2 k).trans (e k), by omega⟩
theorem Fg.free {p : Addr} {H0 H : Hp} (s : Fg H0 H) (h : H p = none) : H0 p = none := by
  cases q : H0 p with
  | none => rfl
  | some o => obtain ⟨o', e⟩ := s.there p o q; rw [e] at h; cases h
end
section
variable {D : Ends} {σ : L2.St} {H : Hp} {Q : VK} {QB : Bool → Hp → Prop} {td ty tv te : TE} {ta : TA} {g : TG} {tb : TS} {p : Addr} {xs : List V}
theorem rd_dget : tDGet td ty σ H Q = td σ H fun x H1 => ty σ H1 fun y H2 => ∃ a v, x = .ref a ∧ DGet H2 a y (some v) ∧ Q v H2 := rfl
theorem rd_dput : sDPut td ty tv D σ H = tv σ H fun v H1 => td σ H1 fun x H2 => ty σ H2 fun y H3 => ∃ a H4, x = .ref a ∧ DPut H3 a y v H4 ∧ D.nx σ H4 := rfl
theorem rd_dnewT : tDNewT σ H Q = ∀ p, H p = none → Q (.ref p) (upd H p (.dT [])) := rfl
theorem rd_dnewK : tDNewK σ H Q = ∀ p, H p = none → Q (.ref p) (upd H p (.dK [])) := rfl
theorem rd_truT : tTruT te σ H QB = te σ H fun x H' => ∃ p xs, x = .ref p ∧ H' p = some (.tup xs) ∧ QB (!xs.isEmpty) H' := rfl
theorem rd_forR : tFor (iRevR ta) g tb D σ H = ta σ H fun vs H1 => ∃ (r : Addr) (n : Int), vs = [.ref r] ∧ H1 r = some (.rng 0 n) ∧ 0 ≤ n ∧ n < 2 ^ 62 ∧ ForW (Itc (n - 1) (-1) n.toNat) g tb D σ H1 := rfl
theorem rd_for3 : tFor (iRng3 ta) g tb D σ H = ta σ H fun vs H1 => ∃ (i j c : Int) (n : Nat), vs = [.int i, .int j, .int c] ∧ RgC i j c n ∧ ForW (Itc i c n) g tb D σ H1 := rfl
theorem rd_lc2 {tx : TE} {tt : TT} {ws : List Nat} : tLc (iRng2 ta) g tt tx ws σ H Q = ta σ H fun vs H1 => ∃ i j : Int, vs = [.int i, .int j] ∧ (-(2 ^ 62) ≤ i ∧ i < 2 ^ 62 ∧ -(2 ^ 62) ≤ j ∧ j < 2 ^ 62) ∧ ∀ D, H1 D = none → LcW (Itr i (j - i).toNat) g tt tx ws σ H1 D Q := rfl
theorem rd_rng2 {i j : Int} {QQ : Int → Int → Prop} : (∃ i' j' : Int, [V.int i, V.int j] = [V.int i', V.int j'] ∧ QQ i' j') = QQ i j := by
  apply propext; constructor
  · rintro ⟨i', j', e, q⟩; cases e; exact q
  · intro q; exact ⟨i, j, rfl, q⟩
end
end L4
namespace L4
open PySem PySem.Spec PyProof.Rows L2 L3
section
variable {H : Hp} {q : Addr} {ys : List V} {k : Int} {Φ : V → Prop}
end
end L4
namespace L4
open L2
theorem rd_int2b {i j : Int} {Ψ : Int → Int → Prop} : (∃ i' j', V.int i = V.int i' ∧ V.int j = V.int j' ∧ Ψ i' j') = Ψ i j := by
  apply propext; constructor
  · rintro ⟨i', j', e1, e2, q⟩; cases e1; cases e2; exact q
  · intro q; exact ⟨i, j, rfl, rfl, q⟩
end L4
namespace L4
open L2
theorem rd_int1 {i : Int} {Ψ : Int → Prop} : (∃ i', V.int i = V.int i' ∧ Ψ i') = Ψ i := by
  apply propext; constructor
  · rintro ⟨i', e1, q⟩; cases e1; exact q
  · intro q; exact ⟨i, rfl, q⟩
end L4
namespace L4
open PySem PySem.Spec PyProof.Rows L2 L3
abbrev k2 (i j : Nat) : List Key := [Sum.inl (i : Int), Sum.inl (j : Int)]
section
variable {H H' : Hp} {d b : Addr} {g : List Key → Option V} {n : Nat} {v : V} {x y : Int} {i j : Nat}
end
end L4
set_option Elab.async false
set_option linter.all false
set_option maxRecDepth 100000
set_option maxHeartbeats 1000000
namespace L4
open PySem PySem.Spec PyProof.Rows L2 L3
section
variable {X : Cx} {P : Addr} {scope : Scope} {x : Str}
end
end L4
set_option Elab.async false
set_option linter.all false
set_option maxRecDepth 100000
set_option maxHeartbeats 1000000
namespace L4
open PySem PySem.Spec PyProof.Rows L2 L3
def ItET (a : Addr) (xs : List V) : It :=
  ⟨fun i H => H a = some (.tup xs) ∧ i < xs.length, fun i H v H' => ∃ T x, v = .ref T ∧ H T = none ∧ H' = upd H T (.tup [.int (i : Nat), x]) ∧ xs[i]? = some x, fun i H => H a = some (.tup xs) ∧ xs.length = i⟩
def iEnumT (ta : TA) : TI := fun σ H R => ta σ H fun vs H1 => ∃ a xs, vs = [.ref a] ∧ H1 a = some (.tup xs) ∧ R (ItET a xs) H1
section
variable {D : Ends} {σ : L2.St} {H : Hp} {Q : VK} {g : TG} {tb : TS} {ta : TA} {te : TE} {tt : TT} {ws : List Nat}
theorem rd_forET : tFor (iEnumT ta) g tb D σ H = ta σ H fun vs H1 => ∃ a xs, vs = [.ref a] ∧ H1 a = some (.tup xs) ∧ ForW (ItET a xs) g tb D σ H1 := rfl
end
end L4
namespace L4
open L2
theorem rd_par {i j : Nat} {ta : TA} {D : Ends} {σ : L2.St} {H : Hp} : tPar i j ta D σ H = ta σ H fun vs H1 => ∃ v w, vs = [v, w] ∧ D.nx ((σ.set i (some v)).set j (some w)) H1 := rfl
end L4
set_option Elab.async false
set_option linter.all false
set_option maxRecDepth 100000
set_option maxHeartbeats 1000000
namespace L4
open PySem PySem.Spec PyProof.Rows L2 L3 PySem.W PySem.Calls PySem.Builtin PySem.Builtin.ObjectAttr PySem.Builtin.Getset_descriptor
section
variable {prog : Program} {w : World} {A : Around} {E : Value → Shared → Prop} {s : Shared} {K : PySem.W.Frag} {x D : Addr} {ox : Obj}
theorem looks_clsfind {M : Model} {h : Heap} (X : K.In h) (ha : findIn K (.ref D) "__class__" = some (some (.builtin "object.__class__"))) (hn : specialIn K (.builtin "object.__class__") "__get__" = some (some (.builtin "getset_descriptor.__get__"))) (htk : takesIn K (.builtin "object.__class__") = some true) :
    Looks M h (Builtin.ObjectAttr.find (.ref x) (.ref D) "__class__") (.bind (.builtin "getset_descriptor.__get__") (.builtin "object.__class__")) := by
  unfold Builtin.ObjectAttr.find
  refine (looks_findIn X ha).andThen ?_
  refine (show Looks M h (Builtin.ObjectAttr.getOf (some (.builtin "object.__class__"))) (some (.builtin "getset_descriptor.__get__")) from looks_specialIn X hn).andThen ?_
  exact (show Looks M h (Builtin.ObjectAttr.dataDescriptor? (some (.builtin "object.__class__")) (some (.builtin "getset_descriptor.__get__"))) (some (.builtin "getset_descriptor.__get__", .builtin "object.__class__")) from (looks_takesIn (M := M) X htk).andThen .now).andThen (Looks.tag .now)
structure XFacts (K : PySem.W.Frag) (D : Addr) : Prop where
  cl : (clsIn K D).isSome = true
  ga : findIn K (.ref D) "__getattribute__" = some (some (.builtin "BaseException.__getattribute__"))
  gt : findIn K (.ref D) "__getattr__" = some none
  ac : findIn K (.ref D) "__class__" = some (some (.builtin "object.__class__"))
  gn : specialIn K (.builtin "object.__class__") "__get__" = some (some (.builtin "getset_descriptor.__get__"))
  tk : takesIn K (.builtin "object.__class__") = some true
  mo : mroIn K D (.type "object") = some true
  sb : subIn K (.ref D) (.type "BaseException") = some true
theorem cls_getx {R : Result → Shared → Prop} {tp : Value} (X : K.In s.heap) (L0 : Looks (model prog w) s.heap (typeOf (.ref x)) (.ref D)) (hm : mroIn K D (.type "object") = some true)
    (h : R (.ok (.ret (.ref D))) s) : codeAny (model prog w) A (.call (.builtin "getset_descriptor.__get__") ⟨[.builtin "object.__class__", .ref x, tp], []⟩) R s := by
  obtain ⟨hh, g, dr, t, os⟩ := s
  have L1 := looks_mroIn (M := model prog w) X hm
  refine codeAny_call_builtin KF.slot_gs.plain KF.entry_gs (KF.slot_gs.check _ _ _ _ _ _ _ _ KF.type_class (KF.args_gs _ _ _) ?_); unfold Builtin.«getset_descriptor.__get__» descrGet; rw [dga_obj]
  refine wpAny_bind (wpAny_pure ?_); unfold descrGetter descrCheckInstance descrNameAndClass isInstance; simp only [KF.owner_class]
  repeat lk
  refine ⟨Code.quiet_builtin _ (by decide +kernel), codeAny_builtin KF.entry_class ?_⟩; unfold Builtin.«object.__class__» shownTypeOf
  repeat lk
  exact h
theorem cls_exc {Q : Option Value → Shared → Prop} (F0 : XFacts K D) (X : K.In s.heap) (he : s.heap.get? x = some ox) (hc : ox.cls = .ref D) (h : Q (some (.ref D)) { s with toks := s.toks + 1 }) : wpAny (model prog w) A (getAttr? (.ref x) "__class__") Q E s := by
  obtain ⟨hh, g, d, t, os⟩ := s
  have L0 : Looks (model prog w) hh (typeOf (.ref x)) (.ref D) := hc ▸ (Looks.ld he).andThen .now
  have L1 := looks_findIn (M := model prog w) X F0.ga
  have L2 := looks_findIn (M := model prog w) X F0.gt
  have L3 := looks_clsfind (M := model prog w) (x := x) X F0.ac F0.gn F0.tk
  have hx2 : (onTheHeap (Value.ref D) && Value.builtin "BaseException.__getattribute__" == Value.builtin "object.__getattribute__") = false := by rw [show (Value.builtin "BaseException.__getattribute__" == Value.builtin "object.__getattribute__") = false by decide +kernel, Bool.and_false]
  unfold getAttr? getAttrBy? getAttrBy
  refine wpAny_bind (wpAny_mkText (wpAny_bind (wpAny_attempt (wpAny_holding (wpAny_bind (L0.at (wpAny_bind (L1.at ?_))))))))
  show wpAny _ _ (if (onTheHeap (Value.ref D) && Value.builtin "BaseException.__getattribute__" == Value.builtin "object.__getattribute__") = true then _ else getAttrByItsOwn _ _ _ _ _ _) _ _ _
  rw [hx2, if_neg (by decide)]
  unfold getAttrByItsOwn
  refine wpAny_bind (show wpAny _ _ (typeLookup (.ref D) "__getattr__") _ _ _ from L2.at ?_)
  refine wpAny_bind (wpAny_attempt (wpAny_holding ?_))
  show wpAny _ _ (boundAndCalled _ _ _) _ _ _
  unfold boundAndCalled
  have fb := F.attr_ValueError.ga.bind (.ref x)
  rw [fb]
  refine wpAny_bind (wpAny_pure ?_)
  refine wpAny_call (codeAny_call_builtin F.attr_ValueError.ga.plain F.entry_bexc_ga ?_)
  have hk : builtinKind "BaseException.__getattribute__" = some .slot := by decide +kernel
  have hsplit : splitId "BaseException.__getattribute__" = some ("BaseException", "__getattribute__") := by decide +kernel
  have ha := F.args_bexc_ga (.ref x) (.str "__class__" t)
  have LI : Looks (model prog w) hh (isInstance (.ref x) (.type "BaseException")) true := L0.andThen (looks_subIn X F0.sb)
  simp only [checkBuiltinCall, hk, hsplit]
  show wpAny _ _ (isInstance (.ref x) (.type "BaseException") >>= _) _ _ _
  refine wpAny_bind (LI.at ?_)
  simp only [Bool.not_true, Bool.false_eq_true, if_false]
  refine wpAny_of_eq ha ?_
  unfold Builtin.«object.__getattribute__»
  refine wpAny_bind (wpAny_of_eq (a := (Value.ref x, [Value.str "__class__" t])) (by first | rfl | kernel_rfl) ?_)
  try dsimp only
  refine wpAny_bind (wpAny_of_eq (a := ("__class__" : Str)) (by first | rfl | kernel_rfl) ?_)
  refine wpAny_bind (L0.at (wpAny_bind (L3.at ?_)))
  show wpAny _ _ (holding [Value.builtin "object.__class__"] (call (.builtin "getset_descriptor.__get__") [.builtin "object.__class__", .ref x, .ref D]) >>= ret) _ _ _
  refine wpAny_bind (wpAny_holding (wpAny_call (cls_getx (s := ⟨hh, g, d, t + 1, os⟩) X L0 F0.mo ?_)))
  refine wpAny_pure ?_
  exact handed_on rfl (wpAny_pure h)
theorem kitx_exc (F0 : XFacts K D) : KitX K (.ref x) (.ref D) (fun h => ∃ o, h.get? x = some o ∧ o.cls = .ref D) where
  ty := fun _ _ _ ⟨o, he, hc⟩ => hc ▸ (Looks.ld he).andThen .now
  it := fun _ _ X _ => by
    obtain ⟨cdD, hcD⟩ := Option.isSome_iff_exists.mp F0.cl
    unfold clsIn at hcD
    split at hcD
    · rename_i c' d' cd' sl' ho; intro A' Q' E' s' k q; unfold isType loadHead
      exact wpAny_bind (wpAny_loadPart (k _ _ (X _ _ ho)) (wpAny_pure q))
    · cases hcD
  ne := fun h tp dd its n sl X htp => by
    obtain ⟨cdD, hcD⟩ := Option.isSome_iff_exists.mp F0.cl
    refine Bool.eq_false_iff.mpr fun q => ?_; have e : D = tp := Value.ref.inj (beq_iff_eq.mp q); subst e
    unfold clsIn at hcD; split at hcD
    · rename_i c' d' cd' sl' ho; have z := (X _ _ ho).symm.trans htp; cases z
    · cases hcD
  ca := fun X ⟨o, he, hc⟩ k => cls_exc F0 X he hc k
end
end L4
set_option Elab.async false
set_option linter.all false
set_option maxRecDepth 100000
set_option maxHeartbeats 1000000
namespace L4
open PySem PySem.Spec PyProof.Rows L2 L3
section
variable {X : Cx}
def clsV : V → Option Value
  | .ref C => some (.ref C)
  | .ty n => some (.type n)
  | _ => none
def rIsXD (K : PySem.W.Frag) : List V → Hp → VK → Prop := fun xs H Q => ∃ a D d c u b, xs = [.ref a, c] ∧ H a = some (exD (.ref D) d a) ∧ clsV c = some u ∧ XFacts K D ∧ PySem.W.kitOne K (.ref D) u = some b ∧ Q (.bl b) H
theorem call_isxD : CallR X (.builtin "isinstance") (rIsXD X.K) := by
  intro pins s σ H xs us Q I r h
  obtain ⟨a, D, d, c, u, b, rfl, ha, hc, F0, e, q⟩ := h
  obtain ⟨v, w, rfl, rv, rw'⟩ := vals2' r
  cases rv
  obtain ⟨⟨o, _, ho, hcl, _, _⟩, _⟩ := I.hok a _ ha
  have ew : w = u := by
    cases c <;> simp only [clsV] at hc <;> cases hc
    · exact rw'
    · exact rw'
  subst ew
  exact PySem.W.kia_one (kitx_exc F0) I.kIn ⟨o, ho, hcl⟩ e (fun z => nomatch z) fun tk => ⟨.bl b, H, I.tok _, rfl, q⟩
def rCount (K : PySem.W.Frag) : V → List V → Hp → VK → Prop := fun x xs H Q => ∃ (a : Addr) (ys : List V) (y : V), x = .ref a ∧ xs = [y] ∧ SqL K H a ys ∧ flatV y = true ∧ ys.all flatV = true ∧ Q (.int (ys.countP fun z => eqV z y)) H
theorem mt_count : MtR X "list.count" (rCount X.K) := by
  intro pins s σ H x xs v us Q I rx rxs h
  obtain ⟨a, ys, y, rfl, rfl, hs, fy, fys, q⟩ := h
  cases rx
  cases rxs with
  | cons ry rt =>
    rename_i uy ut
    cases rt
    obtain ⟨its, rv, ⟨⟨cls, dd, data, sl⟩, n, ho, hc, hdn, hd⟩, hlen⟩ := I.list hs
    simp only at hc hd
    subst hc hd
    refine call_meets PySem.F.slot_list_count ⟨_, ho, rfl⟩ PySem.F.entry_list_count (PySem.F.args_list_count_2 _ _) (SeqAt.list_countAt a its.toArray n dd sl uy (eqU y)) ⟨ho, fun u' hu' => mem_eqAt ry fy rv fys u' (by simpa using hu'), ?_⟩
    have e : its.countP (eqU y) = ys.countP fun z => eqV z y := by
      clear ho q hlen hs hdn
      induction rv with
      | nil => rfl
      | @cons z u zs us hz hr ih =>
        simp only [List.all_cons, Bool.and_eq_true] at fys
        rw [List.countP_cons, List.countP_cons, ih fys.2, eqU_of hz fys.1]
    refine ⟨.int _, H, I.tok _, ⟨_, rfl⟩, ?_⟩
    have e2 : (its.toArray.toList.countP (eqU y)) = ys.countP fun z => eqV z y := by simpa using e
    rw [e2]; exact q
theorem rd_tyL {K : PySem.W.Frag} {H : Hp} {p : Addr} {xs : List V} (h : H p = some (.lst xs)) : tyV K "list" (.ref p) H = True := eq_true (.inl ⟨rfl, xs, SqL.of h⟩)
end
end L4
set_option Elab.async false
set_option linter.all false
set_option maxRecDepth 100000
set_option maxHeartbeats 1000000
namespace L4
open PySem PySem.Spec PySem.Calls PyProof.Rows L2 L3
open Builtin Builtin.Str
section
variable {X : Cx} {pins : List (Addr × Obj)} {σ : L2.St} {H : Hp} {s : Shared}
theorem mk_eval {x : Str} {C : Addr} {B Bn newId nid initId inN : String} {bmB bmN : List Value} {e : Expr} {te : TE} {np pos : Pos} {Q : VK} (O : OwnCls x C bmB newId X.mg X.base) (Fn : ExcBaseFacts Bn newId inN bmN) (hBn : bmB.contains (.type Bn) = true) (FB : ExcBaseFacts B nid initId bmB) (hkp : PySem.W.keepIn X.K (.ref C) = true)
    (hg : Gl X x) (he : PE X e te) (hdb : (x == ("__debug__" : Str)) = false) (hs : starEach [e] X.env = [(false, eval e X.env)]) (I : Inv X pins σ H s) (h : te σ H Q) :
    wpAny (model X.prog X.w) X.A (eval (.Call (.Name x np) [e] [] pos) X.env) (fun r s' => ∃ (u : Value) (x1 : V) (H1 : Hp) (s1 : Shared) (h' : Heap) (a : Addr), r = .ref a ∧ s' = { s1 with heap := h' } ∧ Inv X pins σ H1 s1 ∧ RelV x1 u ∧ Heap.MadeExcOf s1.heap h' a (.ref C) [u] ∧ Q x1 H1) X.xe s := by
  obtain ⟨tl, N', nm, q', bs, hdct, sn, sub, ab, col, dd, k0, k1, k2, k3, k5, mN, hC, hN, hni, T⟩ := O.obj
  refine wpAny_Call_Name_kw (ld_glob I hg O.bound ?_ hdb)
  refine PySem.W.callWith_K (h₀ := X.base) I.ok.mod.kin hkp ?_ hs rfl
  rw [hs]
  refine Calls.spliced_cons (thn (he pins s σ H _ I h) fun v s1 ⟨x1, H1, I1, r1, q1⟩ => Calls.spliced_nil ⟨I1.kIn, ?_⟩)
  obtain ⟨h1, g1, d1, t1, os1⟩ := s1
  refine wpAny_call_exc_subU Fn hBn FB (T.keeps I1.bk) (I1.bk _ _ hC) (hN.keeps I1.bk) hni (fun h' a hm => ?_) (by show 1 ≤ sizeLine; decide)
  exact ⟨v, x1, H1, _, h', a, rfl, rfl, I1, r1, hm, q1⟩
def tMkX (te : TE) (C : Addr) : TE := fun σ H Q => te σ H fun _ H1 => ∀ a, H1 a = none → Q (.ref a) (upd H1 a (exO (.ref C) a))
theorem rd_mkX {te : TE} {C : Addr} {Q : VK} : tMkX te C σ H Q = te σ H fun _ H1 => ∀ a, H1 a = none → Q (.ref a) (upd H1 a (exO (.ref C) a)) := rfl
structure SFacts (K : PySem.W.Frag) (D : Addr) : Prop where
  st : PySem.W.findIn K (.ref D) "__str__" = some (some (.builtin "BaseException.__str__"))
  be : PySem.W.mroIn K D (.type "BaseException") = some true
theorem str_exc {prog : Program} {w : World} {A : Around} {E : Value → Shared → Prop} {K : PySem.W.Frag} {s : Shared} {e C t : Addr} {m : Str} {tk : Tok} {oe : Obj} {vs : Array Value} {ot : Obj} {n : Nat} {Q : Value → Shared → Prop} (FS : ExcStrFacts "ValueError" "ValueError") (hu : A.in1.in1.units < cLine) (F0 : SFacts K C) (Xk : K.In s.heap)
    (he : s.heap.get? e = some oe) (hc : oe.cls = .ref C) (hd : oe.data = .fields vs) (h0 : vs[0]? = some (.ref t)) (hdi : oe.dict = none) (ht : s.heap.get? t = some ot) (htd : ot.data = .seq #[.str m tk] n) (hq : Q (.str m tk) s) : wpAny (model prog w) A (call (.type "str") [.ref e]) Q E s := by
  have I : PySem.W.InstAt s.heap e oe C none := ⟨he, hc, by unfold PySem.W.notCls; rw [hd], by rw [hdi]; trivial⟩
  refine callType_codes (T := "str") (Bi := Builtin.«object.__init__») (Q₁ := fun r s₁ => ∃ y u, r = .str y u ∧ Q r s₁) PySem.F.called_str (PySem.F.typeCall_str_1 _) PySem.F.entry_object_init ?_ ?_
  · refine codeAny_of_tree ?_
    show wpAny _ A.in1.in1 (do checkBuiltinCall "str.__new__" ⟨[.type "str", .ref e], []⟩; again (.builtin "str.__new__" ⟨[.type "str", .ref e], []⟩)) _ _ s
    refine wpAny_bind (wpAny_of_eq (PySem.F.newCall_str_1 _) (wpAny_pure ⟨plainId_quiet (by decide +kernel) _, codeAny_builtin PySem.F.entry_str_new ?_⟩))
    rw [Around.under_plainId (by decide +kernel) _]
    rw [str_new_tree]
    refine wpAny_bind (wpAny_pure ?_)
    refine wpAny_bind (wpAny_of_eq isSubtype_str_str ?_)
    refine wpAny_bind ?_
    show wpAny _ _ (PySem.Builtin.Str.strOf (.ref e)) _ _ s
    unfold PySem.Builtin.Str.strOf
    rw [show isExactStr (.ref e) = false from rfl]
    refine wpAny_bind (m := cRoomFor _ _) (wpAny_cRoomFor hu ?_)
    refine wpAny_bind (m := callSpecial? (.ref e) (Str.ofString "__str__")) (PySem.W.kfo_special Xk I F0.st (FS.str.bind) ?_)
    refine wpAny_call (codeAny_call_builtin FS.str.plain PySem.F.entry_bexc_str (PySem.W.check_slot (i := "BaseException.__str__") (owner := "BaseException") (n := "__str__") (by decide +kernel) (by decide +kernel) (I.type.andThen (PySem.W.looks_mroIn Xk F0.be)) (PySem.F.args_bexc_str _) ?_))
    unfold Builtin.«BaseException.__str__»
    have hargs : ∀ {M : Model} {A : Around} {E : Value → Shared → Prop} {Q : Value × List Value → Shared → Prop}, Q (.ref t, [.str m tk]) s → wpAny M A (BaseException.bexcArgs (.ref e)) Q E s := fun {M A E Q} hq => by
      unfold BaseException.bexcArgs
      exact wpAny_bind (wpAny_field he hd h0 (wpAny_bind (wpAny_seqItems ht htd (wpAny_pure hq))))
    repeat (first | with_reducible refine hargs ?_ | wp_step)
    exact ⟨_, _, rfl, hq⟩
  · rintro obj s₁ ⟨y, u, rfl, hq⟩
    exact ⟨typeIs_str _ _ _, PySem.F.args_object_init_2 _ _, object_init_meets PySem.F.called_str.init.lookup PySem.F.called_str.made (by decide) prog w A.in1 _ s₁ ⟨typeIs_str _ _ _, rfl, hq⟩⟩
def tStrX (te : TE) : TE := fun σ H Q => te σ H fun v H1 => ∃ m, v = .str m ∧ Q (.str m) H1
theorem rd_strX {te : TE} {Q : VK} : tStrX te σ H Q = te σ H fun v H1 => ∃ m, v = .str m ∧ Q (.str m) H1 := rfl
theorem pe_strX {x : Str} {C : Addr} {B Bn newId nid initId inN : String} {bmB bmN : List Value} {e : Expr} {te : TE} {np pos p1 p2 : Pos} (O : OwnCls x C bmB newId X.mg X.base) (Fn : ExcBaseFacts Bn newId inN bmN) (hBn : bmB.contains (.type Bn) = true) (FB : ExcBaseFacts B nid initId bmB) (hkp : PySem.W.keepIn X.K (.ref C) = true) (F0 : SFacts X.K C)
    (hu : X.A.units + 64 < cLine) (hgs : Gl X "str") (hms : X.mg "str" = none) (hg : Gl X x) (he : PE X e te) (hdb : (x == ("__debug__" : Str)) = false := by decide) (hs : starEach [e] X.env = [(false, eval e X.env)] := by rfl)
    (hs2 : starEach [Expr.Call (.Name x np) [e] [] pos] X.env = [(false, eval (.Call (.Name x np) [e] [] pos) X.env)] := by rfl) : PE X (.Call (.Name "str" p1) [.Call (.Name x np) [e] [] pos] [] p2) (tStrX te) := by
  intro pins s σ H Q I h
  refine wpAny_Call_Name_kw (ld_blt I hgs hms (by decide +kernel : bootBuiltins "str" = some (.type "str")) ?_)
  refine PyProof.Rows.callWith_type1 ?_ hs2 rfl
  rw [hs2]
  refine Calls.spliced_cons (thn (mk_eval O Fn hBn FB hkp hg he hdb hs I h) fun r s' ⟨u, x1, H1, s1, h', a, er, es, I1, r1, hm, m, em, q1⟩ => Calls.spliced_nil ?_)
  subst er es em
  obtain ⟨tk, rfl⟩ := r1
  obtain ⟨t, h1, _, h2⟩ := hm.there
  have I2 : Inv X pins σ H1 { s1 with heap := h' } := I1.kept (t' := s1.toks) hm.keeps
  exact str_exc PySem.F.excStr_ValueError (by show X.A.units + 1 + 1 < cLine; omega) F0 I2.kIn h1 rfl rfl rfl rfl h2 rfl ⟨.str m, H1, I2, ⟨tk, rfl⟩, q1⟩
end
end L4
set_option Elab.async false
set_option linter.all false
set_option maxRecDepth 100000
set_option maxHeartbeats 1000000
namespace L4
open PySem PySem.Spec PySem.Calls PyProof.Rows L2 L3
section
variable {prog : Program} {w : World} {A : Around} {EE : Value → Shared → Prop} {hp : Heap} {gs : Array GenState} {dr : Drawn} {tk : Nat} {os : OsState}
variable {nm q : Str} {C N : Addr} {bs bm bmB : List Value} {hdct : Bool} {sn : List Str} {sub : List Value} {ab : Bool} {col : Option Bool} {dd : Option Addr} {k0 k1 k2 k3 k5 : Option Value} {B Bn newId nid initId inN : String} {bmN : List Value}
theorem type_call_initU (Fn : ExcBaseFacts Bn newId inN bmN) (hBn : bmB.contains (.type Bn) = true) (F : ExcBaseFacts B nid initId bmB) (T : OwnTail hp bmB bm) {mN : Str → Option Value} {args : List Value} {fI : Addr} {oI : Obj} {QQ : Fin → Shared → Prop}
    (hC : hp.get? C = some (excClassObj nm q C N bs bm hdct sn sub ab col dd k0 k1 k2 k3 k5 newId)) (hns : hp.Ns N mN) (hini : mN "__init__" = some (.ref fI)) (hfn : hp.get? fI = some oI) (hfc : oI.cls = .type "function")
    (hq : ∀ h' e, Heap.MadeExcOf hp h' e (.ref C) args → wpAny (model prog w) A (call (.ref fI) (.ref e :: args)) (fun r s' => r = .none ∧ QQ (.done (.ret (.ref e))) s') EE ⟨h', gs, dr, tk, os⟩) (hl : args.length ≤ sizeLine) :
    wpAny (model prog w) A (Builtin.«type.__call__» ⟨.ref C :: args, []⟩) QQ EE ⟨hp, gs, dr, tk, os⟩ := by
  repeat (first | with_reducible refine wpAny_loadPart_at hC ?_ | with_reducible refine wpAny_madeBy_exc hC ?_ | wp_step)
  refine codeAny_call_builtin_code (Code.quiet_builtin _ Fn.quiet) (wpAny_check_new_subU Fn hBn T hC (codeAny_exc_new_subU Fn hBn F T hC ?_ hl))
  show wpAny _ _ _ _ _ _
  generalize hN1 : (hp.push { cls := .type "tuple", data := .seq args.toArray }) = h1
  have kp1 : ∀ b o, hp.get? b = some o → h1.get? b = some o := fun b o e => by subst hN1; exact Heap.get?_push_of_some _ e
  have sz1 : h1.objs.size = hp.objs.size + 1 := by subst hN1; exact Heap.size_push _ _
  generalize hN2 : h1.push { cls := .ref C, data := .fields #[.ref hp.objs.size, .none, .none, .none, .bool false, .none] } = h2
  have kp2 : ∀ b o, hp.get? b = some o → h2.get? b = some o := fun b o e => by subst hN2; exact Heap.get?_push_of_some _ (kp1 b o e)
  have hC2 := kp2 _ _ hC
  have hns2 : h2.Ns N mN := hns.keeps kp2
  have T2 := T.keeps kp2
  have hnew : h2.get? (hp.objs.size + 1) = some { cls := .ref C, data := .fields #[.ref hp.objs.size, .none, .none, .none, .bool false, .none] } := by
    subst hN2
    exact Heap.get?_push_at sz1.symm rfl
  have hcC : (Value.ref C :: bm).contains (.ref C) = true := by simp
  unfold isInstance
  repeat (first | with_reducible refine wpAny_loadPart_at hnew ?_ | (with_reducible refine wpAny_isSubtype_exc hC2 ?_; rw [hcC]) | wp_step)
  show wpAny _ _ (typeLookup (.ref C) _) _ _ _
  refine wpAny_typeLookup_tail hC2 hns2 T2 F.mroIs F.init.lookup ?_
  rw [hini]
  refine wpAny_holding (wpAny_bind ?_)
  unfold bindSpecial
  refine wpAny_bind (wpAny_typeOf (T := "function") ⟨_, kp2 _ _ hfn, hfc⟩ ?_)
  rw [if_pos (by decide)]
  have made : Heap.MadeExcOf hp h2 (hp.objs.size + 1) (.ref C) args := ⟨kp2, Heap.get?_none_of_le (Nat.le_succ _), hp.objs.size, hnew, Heap.get?_none_of_le (Nat.le_refl _), by
    subst hN2 hN1
    exact Heap.get?_push_of_some _ (Heap.get?_push_at rfl rfl)⟩
  refine wpAny_pure (wpAny_bind (wpAny_mono (hq h2 (hp.objs.size + 1) made) (fun r s' hr => ?_) fun _ _ x => x))
  obtain ⟨rfl, hQ⟩ := hr
  wp_walk
  exact hQ
theorem call_initU (Fn : ExcBaseFacts Bn newId inN bmN) (hBn : bmB.contains (.type Bn) = true) (F : ExcBaseFacts B nid initId bmB) (T : OwnTail hp bmB bm) {mN : Str → Option Value} {args : List Value} {fI : Addr} {oI : Obj} {QQ : Value → Shared → Prop}
    (hC : hp.get? C = some (excClassObj nm q C N bs bm hdct sn sub ab col dd k0 k1 k2 k3 k5 newId)) (hns : hp.Ns N mN) (hini : mN "__init__" = some (.ref fI)) (hfn : hp.get? fI = some oI) (hfc : oI.cls = .type "function")
    (hq : ∀ h' e, Heap.MadeExcOf hp h' e (.ref C) args → wpAny (model prog w) (A.under (.builtin "type.__call__" ⟨.ref C :: args, []⟩)) (call (.ref fI) (.ref e :: args)) (fun r s' => r = .none ∧ QQ (.ref e) s') EE ⟨h', gs, dr, tk, os⟩) (hl : args.length ≤ sizeLine) :
    wpAny (model prog w) A (call (.ref C) args) QQ EE ⟨hp, gs, dr, tk, os⟩ := by
  have t1 := tc_lookup
  have t2 := tc_bind (.ref C)
  have t3 : (⟨hp, gs, dr, tk, os⟩ : Shared).TypeIs (.ref C) "type" := ⟨_, hC, rfl⟩
  refine wpAny_call (codeAny_of_tree (show wpAny _ _ (callAny (.ref C) _) _ _ _ from ?_))
  repeat (any_goals (first | assumption | with_reducible refine wpAny_loadPart_at hC ?_ | wp_step))
  exact ⟨rfl, codeAny_call_builtin_at (Code.quiet_builtin _ (by decide +kernel)) entry_typeCall (wpAny_check_type_call_sub hC (type_call_initU Fn hBn F T hC hns hini hfn hfc (fun h' e hm => hq h' e hm) hl))⟩
end
abbrev veMro : List Value := [.type "ValueError", .type "Exception", .type "BaseException", .type "object"]
def exM (C : Value) (d : Option Addr) (a : Addr) : HO := .ext fun h => ∃ t, h.get? a = some { cls := C, dict := d, data := .fields #[.ref t, .none, .none, .none, .bool false, .none] }
theorem exm_ok {P : Program} {w : World} {H : Hp} {h : Heap} {C : Value} {d : Option Addr} {a t : Addr} (e : h.get? a = some { cls := C, dict := d, data := .fields #[.ref t, .none, .none, .none, .bool false, .none] }) : ObjOk P w H h a (exM C d a) := ⟨⟨t, e⟩, ⟨_, e⟩, fun h1 h2 ⟨t, e⟩ k => ⟨t, k _ e⟩⟩
structure OwnI (x : Str) (C fI : Addr) (bmB : List Value) (newId : String) (mg : Str → Option Value) (h : Heap) : Prop where
  bound : mg x = some (.ref C)
  obj : ∃ bm N nm q bs hdct sn sub ab col dd k0 k1 k2 k3 k5 mN, h.get? C = some (excClassObj nm q C N bs bm hdct sn sub ab col dd k0 k1 k2 k3 k5 newId) ∧ h.Ns N mN ∧ mN "__init__" = some (.ref fI) ∧ OwnTail h bmB bm
theorem OwnI.keeps {x : Str} {C fI : Addr} {bmB : List Value} {newId : String} {mg : Str → Option Value} {h h' : Heap} (O : OwnI x C fI bmB newId mg h) (k : ∀ b o, h.get? b = some o → h'.get? b = some o) : OwnI x C fI bmB newId mg h' := by
  obtain ⟨b, bm, N, nm, q, bs, hdct, sn, sub, ab, col, dd, k0, k1, k2, k3, k5, mN, h1, h2, h3, h4⟩ := O
  exact ⟨b, bm, N, nm, q, bs, hdct, sn, sub, ab, col, dd, k0, k1, k2, k3, k5, mN, k _ _ h1, h2.keeps k, h3, h4.keeps k⟩
def excInI (K : PySem.W.Frag) (C fI : Addr) (bmB : List Value) (newId : String) : Bool := match K.lookup C with
  | some ⟨.type "type", _, .cls cd, sl⟩ => (match cd.mro, sl.toList with
    | .ref C' :: bm, [_, _, _, _, some (.builtin n), _] => C' == C && (n == newId && (!cd.hasDel && (PySem.W.tailIn K bmB bm && (PySem.W.nsOkIn K cd.ns && PySem.W.nsIn K cd.ns "__init__" == some (some (.ref fI))))))
    | _, _ => false)
  | _ => false
theorem ns_at {K : PySem.W.Frag} {h : Heap} {N : Addr} {m : Str → Option Value} {n : Str} {v : Value} (X : K.In h) (G : h.Ns N m) (e : PySem.W.nsIn K N n = some (some v)) : m n = some v := by
  obtain ⟨o, es, ep, ho, hd, hr, hf⟩ := G
  unfold PySem.W.nsIn at e
  split at e
  · rename_i q
    have z := ho.symm.trans (X _ _ q)
    cases z
    cases hd
    split at e
    · rename_i en he
      cases e
      have hz := hf n
      unfold nsFind findBy at hz
      rw [← Array.find?_toList, he] at hz
      exact hz.symm
    · split at e
      · cases e
      · cases e
  · cases e
theorem own_inI {K : PySem.W.Frag} {base : Heap} {mg : Str → Option Value} {x : Str} {C fI : Addr} {bmB : List Value} {newId : String} (X : K.In base) (G : base.Ns mainGlobals mg) (e : PySem.W.nsIn K mainGlobals x = some (some (.ref C))) (q : excInI K C fI bmB newId = true) : OwnI x C fI bmB newId mg base := by
  refine ⟨PySem.W.mg_of X G e, ?_⟩
  unfold excInI at q
  split at q
  · rename_i dd cd sl ho
    split at q
    · rename_i C' bm k0 k1 k2 k3 n k5 hm hs
      simp only [Bool.and_eq_true, beq_iff_eq, Bool.not_eq_true'] at q
      obtain ⟨e1, e2, hdel, ht, hok, hni⟩ := q
      subst e1 e2
      obtain ⟨nm, bs, mro, ns, qn, hd, sn, sub, ab, col, del⟩ := cd
      dsimp only at hm hdel hok hni
      subst hm hdel
      obtain ⟨l⟩ := sl
      dsimp only at hs
      subst hs
      exact ⟨bm, ns, nm, qn, bs, hd, sn, sub, ab, col, dd, k0, k1, k2, k3, k5, _, X _ _ ho, .of_isNs (PySem.W.isNs_of_in X hok), ns_at X (.of_isNs (PySem.W.isNs_of_in X hok)) hni, PySem.W.tail_of_in X ht⟩
    · cases q
  · cases q
structure IFacts (K : PySem.W.Frag) (C JE : Addr) (f : Str) : Prop where
  mr : (PySem.W.clsIn K C).map (fun cd => (cd.mro, cd.hasDict)) = some (.ref C :: .ref JE :: veMro, true)
  sa : PySem.W.findIn K (.ref C) "__setattr__" = some (some (.builtin "object.__setattr__"))
  pl : PySem.W.findIn K (.ref C) f = some none
  ve : PySem.W.mroIn K C (.type "ValueError") = some true
  ob : PySem.W.mroIn K C (.type "object") = some true
  rd : PySem.W.readsIn K JE (.type "type") = true
  fc : PySem.W.findCls K (.ref JE) (.type "type") "__init__" = some (.val (.builtin "ValueError.__init__"))
  sg : PySem.W.specialIn K (.ref JE) "__getattribute__" = some (some (.builtin "type.__getattribute__"))
theorem refuse_ve (self : Value) : PySem.refuseLoop self "__setattr__" veMro = pure () := by kernel_rfl
section
variable {prog : Program} {w : World} {A : Around} {EE : Value → Shared → Prop} {K : PySem.W.Frag} {s : Shared} {C JE a : Addr} {f : Str}
theorem super_init {x : Str} {fI : Addr} {newId : String} {mg : Str → Option Value} {d : Option Addr} {t : Addr} {u : Value} {QQ : Value → Shared → Prop} (O : OwnI x C fI veMro newId mg s.heap) (he : s.heap.get? a = some { cls := .ref C, dict := d, data := .fields #[.ref t, .none, .none, .none, .bool false, .none] })
    (hq : ∀ h' t', h'.get? a = some { cls := .ref C, dict := d, data := .fields #[.ref t', .none, .none, .none, .bool false, .none] } → (∀ b o, b ≠ a → s.heap.get? b = some o → h'.get? b = some o) → QQ .none { s with heap := h' }) :
    wpAny (model prog w) A (call (.builtin "ValueError.__init__") [.ref a, u]) QQ EE s := by
  obtain ⟨hp, gs, dr, tk, os⟩ := s
  obtain ⟨_, bm, N, nm, q, bs, hdct, sn, sub, ab, col, dd, k0, k1, k2, k3, k5, mN, hC, hns, hini, T⟩ := O
  refine wpAny_call (codeAny_call_builtin PySem.F.excBase_ValueError.init.plain PySem.F.excBase_ValueError.initEntry (wpAny_check_init_subU PySem.F.excBase_ValueError T hC he rfl ?_))
  wp_walk
  refine hq _ hp.objs.size ?_ fun b o hb e => ?_
  · rw [Heap.get?_update_self _ (Heap.get?_push_of_some _ he) rfl]
    rfl
  · rw [Heap.get?_update_other _ _ (Ne.symm hb)]
    exact Heap.get?_push_of_some _ e
theorem set_new {t : Addr} {u : Value} {QQ : Unit → Shared → Prop} (F0 : IFacts K C JE f) (Xk : K.In s.heap) (he : s.heap.get? a = some { cls := .ref C, dict := none, data := .fields #[.ref t, .none, .none, .none, .bool false, .none] })
    (hq : ∀ h' dx, s.heap.get? dx = none → dx ≠ a → h'.get? a = some { cls := .ref C, dict := some dx, data := .fields #[.ref t, .none, .none, .none, .bool false, .none] } → h'.Ns1 dx (fun y => if y = f then some u else none) →
      (∀ b o, b ≠ a → s.heap.get? b = some o → h'.get? b = some o) → QQ () { s with heap := h', toks := s.toks + 2 }) : wpAny (model prog w) A (setAttr (.ref a) f u) QQ EE s := by
  obtain ⟨hp, gs, dr, tk, os⟩ := s
  obtain ⟨cd, hcd, hm0⟩ := Option.map_eq_some_iff.mp F0.mr
  have hmro : cd.mro = .ref C :: .ref JE :: veMro := congrArg Prod.fst hm0
  have hdic : cd.hasDict = true := congrArg Prod.snd hm0
  have I : PySem.W.InstAt hp a _ C none := ⟨he, rfl, rfl, trivial⟩
  have sub : PySem.W.Looks (model prog w) hp (isInstance (.ref a) (.type "object")) true := I.type.andThen (PySem.W.looks_mroIn Xk F0.ob)
  have hm : PySem.W.Looks (model prog w) hp (mroOf (.ref C)) cd.mro := (PySem.W.looks_clsIn Xk hcd).andThen .now
  have SF := PySem.F.store_object
  refine PySem.W.set_plain (s := ⟨hp, gs, dr, tk, os⟩) Xk I F0.sa (codeAny_call_builtin SF.slot.plain SF.entry (@PySem.W.check_slot (model prog w) _ _ ⟨hp, gs, dr, tk + 1, os⟩ "object.__setattr__" "object" "__setattr__" (.ref a) [.str f tk, u] [] _ SF.kind SF.split sub (SF.args (.ref a) (.str f tk) u) ?_))
  rw [PySem.W.osa_eq, refuse_eq]
  refine wpAny_bind (wpAny_bind (I.type.here (s := ⟨hp, gs, dr, tk + 1, os⟩) (wpAny_bind (hm.here (s := ⟨hp, gs, dr, tk + 1, os⟩) ?_))))
  rw [hmro, refuseLoop_ref, refuseLoop_ref, refuse_ve]
  refine wpAny_pure (wpAny_bind (I.type.here (s := ⟨hp, gs, dr, tk + 1, os⟩) (wpAny_bind ((PySem.W.looks_findIn Xk F0.pl).here (s := ⟨hp, gs, dr, tk + 1, os⟩) (wpAny_bind (wpAny_pure ?_))))))
  -- the dict is made
  refine wpAny_bind (wpAny_pure (wpAny_bind (wpAny_bind (wpAny_loadPart (s := ⟨hp, gs, dr, tk + 1, os⟩) he (wpAny_bind (PySem.W.Looks.here (s := ⟨hp, gs, dr, tk + 1, os⟩) (PySem.W.looks_clsIn Xk hcd) ?_))))))
  rw [hdic, if_neg (by decide)]
  refine show wpAny _ _ (alloc { cls := .type "dict", data := .dict #[] } >>= fun d => update a (fun o => { o with dict := some d }) >>= fun _ => dictMade (.ref C) a d) _ _ _ from ?_
  refine wpAny_bind (wpAny_alloc (wpAny_bind (wpAny_update (s := ⟨hp.push { cls := .type "dict", data := .dict #[] }, gs, dr, tk + 1, os⟩) (Heap.get?_push_of_some _ he) (wpAny_pure ?_))))
  have hd0 : hp.objs.size ≠ a := Nat.ne_of_gt (Heap.lt_size he)
  have he2 : ((hp.push { cls := .type "dict", data := .dict #[] }).update a fun o => { o with dict := some hp.objs.size }).get? a = some { cls := .ref C, dict := some hp.objs.size, data := .fields #[.ref t, .none, .none, .none, .bool false, .none] } := by
    rw [Heap.get?_update_self _ (Heap.get?_push_of_some _ he) rfl]
  have kp2 : ∀ b o, b ≠ a → hp.get? b = some o → ((hp.push { cls := .type "dict", data := .dict #[] }).update a fun o => { o with dict := some hp.objs.size }).get? b = some o := fun b o hb e => by
    rw [Heap.get?_update_other _ _ (Ne.symm hb)]
    exact Heap.get?_push_of_some _ e
  have hdx : ((hp.push { cls := .type "dict", data := .dict #[] }).update a fun o => { o with dict := some hp.objs.size }).get? hp.objs.size = some { cls := .type "dict", data := .dict #[] } := by
    rw [Heap.get?_update_other _ _ (Ne.symm hd0)]
    exact Heap.get?_push_size hp rfl
  revert he2 kp2 hdx
  generalize ((hp.push { cls := .type "dict", data := .dict #[] }).update a fun o => { o with dict := some hp.objs.size }) = h2
  intro he2 kp2 hdx
  have ns0 : h2.Ns hp.objs.size (fun _ => none) := ⟨_, #[], _, hdx, rfl, (fun e he => absurd he (by simp)), fun _ => rfl⟩
  have ns1 : h2.Ns1 hp.objs.size (fun _ => none) := Heap.Ns1.of_empty ns0
  refine show wpAny _ _ (Builtin.ObjectAttr.storeInDict hp.objs.size (.str f tk) f u) _ _ _ from ?_
  unfold Builtin.ObjectAttr.storeInDict
  refine wpAny_bind (wpAny_pure (wpAny_bind (wpAny_nsSet1 (s := ⟨h2, gs, dr, tk + 1, os⟩) ns1 fun h3 hn3 sb => ?_)))
  obtain ⟨oD, esD, epD, hoD, hdD, hcD⟩ := hn3.count (PySem.Within.cons f u (m := fun _ => none) (ns := []) fun y hy => absurd rfl hy)
  refine wpAny_bind (wpAny_lookBehind hoD (by rw [hdD]; exact pastItsLine_dict (Nat.le_trans hcD (by rw [List.length_cons]; decide))) ?_)
  exact wpAny_pure (hq h3 hp.objs.size (Heap.get?_none_of_le (Nat.le_refl _)) hd0 ((sb.2 _ (Ne.symm hd0)).trans he2) hn3 fun b o hb e => (sb.2 b fun z => by
    have := Heap.lt_size e
    rw [z] at this
    exact Nat.lt_irrefl _ this).trans (kp2 b o hb e))
theorem get_own {o : Obj} {vs : Array Value} {dx : Addr} {mA : Str → Option Value} {u : Value} {expr : Bool} {QQ : Value → Shared → Prop} (F0 : IFacts K C JE f) (XF : XFacts K C) (Xk : K.In s.heap) (he : s.heap.get? a = some o) (hc : o.cls = .ref C) (hdi : o.dict = some dx) (hda : o.data = .fields vs) (hn : s.heap.Ns1 dx mA) (hv : mA f = some u) (hu : PySem.W.handedIn u = true)
    (hq : QQ u { s with toks := s.toks + 1 }) : wpAny (model prog w) A (getAttr (.ref a) f expr) QQ EE s := by
  obtain ⟨hh, g, d, t, os⟩ := s
  obtain ⟨cd, hcd, hm0⟩ := Option.map_eq_some_iff.mp F0.mr
  have hdic : cd.hasDict = true := congrArg Prod.snd hm0
  have L0 : PySem.W.Looks (model prog w) hh (typeOf (.ref a)) (.ref C) := hc ▸ (PySem.W.Looks.ld he).andThen .now
  have L1 := PySem.W.looks_findIn (M := model prog w) Xk XF.ga
  have L2 := PySem.W.looks_findIn (M := model prog w) Xk XF.gt
  have L3 := PySem.W.looks_findIn (M := model prog w) Xk F0.pl
  have hx2 : (onTheHeap (Value.ref C) && Value.builtin "BaseException.__getattribute__" == Value.builtin "object.__getattribute__") = false := by rw [show (Value.builtin "BaseException.__getattribute__" == Value.builtin "object.__getattribute__") = false by decide +kernel, Bool.and_false]
  unfold getAttr getAttrBy
  refine wpAny_bind (wpAny_mkText (wpAny_holding (wpAny_bind (L0.at (wpAny_bind (L1.at ?_))))))
  show wpAny _ _ (if (onTheHeap (Value.ref C) && Value.builtin "BaseException.__getattribute__" == Value.builtin "object.__getattribute__") = true then _ else getAttrByItsOwn _ _ _ _ _ _) _ _ _
  rw [hx2, if_neg (by decide)]
  unfold getAttrByItsOwn
  refine wpAny_bind (show wpAny _ _ (typeLookup (.ref C) "__getattr__") _ _ _ from L2.at ?_)
  refine wpAny_bind (wpAny_attempt (wpAny_holding ?_))
  unfold callGetattribute
  rw [show (expr && onTheHeap (Value.builtin "BaseException.__getattribute__")) = false from Bool.and_false _, if_neg (by decide)]
  unfold boundAndCalled
  have fb := PySem.F.attr_ValueError.ga.bind (.ref a)
  rw [fb]
  refine wpAny_bind (wpAny_pure ?_)
  refine wpAny_call (codeAny_call_builtin PySem.F.attr_ValueError.ga.plain PySem.F.entry_bexc_ga ?_)
  have hk : builtinKind "BaseException.__getattribute__" = some .slot := by decide +kernel
  have hsplit : splitId "BaseException.__getattribute__" = some ("BaseException", "__getattribute__") := by decide +kernel
  have ha := PySem.F.args_bexc_ga (.ref a) (.str f t)
  have LI : PySem.W.Looks (model prog w) hh (isInstance (.ref a) (.type "BaseException")) true := L0.andThen (PySem.W.looks_subIn Xk XF.sb)
  simp only [checkBuiltinCall, hk, hsplit]
  show wpAny _ _ (isInstance (.ref a) (.type "BaseException") >>= _) _ _ _
  refine wpAny_bind (LI.at ?_)
  simp only [Bool.not_true, Bool.false_eq_true, if_false]
  refine wpAny_of_eq ha ?_
  unfold Builtin.«object.__getattribute__»
  refine wpAny_bind (wpAny_of_eq (a := (Value.ref a, [Value.str f t])) (by first | rfl | kernel_rfl) ?_)
  try dsimp only
  refine wpAny_bind (wpAny_of_eq (a := f) (by first | rfl | kernel_rfl) ?_)
  refine wpAny_bind (L0.at (wpAny_bind ?_))
  unfold Builtin.ObjectAttr.find
  refine wpAny_bind (L3.at (wpAny_bind (wpAny_pure (wpAny_bind (wpAny_pure ?_)))))
  unfold Builtin.ObjectAttr.ownThenClass
  refine wpAny_bind (show wpAny _ _ (Builtin.ObjectAttr.inOwnDict f (.ref a)) _ _ _ from ?_)
  unfold Builtin.ObjectAttr.inOwnDict Builtin.ObjectAttr.ownDict loadHead
  refine wpAny_bind (wpAny_bind (wpAny_loadPart (s := ⟨hh, g, d, t + 1, os⟩) he ?_))
  rw [hda]
  refine show wpAny _ _ (instanceDict a false) _ _ _ from ?_
  unfold instanceDict
  refine wpAny_bind (wpAny_loadPart (s := ⟨hh, g, d, t + 1, os⟩) he ?_)
  rw [hc]
  refine wpAny_bind (PySem.W.Looks.here (s := ⟨hh, g, d, t + 1, os⟩) (PySem.W.looks_clsIn Xk hcd) ?_)
  rw [hdic, if_neg (by decide)]
  show wpAny _ _ (match o.dict with | some d => pure (some d) | none => _) _ _ _
  rw [hdi]
  refine wpAny_pure (show wpAny _ _ (nsGet dx f) _ _ _ from wpAny_nsGet hn.ns ?_)
  rw [hv]
  refine wpAny_bind (wpAny_rule (wpAny_pure (wpAny_pure ?_)))
  exact PySem.W.handed_on hu hq
end
end L4
set_option Elab.async false
set_option linter.all false
set_option maxRecDepth 100000
set_option maxHeartbeats 1000000
namespace L4
open PySem PySem.Spec PySem.Calls PyProof.Rows L2 L3
section
variable {X : Cx} {pins : List (Addr × Obj)} {σ : L2.St} {H H' : Hp} {s : Shared}
theorem inv_less (I : Inv X pins σ H s) (le : ∀ b o, H' b = some o → H b = some o) (ge : ∀ b o, H b = some o → H' b = some o ∨ ∃ φ, o = .ext φ) : Inv X pins σ H' s := by
  have no : ∀ b, H b = none → H' b = none := fun b e => by
    cases z : H' b with
    | none => rfl
    | some o => rw [le b o z] at e; cases e
  refine ⟨I.ok, I.os, I.bare, ⟨I.base.keep, I.base.slot, fun b o e n x => no b (I.base.free b o e n x), I.base.there, fun b xs e => ?_, fun b o u e => ?_, fun b ps e => ?_⟩, I.loc, I.cell, no _ I.free, fun x c e => no c (I.freeC x c e), fun p hp => ?_, fun b u e => ?_, I.len⟩
  · rcases ge b _ (I.base.tups b xs e) with z | ⟨φ, z⟩
    · exact z
    · cases z
  · rcases ge b _ (I.base.frzs b o u e) with z | ⟨φ, z⟩
    · exact z
    · cases z
  · obtain ⟨more, q⟩ := I.base.tbls b ps e
    rcases ge b _ q with z | ⟨φ, z⟩
    · exact ⟨more, z⟩
    · cases z
  · obtain ⟨p1, p2, p3⟩ := I.pin p hp
    exact ⟨p1, no _ p2, p3⟩
  · refine (I.hok b u (le b u e)).stay (fun _ _ _ ec => ec) (fun c z => ?_) fun c xs z => ?_
    · rcases ge c _ z with y | ⟨φ, y⟩
      · exact y
      · cases y
    · rcases ge c _ z with y | ⟨φ, y⟩
      · exact y
      · cases y
theorem upd_me {a : Addr} {o : HO} (e : H a = some o) : upd H a o = H := by
  funext b
  by_cases hb : b = a
  · subst hb; rw [upd_same, e]
  · rw [upd_ne hb]
theorem mut_ext {a : Addr} {φ : Heap → Prop} (e : H a = some (.ext φ)) : Mut (H a) := by rw [e]; exact True.intro
def tSup (C : Addr) (t : TA) : TE := fun σ H Q => t σ H fun vs H1 => ∃ a d y, vs = [.ref a, y] ∧ H1 a = some (exM (.ref C) d a) ∧ Q .non H1
theorem rd_sup {C : Addr} {t : TA} {Q : VK} : tSup C t σ H Q = t σ H fun vs H1 => ∃ a d y, vs = [.ref a, y] ∧ H1 a = some (exM (.ref C) d a) ∧ Q .non H1 := rfl
theorem pe_sup {x je f : Str} {C JE fI : Addr} {newId : String} {e : Expr} {es : List Expr} {t : TA} {np apos pos : Pos} {pl : Sem Bool} (O : OwnI x C fI veMro newId X.mg X.base) (F0 : IFacts X.K C JE f) (hg : Gl X je) (hm : X.mg je = some (.ref JE)) (ha : PA X (e :: es) t)
    (hdb : (je == ("__debug__" : Str)) = false := by decide) (hst : starEach (e :: es) X.env = (false, eval e X.env) :: starEach es X.env := by rfl) (hpl : (backTo pos (starEach es X.env)).any (·.1) = false := by rfl)
    (ht : eval (.Call (.Attribute (.Name je np) "__init__" apos) (e :: es) [] pos) X.env = (do
      let ov ← eval (.Name je np) X.env
      standAt apos.atName
      let (f, first) ← holding [ov] (getMethod ov "__init__" pl)
      callWith pos f first (backTo pos (starEach (e :: es) X.env)) (backToKw pos (keywordEach [] X.env))) := by rfl) :
    PE X (.Call (.Attribute (.Name je np) "__init__" apos) (e :: es) [] pos) (tSup C t) := by
  intro pins s σ H Q I h
  refine PySem.W.methodCall_KW (pl := pl) (ld_glob I hg hm ?_ hdb) ht
  refine PySem.W.method_cls I.kIn F0.sg (PySem.W.cls_value I.kIn F0.rd F0.fc (by rfl) ?_)
  refine PyProof.Rows.callWith_builtin1 (thn (ha pos pins { s with toks := s.toks + 1 } σ H _ (I.tok _) h) fun us s2 ⟨vs, H2, I2, r, q⟩ => ?_) hst hpl
  obtain ⟨a, d, y, rfl, ea, q⟩ := q
  cases r with
  | cons r1 r2 =>
    cases r2 with
    | cons r2 r3 =>
      cases r3
      cases r1
      obtain ⟨⟨t0, e0⟩, _⟩ := I2.hok a _ ea
      refine super_init (O.keeps I2.bk) e0 fun h' t' e1 k1 => ?_
      have I3 := I2.write (x := a) (e := a) (t' := s2.toks) (mut_ext ea) (.inl rfl) (fun b u hb z => k1 b u hb z) ⟨_, e1⟩ (exm_ok (C := .ref C) (d := d) e1)
      rw [upd_me ea] at I3
      exact ⟨.non, H2, I3, rfl, q⟩
def tXNew (C : Addr) (ta tv : TE) (f : Str) : TS := fun D σ H => tv σ H fun y H1 => ta σ H1 fun x H2 => ∃ a, x = .ref a ∧ H2 a = some (exM (.ref C) none a) ∧ ∀ dx, H2 dx = none → dx ≠ a → D.nx σ (upd (upd H2 a (exM (.ref C) (some dx) a)) dx (.xd [(f, y)]))
theorem rd_xnew {C : Addr} {ta tv : TE} {f : Str} {D : Ends} : tXNew C ta tv f D σ H = tv σ H fun y H1 => ta σ H1 fun x H2 => ∃ a, x = .ref a ∧ H2 a = some (exM (.ref C) none a) ∧ ∀ dx, H2 dx = none → dx ≠ a → D.nx σ (upd (upd H2 a (exM (.ref C) (some dx) a)) dx (.xd [(f, y)])) := rfl
theorem free_of {a : Addr} (I : Inv X pins σ H s) (e : s.heap.get? a = none) : H a = none := by
  cases z : H a with
  | none => rfl
  | some o =>
    obtain ⟨ob, h2⟩ := obj_there (I.hok a o z)
    rw [e] at h2; cases h2
theorem inv_xnew {a dx : Addr} {C : Value} {f : Str} {y : V} {u : Value} {h' : Heap} {t : Addr} {tk : Nat} (I : Inv X pins σ H s) (ea : H a = some (exM C none a)) (nd : s.heap.get? dx = none) (hne : dx ≠ a) (e1 : h'.get? a = some { cls := C, dict := some dx, data := .fields #[.ref t, .none, .none, .none, .bool false, .none] })
    (hn : h'.Ns1 dx (fun z => if z = f then some u else none)) (ry : RelV y u) (k1 : ∀ b o, b ≠ a → s.heap.get? b = some o → h'.get? b = some o) : Inv X pins σ (upd (upd H a (exM C (some dx) a)) dx (.xd [(f, y)])) { s with heap := h', toks := tk } := by
  have hd := free_of I nd
  have ne : ∀ b o, H b = some o → b ≠ dx := fun b o e z => by rw [z, hd] at e; cases e
  have na : ∀ b o, H b = some o → (∀ φ, o ≠ .ext φ) → b ≠ a := fun b o e hh z => by rw [z, ea] at e; cases e; exact hh _ rfl
  have up : ∀ b o, H b = some o → (∀ φ, o ≠ .ext φ) → upd (upd H a (exM C (some dx) a)) dx (.xd [(f, y)]) b = some o := fun b o e hh => by
    rw [upd_ne (ne b o e), upd_ne (na b o e hh)]; exact e
  have nH : ∀ b, H b = none → b ≠ a := fun b e z => by rw [z, ea] at e; cases e
  refine I.un (t' := tk) ⟨fun b o e n _ _ => k1 b o (nH b n) e, fun b o e n _ _ => ⟨o.slots, k1 b o (nH b n) e⟩, fun b o e n _ => ?_, fun b o e _ => ?_, fun b xs e => up b _ e (fun φ z => by cases z), fun b o x e => up b _ e (fun φ z => by cases z), fun b ps e => ⟨#[], by rw [Array.append_empty]; exact up b _ e (fun φ z => by cases z)⟩⟩ fun b o e => ?_
  · rw [upd_ne (fun z => by rw [z, nd] at e; cases e), upd_ne (nH b n)]; exact n
  · by_cases hb : b = a
    · subst hb; exact ⟨_, e1⟩
    · exact ⟨o, k1 b o hb e⟩
  · by_cases hb : b = dx
    · subst hb
      rw [upd_same] at e; cases e
      refine ⟨_, hn, fun g => ?_⟩
      show RelO (List.lookup g [(f, y)]) (if g = f then some u else none)
      by_cases hg : g = f
      · subst hg
        rw [if_pos rfl, List.lookup_cons, show (g == g) = true from beq_self_eq_true g]
        exact ry
      · rw [if_neg hg, List.lookup_cons, show (g == f) = false from beq_eq_false_iff_ne.mpr hg]
        exact True.intro
    rw [upd_ne hb] at e
    by_cases hb2 : b = a
    · subst hb2
      rw [upd_same] at e; cases e
      exact exm_ok e1
    rw [upd_ne hb2] at e
    refine (I.hok b o e).stay (fun c x hc ec => k1 c x (fun z => ?_) ec) (fun c z => up c _ z fun φ z => by cases z) fun c xs z => up c _ z fun φ z => by cases z
    rcases hc with hc | hc
    · exact hb2 (hc.symm.trans z)
    · rw [z, ea] at hc; cases hc
theorem ps_xnew {C JE : Addr} {o value : Expr} {f : Str} {ta tv : TE} {pos pos' : Pos} (F0 : IFacts X.K C JE f) (ha : PE X o ta) (hv : PE X value tv) (hs : swapsWith value (some (.Attribute o f pos')) pos.line X.env = pure false := by rfl) : PS X (.Assign [.Attribute o f pos'] value pos) (tXNew C ta tv f) := by
  intro pins s σ H D I h
  refine plainObj_wpAny_Assign_Attribute (thn (hv pins s σ H _ I h) fun u s1 ⟨y, H1, I1, ry, q⟩ => thn (ha pins s1 σ H1 _ I1 q) fun ov s2 ⟨x, H2, I2, rx, a, ex, ea, q2⟩ => ?_) hs
  subst ex
  obtain rfl : ov = Value.ref a := rx
  obtain ⟨⟨t0, e0⟩, _⟩ := I2.hok a _ ea
  refine set_new F0 I2.kIn e0 fun h' dx nd hne e1 hn k1 => ?_
  exact ⟨σ, _, inv_xnew I2 ea nd hne e1 hn ry k1, q2 dx (free_of I2 nd) hne⟩
theorem inv_excM {h' : Heap} {e C : Addr} {args : List Value} (I : Inv X pins σ H s) (hm : Heap.MadeExcOf s.heap h' e (.ref C) args) : H e = none ∧ Inv X pins σ (upd H e (exM (.ref C) none e)) { s with heap := h' } := by
  obtain ⟨t, h1, _, _⟩ := hm.there
  have hn : H e = none := free_of I hm.new
  refine ⟨hn, ?_⟩
  have ne : ∀ b o, H b = some o → b ≠ e := fun b o q z => by rw [z, hn] at q; cases q
  have u0 : Un X.fs [] H H s.heap h' := Un.kept hm.keeps
  have hok := I.hok.kept hm.keeps
  refine I.un (t' := s.toks) ⟨u0.keep, u0.slot, fun b o q n1 n2 => ?_, u0.there, fun b xs q => ?_, fun b o x q => ?_, fun b ps q => ?_⟩ fun b u q => ?_
  · rw [upd_ne (fun z => by rw [z, hm.new] at q; cases q)]; exact n1
  · rw [upd_ne (ne _ _ q)]; exact q
  · rw [upd_ne (ne _ _ q)]; exact q
  · exact ⟨#[], by rw [Array.append_empty, upd_ne (ne _ _ q)]; exact q⟩
  · by_cases hb : b = e
    · subst hb
      rw [upd_same] at q; cases q
      exact exm_ok h1
    rw [upd_ne hb] at q
    refine (hok b u q).stay (fun _ _ _ ec => ec) (fun c z => ?_) fun c xs z => ?_
    · rw [upd_ne (ne _ _ z)]; exact z
    · rw [upd_ne (ne _ _ z)]; exact z
def spInit (C : Addr) (f : Str) (ok : V → Prop) : Sp := fun vs H Q _ => ∃ a y, vs = [.ref a, y] ∧ ok y ∧ H a = some (exM (.ref C) none a) ∧ ∀ dx, H dx = none → dx ≠ a → Q .non (upd (upd H a (exM (.ref C) (some dx) a)) dx (.xd [(f, y)]))
theorem fn_at {K : PySem.W.Frag} {h : Heap} {fI : Addr} (Xk : K.In h) (e : PySem.W.isFn K (.ref fI) = true) : ∃ o, h.get? fI = some o ∧ o.cls = .type "function" := by
  have e := beq_iff_eq.mp e
  obtain ⟨o, e1, e2⟩ := Option.map_eq_some_iff.mp (show (K.lookup fI).map (·.cls) = some (.type "function") from e)
  exact ⟨o, Xk _ _ e1, e2⟩
structure MkI (X : Cx) (x : Str) (C fI : Addr) (f : Str) (k : Nat) (ok : V → Prop) : Prop where
  own : OwnI x C fI veMro "ValueError.__new__" X.mg X.base
  fn : PySem.W.isFn X.K (.ref fI) = true
  kp : PySem.W.keepIn X.K (.ref C) = true
  run : ∃ fd, FnOk X.prog X.w X.K X.mg X.base CX0 k fI fd ["self", "place"] (spInit C f ok) ∧ Binds X.K fd ["self", "place"] []
theorem run_init {x f : Str} {C fI : Addr} {k : Nat} {ok : V → Prop} {y : V} {u : Value} {QQ : Value → Shared → Prop} (M : MkI X x C fI f k ok) (hr : Room (k + 1) X.A) (I : Inv X pins σ H s) (ry : RelV y u) (hy : ok y)
    (hq : ∀ a dx s', H a = none → H dx = none → dx ≠ a → s.heap.get? a = none → Inv X pins σ (upd (upd H a (exM (.ref C) (some dx) a)) dx (.xd [(f, y)])) s' → QQ (.ref a) s') : wpAny (model X.prog X.w) X.A (call (.ref C) [u]) QQ X.xe s := by
  obtain ⟨fd, F, hb⟩ := M.run
  obtain ⟨oI, hfI, hfc⟩ := fn_at I.kIn M.fn
  obtain ⟨bm, N, nm, q, bs, hdct, sn, sub, ab, col, dd, k0, k1, k2, k3, k5, mN, hC, hns, hini, T⟩ := (M.own.keeps I.bk).obj
  obtain ⟨hh, g, d, t, os⟩ := s
  refine call_initU PySem.F.excBase_ValueError (by decide +kernel) PySem.F.excBase_ValueError T hC hns hini hfI hfc (fun h' e hm => ?_) (by show 1 ≤ sizeLine; decide)
  obtain ⟨hn, I2⟩ := inv_excM I hm
  have r2 : Vals [V.ref e, y] [Value.ref e, u] := .cons rfl (.cons ry .nil)
  have hsp : spInit C f ok [V.ref e, y] (upd H e (exM (.ref C) none e)) (fun v H2 => v = .non ∧ ∃ dx, upd H e (exM (.ref C) none e) dx = none ∧ dx ≠ e ∧ H2 = upd (upd (upd H e (exM (.ref C) none e)) e (exM (.ref C) (some dx) e)) dx (.xd [(f, y)])) fun _ _ _ => False :=
    ⟨e, y, rfl, hy, upd_same, fun dx h1 h2 => ⟨rfl, dx, h1, h2, rfl⟩⟩
  refine wpAny_call (codeAny_mono (F.run _ X.stack _ _ ⟨[Value.ref e, u], []⟩ [Value.ref e, u] _ _ _ (hr.make C [u] []) (I2.env0.make C [u] []) (hb _ [Value.ref e, u] I2.kIn rfl) r2 hsp) fun r s' hq' => ?_)
  cases r with
  | error z => exact False.elim hq'
  | ok fl =>
    cases fl with
    | ret u' =>
      obtain ⟨v, H', I3, rv, ev, dx, h1, h2, e2⟩ := I2.after hq'
      subst ev e2
      rw [upd_ne h2] at h1
      rw [upd_upd] at I3
      exact ⟨rv, hq e dx s' hn h1 h2 hm.new I3⟩
    | next => exact False.elim hq'
    | brk => exact False.elim hq'
    | cont => exact False.elim hq'
end
end L4
set_option Elab.async false
set_option linter.all false
set_option maxRecDepth 100000
set_option maxHeartbeats 1000000
namespace L4
open PySem PySem.Spec PySem.Calls PyProof.Rows L2 L3
section
variable {M : Model} {A : Around} {EE : Value → Shared → Prop} {env : Env}
variable {nm q : Str} {C N : Addr} {bs bm : List Value} {hdct : Bool} {sn : List Str} {sub : List Value} {ab : Bool} {col : Option Bool} {dd : Option Addr} {k0 k1 k2 k3 k5 : Option Value} {newId : String}
theorem raise_madeD {s : Shared} {m : Sem Value} {QQ : Flow → Shared → Prop} (hb : bm.contains (.type "BaseException") = true) (hh : A.handled = none)
    (h : wpAny M A m (fun v s1 => ∃ e t d, v = .ref e ∧ s1.heap.get? C = some (excClassObj nm q C N bs bm hdct sn sub ab col dd k0 k1 k2 k3 k5 newId) ∧
      s1.heap.get? e = some { cls := .ref C, dict := d, data := .fields #[.ref t, .none, .none, .none, .bool false, .none] } ∧ EE (.ref e) s1) EE s) : wpAny M A (raiseStmt env (some m) none) QQ EE s := by
  have hcB : (Value.ref C :: bm).contains (.type "BaseException") = true := by rw [List.contains_cons, hb, Bool.or_true]
  unfold raiseStmt
  refine wpAny_bind (wpAny_mono h (fun v s1 h1 => ?_) fun _ _ x => x)
  obtain ⟨e, t, d, rfl, hC, he, hE⟩ := h1
  obtain ⟨hp, g, dr, tk, os⟩ := s1
  repeat (first | with_reducible refine wpAny_loadPart_at he ?_ | with_reducible refine wpAny_loadPart_at hC ?_ | (with_reducible refine wpAny_isSubtype_exc hC ?_; rw [hcB]) | wp_step)
  exact wpAny_raiseNew_none hh hE
end
def tRaiseI (te : TE) (C : Addr) (f : Str) (ok : V → Prop) (E : XK) : TS := fun _ σ H => te σ H fun y H1 => ok y ∧ ∀ dx, H1 dx = none → E (.ref C) (some dx) (upd H1 dx (.xd [(f, y)]))
theorem rd_raiseI {te : TE} {C : Addr} {f : Str} {ok : V → Prop} {E : XK} {D : Ends} {σ : L2.St} {H : Hp} : tRaiseI te C f ok E D σ H = te σ H fun y H1 => ok y ∧ ∀ dx, H1 dx = none → E (.ref C) (some dx) (upd H1 dx (.xd [(f, y)])) := rfl
section
variable {P : Program} {w : World} {K : PySem.W.Frag} {mg : Str → Option Value} {base : Heap} {N : List Str} {qual : Str} {scope : Scope} {f : Addr} {cd : Value} {A : Around} {outer : List Env} {s0 s : Shared} {H0 H1 : Hp} {E : XK} {pins : List (Addr × Obj)} {σ : L2.St}
theorem ps_raiseI {x fn : Str} {C fI : Addr} {k : Nat} {ok : V → Prop} {e : Expr} {te : TE} {np cpos pos : Pos} (hk : scope.kind = .function) (M : MkI (cxOf (CX1 P w) P w K mg base N qual scope f cd A outer s0 H0 E) x C fI fn k ok) (hr : Room (k + 1) (cxOf (CX1 P w) P w K mg base N qual scope f cd A outer s0 H0 E).A)
    (hg : Gl (cxOf (CX1 P w) P w K mg base N qual scope f cd A outer s0 H0 E) x) (he : PE (cxOf (CX1 P w) P w K mg base N qual scope f cd A outer s0 H0 E) e te) (hdb : (x == ("__debug__" : Str)) = false := by decide)
    (hs : starEach [e] (cxOf (CX1 P w) P w K mg base N qual scope f cd A outer s0 H0 E).env = [(false, eval e (cxOf (CX1 P w) P w K mg base N qual scope f cd A outer s0 H0 E).env)] := by rfl) :
    PS (cxOf (CX1 P w) P w K mg base N qual scope f cd A outer s0 H0 E) (.Raise (some (.Call (.Name x np) [e] [] cpos)) none pos) (tRaiseI te C fn ok E) := by
  intro pins s σ H D I h
  obtain ⟨bm, N', nm, q', bs, hdct, sn, sub, ab, col, dd, k0, k1, k2, k3, k5, mN, hC, hN, hni, T⟩ := M.own.obj
  rw [arm_exec_Raise]
  refine wpAny_bind (wpAny_standAt (raise_madeD (C := C) (nm := nm) (q := q') (N := N') (bs := bs) (bm := bm) (hdct := hdct) (sn := sn) (sub := sub) (ab := ab) (col := col) (dd := dd) (k0 := k0) (k1 := k1) (k2 := k2) (k3 := k3) (k5 := k5) (newId := "ValueError.__new__") (T.hasType PySem.F.excBase_ValueError.hasBase) (I.ok.hd rfl) (wpAny_bind (wpAny_mono (Q := fun v s1 => ∃ e t d, v = .ref e ∧ s1.heap.get? C = some (excClassObj nm q' C N' bs bm hdct sn sub ab col dd k0 k1 k2 k3 k5 "ValueError.__new__") ∧
      s1.heap.get? e = some { cls := .ref C, dict := d, data := .fields #[.ref t, .none, .none, .none, .bool false, .none] } ∧ _) ?_ (fun v s3 h3 => wpAny_bind (wpAny_standAt (wpAny_pure h3))) fun _ _ z => z))))
  refine wpAny_Call_Name_kw (ld_glob I hg M.own.bound ?_ hdb)
  refine PySem.W.callWith_K (h₀ := base) I.ok.mod.kin M.kp ?_ hs rfl
  rw [hs]
  refine Calls.spliced_cons (thn (he pins s σ H _ I h) fun u s1 ⟨y, H2, I1, ry, hy, q1⟩ => Calls.spliced_nil ⟨I1.kIn, ?_⟩)
  refine run_init M hr I1 ry hy fun a dx s' h1 h2 hne hnew I2 => ?_
  have ea : upd (upd H2 a (exM (.ref C) (some dx) a)) dx (.xd [(fn, y)]) a = some (exM (.ref C) (some dx) a) := by rw [upd_ne (Ne.symm hne), upd_same]
  obtain ⟨⟨t0, e0⟩, _⟩ := I2.hok a _ ea
  refine ⟨a, t0, some dx, rfl, I2.bk _ _ hC, e0, ?_⟩
  have I3 : Inv (cxOf (CX1 P w) P w K mg base N qual scope f cd A outer s0 H0 E) pins σ (upd H2 dx (.xd [(fn, y)])) s' := by
    refine inv_less I2 (fun b o z => ?_) fun b o z => ?_
    · by_cases hb : b = dx
      · subst hb; rw [upd_same] at z ⊢; exact z
      · rw [upd_ne hb] at z ⊢
        rw [upd_ne (fun y => by rw [y, h1] at z; cases z)]; exact z
    · by_cases hb : b = dx
      · subst hb; rw [upd_same] at z ⊢; exact .inl z
      · rw [upd_ne hb] at z ⊢
        by_cases hb2 : b = a
        · subst hb2; rw [upd_same] at z; cases z; exact .inr ⟨_, rfl⟩
        · rw [upd_ne hb2] at z; exact .inl z
  have nex : ∀ b : Addr, b ∉ ([] : List Addr) := fun b => by simp
  have n1 : s0.heap.get? a = none := by
    cases z : s0.heap.get? a with
    | none => rfl
    | some o =>
      obtain ⟨o', e'⟩ := I1.base.there a o z (by intro y; exact absurd (show a ∈ ([] : List Addr) from y) (nex a))
      rw [hnew] at e'; cases e'
  have l1 : a ≠ s0.heap.objs.size := fun z => by
    obtain ⟨m, ⟨o, _, _, ho, _⟩, _⟩ := I1.loc
    have ho : s1.heap.get? s0.heap.objs.size = some o := ho
    rw [← z, hnew] at ho; cases ho
  exact leave_new hk I3 n1 l1 (by rw [upd_ne (Ne.symm hne)]; exact h1) e0 rfl rfl rfl rfl rfl (q1 dx h2)
end
section
variable {X : Cx} {pins : List (Addr × Obj)} {σ : L2.St} {H : Hp} {s : Shared}
def tXFld (C : Addr) (ta : TE) (f : Str) : TE := fun σ H Q => ta σ H fun x H1 => ∃ a dx fs v, x = .ref a ∧ H1 a = some (exD (.ref C) (some dx) a) ∧ H1 dx = some (.xd fs) ∧ fs.lookup f = some v ∧ Q v H1
theorem rd_xfld {C : Addr} {ta : TE} {f : Str} {Q : VK} : tXFld C ta f σ H Q = ta σ H fun x H1 => ∃ a dx fs v, x = .ref a ∧ H1 a = some (exD (.ref C) (some dx) a) ∧ H1 dx = some (.xd fs) ∧ fs.lookup f = some v ∧ Q v H1 := rfl
theorem pe_xfld {C JE : Addr} {e : Expr} {f : Str} {ta : TE} {pos : Pos} (F0 : IFacts X.K C JE f) (XF : XFacts X.K C) (he : PE X e ta) (hb : attributeBase e f X.env (eval e X.env) = eval e X.env := by rfl) : PE X (.Attribute e f pos) (tXFld C ta f) := by
  intro pins s σ H Q I h
  refine attr_of hb (thn (he pins s σ H _ I h) fun u s1 ⟨x, H1, I1, rx, a, dx, fs, v, ex, ea, ed, hl, q⟩ => ?_)
  subst ex
  obtain rfl : u = Value.ref a := rx
  obtain ⟨⟨o, vs, e1, e2, e3, e4⟩, _⟩ := I1.hok a _ ea
  obtain ⟨mA, hn, r⟩ := I1.hok dx _ ed
  obtain ⟨u', hu, ru⟩ := RelO.some_of (v := v) (o := mA f) (by rw [← hl]; exact r f)
  exact get_own F0 XF I1.kIn e1 e2 e3 e4 hn hu (handed_of ru) ⟨v, H1, I1.tok _, ru, q⟩
def tMkI (te : TE) (C : Addr) (f : Str) (ok : V → Prop) : TE := fun σ H Q => te σ H fun y H1 => ok y ∧ ∀ a dx, H1 a = none → H1 dx = none → dx ≠ a → Q (.ref a) (upd (upd H1 a (exD (.ref C) (some dx) a)) dx (.xd [(f, y)]))
theorem rd_mkI {te : TE} {C : Addr} {f : Str} {ok : V → Prop} {Q : VK} : tMkI te C f ok σ H Q = te σ H fun y H1 => ok y ∧ ∀ a dx, H1 a = none → H1 dx = none → dx ≠ a → Q (.ref a) (upd (upd H1 a (exD (.ref C) (some dx) a)) dx (.xd [(f, y)])) := rfl
theorem pe_mkI {x fn : Str} {C fI : Addr} {k : Nat} {ok : V → Prop} {e : Expr} {te : TE} {np pos : Pos} (M : MkI X x C fI fn k ok) (hr : Room (k + 1) X.A) (hg : Gl X x) (he : PE X e te) (hdb : (x == ("__debug__" : Str)) = false := by decide) (hs : starEach [e] X.env = [(false, eval e X.env)] := by rfl) : PE X (.Call (.Name x np) [e] [] pos) (tMkI te C fn ok) := by
  intro pins s σ H Q I h
  refine wpAny_Call_Name_kw (ld_glob I hg M.own.bound ?_ hdb)
  refine PySem.W.callWith_K (h₀ := X.base) I.ok.mod.kin M.kp ?_ hs rfl
  rw [hs]
  refine Calls.spliced_cons (thn (he pins s σ H _ I h) fun u s1 ⟨y, H2, I1, ry, hy, q1⟩ => Calls.spliced_nil ⟨I1.kIn, ?_⟩)
  refine run_init M hr I1 ry hy fun a dx s' h1 h2 hne hnew I2 => ?_
  have ea : upd (upd H2 a (exM (.ref C) (some dx) a)) dx (.xd [(fn, y)]) a = some (exM (.ref C) (some dx) a) := by rw [upd_ne (Ne.symm hne), upd_same]
  obtain ⟨⟨t0, e0⟩, _⟩ := I2.hok a _ ea
  have I3 := I2.write (x := a) (e := a) (h' := s'.heap) (t' := s'.toks) (mut_ext ea) (.inl rfl) (fun _ _ _ z => z) ⟨_, e0⟩ (exd_ok (C := .ref C) (d := some dx) e0 rfl rfl rfl)
  have eH : upd (upd (upd H2 a (exM (.ref C) (some dx) a)) dx (.xd [(fn, y)])) a (exD (.ref C) (some dx) a) = upd (upd H2 a (exD (.ref C) (some dx) a)) dx (.xd [(fn, y)]) := by
    funext b
    by_cases b1 : b = a
    · subst b1; rw [upd_same, upd_ne (Ne.symm hne), upd_same]
    · rw [upd_ne b1]
      by_cases b2 : b = dx
      · subst b2; rw [upd_same, upd_same]
      · rw [upd_ne b2, upd_ne b2, upd_ne b1, upd_ne b1]
  rw [eH] at I3
  exact ⟨.ref a, _, I3, rfl, q1 a dx h1 h2 hne⟩
end
end L4
set_option Elab.async false
set_option linter.all false
set_option maxRecDepth 100000
set_option maxHeartbeats 1000000
namespace L4
open PySem PySem.Spec PyProof.Rows L2 L3
def ItES (x : Str) : It :=
  ⟨fun i H => i < x.cps.size, fun i H v H' => ∃ T c, v = .ref T ∧ H T = none ∧ H' = upd H T (.tup [.int (i : Nat), .str ⟨#[c]⟩]) ∧ x.cps[i]? = some c, fun i H => x.cps.size = i⟩
def iEnumS (ta : TA) : TI := fun σ H R => ta σ H fun vs H1 => ∃ x, vs = [.str x] ∧ R (ItES x) H1
section
variable {X : Cx} {D : Ends} {σ : L2.St} {H : Hp} {Q : VK} {g : TG} {tb : TS} {ta : TA} {te : TE} {tt : TT} {ws : List Nat}
theorem rd_forES : tFor (iEnumS ta) g tb D σ H = ta σ H fun vs H1 => ∃ x, vs = [.str x] ∧ ForW (ItES x) g tb D σ H1 := rfl
end
end L4
set_option Elab.async false
set_option linter.all false
set_option maxRecDepth 100000
set_option maxHeartbeats 1000000
namespace L4
open PySem PySem.Spec PyProof.Rows L2 L3
open Builtin Builtin.Str
section
variable {X : Cx} {D : Ends} {σ : L2.St} {H : Hp} {Q : VK} {g : TG} {tb : TS} {ta : TA} {te : TE} {tt : TT} {ws : List Nat}
theorem rd_forS : tFor (iStr te) g tb D σ H = te σ H fun v H1 => ∃ x, v = .str x ∧ ForW (Its x) g tb D σ H1 := rfl
theorem forW_str {x : Str} (Pv : Nat → L2.St → Hp → Prop) (h0 : Pv 0 σ H)
    (hs : ∀ i c σ H, x.cps[i]? = some c → Pv i σ H → g (.str ⟨#[c]⟩) σ H fun σ2 H2 => tb { D with nx := Pv (i + 1), ct := Pv (i + 1), bk := D.nx } σ2 H2) (hd : ∀ σ H, Pv x.cps.size σ H → D.nx σ H) : ForW (Its x) g tb D σ H := by
  refine ⟨fun i m σ H => m = x.cps.size - i ∧ i ≤ x.cps.size ∧ Pv i σ H, ⟨x.cps.size, by simp, Nat.zero_le _, h0⟩, ?_⟩
  rintro i m σ H ⟨rfl, hi, p⟩
  by_cases hlt : i < x.cps.size
  · refine .inr ⟨hlt, Pv (i + 1), fun σ' H' p' => ⟨x.cps.size - (i + 1), by omega, rfl, hlt, p'⟩, fun v H' y => ?_⟩
    obtain ⟨rfl, c, hx, rfl⟩ := y
    exact hs i c σ H' hx p
  · have e : i = x.cps.size := by omega
    subst e
    exact .inl ⟨Nat.le_refl _, hd σ H p⟩
theorem rd_lcS {tx : TE} : tLc (iStr te) g tt tx ws σ H Q = te σ H fun v H1 => ∃ x, v = .str x ∧ ∀ D, H1 D = none → LcW (Its x) g tt tx ws σ H1 D Q := by
  apply propext; constructor
  · intro h
    refine cast ?_ h
    rfl
  · intro h
    exact h
theorem lcW_str {x : Str} {A : Addr} {vs : List Nat} (Pv : Nat → Hp → Prop) (h0 : Pv 0 (upd H A (.lst [])))
    (hs : ∀ i c H, x.cps[i]? = some c → Pv i H → g (.str ⟨#[c]⟩) (wipe σ vs) H fun σ2 H2 => wipe σ2 vs = wipe σ vs ∧ tt σ2 H2 fun b H3 =>
      if b = true then te σ2 H3 fun y H4 => ∃ acc, H4 A = some (.lst acc) ∧ acc.length < sizeLine ∧ Pv (i + 1) (upd H4 A (.lst (acc ++ [y]))) else Pv (i + 1) H3) (hd : ∀ H, Pv x.cps.size H → Q (.ref A) H) : LcW (Its x) g tt te vs σ H A Q := by
  refine ⟨fun i m H => m = x.cps.size - i ∧ i ≤ x.cps.size ∧ Pv i H, ⟨x.cps.size, by simp, Nat.zero_le _, h0⟩, ?_⟩
  rintro i m H ⟨rfl, hi, p⟩
  by_cases hlt : i < x.cps.size
  · refine .inr ⟨hlt, Pv (i + 1), fun H' p' => ⟨x.cps.size - (i + 1), by omega, rfl, hlt, p'⟩, fun v H' y => ?_⟩
    obtain ⟨rfl, c, hx, rfl⟩ := y
    exact hs i c H' hx p
  · have e : i = x.cps.size := by omega
    subst e
    exact .inl ⟨Nat.le_refl _, hd H p⟩
def mulS (z : Str) (n : Int) : Str := if n < 1 then Str.empty else if (n == 1 || z.length == 0) = true then z else ⟨(List.replicate n.toNat z.cps).foldl (· ++ ·) #[]⟩
theorem fold_size (a : Array Nat) : ∀ (k : Nat) (acc : Array Nat), ((List.replicate k a).foldl (· ++ ·) acc).size = acc.size + k * a.size
  | 0, acc => by simp
  | k + 1, acc => by
    rw [List.replicate_succ, List.foldl_cons, fold_size a k, Array.size_append, Nat.succ_mul]
    omega
theorem mulS_len (z : Str) (n : Int) : (mulS z n).length ≤ z.length * n.toNat := by
  unfold mulS
  split
  · show 0 ≤ _; exact Nat.zero_le _
  · split
    · rename_i h1 h2
      have : 1 ≤ n.toNat := by omega
      exact Nat.le_mul_of_pos_right _ this
    · show ((List.replicate n.toNat z.cps).foldl (· ++ ·) #[]).size ≤ _
      rw [fold_size]
      show 0 + n.toNat * z.cps.size ≤ z.cps.size * n.toNat
      rw [Nat.mul_comm]; omega
theorem op_mulS : OpR X (binaryOp .Mult) (fun x y H Q => ∃ z n, x = .str z ∧ y = .int n ∧ 0 ≤ n ∧ n ≤ 100000 ∧ z.length * n.toNat ≤ 1000000 ∧ Q (.str (mulS z n)) H) := by
  intro pins s σ H x y u v Q I rx ry h
  obtain ⟨z, n, rfl, rfl, h0, h1, hl, h⟩ := h
  obtain ⟨t, rfl⟩ := rx
  obtain ⟨t', rfl⟩ := ry
  have hm := mulS_len z n
  refine PySem.P.mul_str (by simp; omega) (fun a b => ?_) (fun a b => ?_) ?_
  · intro c
    have h3 : (100000 : Int) * ((2 ^ 63 - 1) / n) ≥ 0 := by
      have := Int.ediv_nonneg (a := 2 ^ 63 - 1) (b := n) (by decide) h0
      omega
    have h4 : ((2 ^ 63 - 1) / n : Int) ≥ 90000000000000 := by
      apply Int.le_ediv_of_mul_le (by omega)
      have : (90000000000000 : Int) * n ≤ 90000000000000 * 100000 := Int.mul_le_mul_of_nonneg_left h1 (by decide)
      omega
    have h5 : z.length ≤ 1000000 := by
      have : 1 ≤ n.toNat := by omega
      exact Nat.le_trans (Nat.le_mul_of_pos_right _ this) hl
    omega
  · unfold tooLong sizeLine
    exact decide_eq_false (by omega)
  · unfold mulS at h hm
    split
    · rename_i c
      rw [if_pos c] at h
      exact ⟨by decide, ⟨.str _, H, I.tok _, ⟨_, rfl⟩, h⟩⟩
    · rename_i c
      rw [if_neg c] at h hm
      split
      · rename_i c2
        rw [if_pos c2] at h
        exact ⟨.str z, H, I.tok s.toks, ⟨_, rfl⟩, h⟩
      · rename_i c2
        rw [if_neg c2] at h hm
        exact ⟨Nat.le_trans hm (Nat.le_trans hl (by decide)), ⟨.str _, H, I.tok _, ⟨_, rfl⟩, h⟩⟩
theorem rep_len (x y z : Str) : (glued z (partsBetween x (occurrences x y 0 x.length 1) y.length)).length ≤ x.length + (x.length + 1) * z.length := by
  have h1 := StrLaws.occ_length_le x y 0 x.length 1
  have hy : (glued y (partsBetween x (occurrences x y 0 x.length 1) y.length)).length = x.length := by rw [StrLaws.glued_between_self]
  rw [size_glued, length_partsBetween, Nat.add_sub_cancel] at hy
  rw [size_glued, length_partsBetween, Nat.add_sub_cancel]
  have h2 : (occurrences x y 0 x.length 1).length * z.length ≤ (x.length + 1) * z.length := Nat.mul_le_mul_right _ (Nat.le_trans h1 (by omega))
  omega
theorem gives_rep1 (x y z : Str) (t u v w : Tok) (h0 : (u == 0 || v == 0) = false) (huv : (u == v) = false) (hyz : (y == z) = false) (hl : tooLong (x.length + (occurrences x y 0 x.length 1).length * z.length) = false) :
    Gives («str.replace» ⟨[.str x t, .str y u, .str z v, .int 1 w], []⟩) (if ((occurrences x y 0 x.length 1).isEmpty || (y.length == 0 && z.length == 0)) = true then .val (.str x t) else .str (glued z (partsBetween x (occurrences x y 0 x.length 1) y.length))) := by
  show Gives (if ((occurrences x y 0 x.length 1).isEmpty || (y.length == 0 && z.length == 0)) = true then (do rule "str.replace.nothing"; ret (.str x t)) else
    (do let same ← isSame (.str y u) (.str z v)
        if same = true then (do rule "str.replace.old-is-new"; ret (.str x t)) else
        if tooLong (x.length + (occurrences x y 0 x.length 1).length * z.length) = true then unsupported "str.replace:memory" else
        retStr (glued z (partsBetween x (occurrences x y 0 x.length 1) y.length)))) _
  cases hc : ((occurrences x y 0 x.length 1).isEmpty || (y.length == 0 && z.length == 0))
  · rw [isSame_str_other y z u v h0 huv hyz, hl]
    exact .of_eq rfl
  · exact .rule (.of_eq rfl)
section
variable {X : Cx} {pins : List (Addr × Obj)} {σ : L2.St} {H : Hp} {s : Shared} {EE : Value → Shared → Prop}
theorem name_at {i : Nat} {x : Str} {pos : Pos} {v : V} {QQ : Value → Shared → Prop} (I : Inv X pins σ H s) (hN : X.N[i]? = some x) (e : σ[i]? = some (some v)) (hv : Vis X.env.scope x) (fin : ∀ u, RelV v u → QQ u s) (hd : (x == ("__debug__" : Str)) = false := by decide) (hcd : (x == ("__classdict__" : Str)) = false := by decide) :
    wpAny (model X.prog X.w) X.A (eval (.Name x pos) X.env) QQ EE s := by
  obtain ⟨m, hn, hl⟩ := I.loc
  obtain ⟨u, r, l⟩ := hl i x v hN e hv
  rcases l with ⟨hk, hm⟩ | ⟨hk, c, hc, hcell⟩
  · exact wpAny_Name (wpAny_loadName_local I.ok.kind hk hn hm (fin u r)) hd
  · rcases hk with hk | hk
    · exact wpAny_Name (wpAny_loadName_cell I.ok.kind hk hc hcell (fin u r)) hd
    · exact wpAny_Name (wpAny_loadName_free I.ok.kind hk hc hcell (fin u r) hcd) hd
def tRep (i : Nat) (c : Str) (t : TA) : TA := fun σ H Q => ∃ z, σ[i]? = some (some (.str z)) ∧ c.length + z.length ≤ 100000 ∧ ∀ y : Str, y.length ≤ z.length + (z.length + 1) * 2 → t σ H fun vs H1 => Q (.str (c ++ z) :: .str y :: vs) H1
theorem rd_rep {i : Nat} {c : Str} {t : TA} {Q : List V → Hp → Prop} : tRep i c t σ H Q = ∃ z, σ[i]? = some (some (.str z)) ∧ c.length + z.length ≤ 100000 ∧ ∀ y : Str, y.length ≤ z.length + (z.length + 1) * 2 → t σ H fun vs H1 => Q (.str (c ++ z) :: .str y :: vs) H1 := rfl
theorem pa_rep {i : Nat} {x c a b : Str} {k1 k2 k3 k4 : Nat} {p1 p2 p3 p4 p5 p6 p7 apos cpos : Pos} {es : List Expr} {t : TA} (hN : X.N[i]? = some x) (hv : Vis X.env.scope x) (hab : (a == b) = false) (hb2 : b.length = 2) (hr : PA X es t) (hd : (x == ("__debug__" : Str)) = false := by decide) (hcd : (x == ("__classdict__" : Str)) = false := by decide)
    (hline : (apos.endLine == cpos.line) = true := by rfl)
    (hs : starEach (.BinOp (.Constant (.str c) k1 p1) .Add (.Name x p2) p3 :: .Call (.Attribute (.Name x p4) "replace" apos) [.Constant (.str a) k2 p5, .Constant (.str b) k3 p6, .Constant (.int 1) k4 p7] [] cpos :: es) X.env = (false, eval (.BinOp (.Constant (.str c) k1 p1) .Add (.Name x p2) p3) X.env) :: (false, eval (.Call (.Attribute (.Name x p4) "replace" apos) [.Constant (.str a) k2 p5, .Constant (.str b) k3 p6, .Constant (.int 1) k4 p7] [] cpos) X.env) :: starEach es X.env := by rfl) :
    PA X (.BinOp (.Constant (.str c) k1 p1) .Add (.Name x p2) p3 :: .Call (.Attribute (.Name x p4) "replace" apos) [.Constant (.str a) k2 p5, .Constant (.str b) k3 p6, .Constant (.int 1) k4 p7] [] cpos :: es) (tRep i c t) := by
  intro pos pins s σ H Q I h
  obtain ⟨z, hz, hl, q⟩ := h
  rw [hs]
  show wpAny _ _ (spliced ((false, eval (.BinOp (.Constant (.str c) k1 p1) .Add (.Name x p2) p3) X.env) :: (false, eval (.Call (.Attribute (.Name x p4) "replace" apos) [.Constant (.str a) k2 p5, .Constant (.str b) k3 p6, .Constant (.int 1) k4 p7] [] cpos) X.env) :: backTo pos (starEach es X.env))) _ _ _
  -- the second element, where a value has been made already
  have two : ∀ (s1 : Shared) (u : Value), Inv X pins σ H s1 → 1 ≤ s1.toks → RelV (.str (c ++ z)) u → wpAny (model X.prog X.w) X.A (spliced ((false, eval (.Call (.Attribute (.Name x p4) "replace" apos) [.Constant (.str a) k2 p5, .Constant (.str b) k3 p6, .Constant (.int 1) k4 p7] [] cpos) X.env) :: backTo pos (starEach es X.env))) (fun vs s2 => AP X pins σ Q (u :: vs) s2) X.xe s1 := by
    intro s1 u I1 ht ru
    refine Calls.spliced_cons (wpAny_Call_method_late (by rfl) (by rfl) hline rfl (name_at I1 hN hz hv (fun w' rw' => ?_) hd hcd))
    obtain ⟨t1, rfl⟩ := rw'
    refine ⟨"str", _, PySem.F.plainAttrs_str, PySem.F.slot_str_replace, PySem.F.type_str_replace, typeIs_str _ _ _, (fun _ e => nomatch e), ?_⟩
    refine Calls.callWith_builtin (by rfl) (Calls.evalArgs_plain ?_)
    refine show wpAny _ _ (spliced [(false, eval (.Constant (.str a) k2 p5) X.env), (false, eval (.Constant (.str b) k3 p6) X.env), (false, eval (.Constant (.int 1) k4 p7) X.env)]) _ _ _ from ?_
    refine Calls.spliced_cons (Calls.Constant_str (k := k2) (pos := p5) ?_)
    refine Calls.spliced_cons (Calls.Constant_str (k := k3) (pos := p6) ?_)
    refine Calls.spliced_cons (wpAny_Constant_int (Calls.spliced_nil ?_))
    have n1 : (s1.toks == 0 || s1.toks + 1 == 0) = false := by simp; omega
    have hl2 : tooLong (z.length + (occurrences z a 0 z.length 1).length * b.length) = false := by
      have h1 := StrLaws.occ_length_le z a 0 z.length 1
      unfold tooLong sizeLine
      rw [hb2]
      exact decide_eq_false (by omega)
    refine call_gives PySem.F.slot_str_replace (typeIs_str _ _ _) PySem.F.entry_str_replace (PySem.F.args_str_replace_4 _ _ _ _) (gives_rep1 z a b t1 s1.toks (s1.toks + 1) _ n1 (by simp) hab hl2) ?_
    have fin : ∀ (y : Str) (tk : Tok) (k : Nat), y.length ≤ z.length + (z.length + 1) * 2 → wpAny (model X.prog X.w) X.A (spliced (backTo pos (starEach es X.env))) (fun vs s3 => AP X pins σ Q (u :: Value.str y tk :: vs) s3) X.xe { s1 with toks := k } := fun y tk k hy => by
      refine thn (hr pos pins { s1 with toks := k } σ H _ (I1.tok k) (q y hy)) fun us s3 ⟨vs, H3, I3, r3, q3⟩ => ⟨.str (c ++ z) :: .str y :: vs, H3, I3, .cons ru (.cons ⟨_, rfl⟩ r3), q3⟩
    split
    · exact fin z t1 _ (by omega)
    · have := rep_len z a b
      rw [hb2] at this
      refine ⟨?_, fin _ _ _ this⟩
      have h5 : (400000 : Nat) ≤ sizeLine := by decide
      omega
  refine Calls.spliced_cons ?_
  refine wpAny_BinOp (Calls.Constant_str (k := k1) (pos := p1) (name_at (I.tok _) hN hz hv (fun w' rw' => ?_) hd hcd))
  obtain ⟨t1, rfl⟩ := rw'
  refine PySem.P.add_str ?_
  have fin : ∀ (tk : Tok) (k : Nat), 1 ≤ k → wpAny (model X.prog X.w) X.A (spliced ((false, eval (.Call (.Attribute (.Name x p4) "replace" apos) [.Constant (.str a) k2 p5, .Constant (.str b) k3 p6, .Constant (.int 1) k4 p7] [] cpos) X.env) :: backTo pos (starEach es X.env))) (fun vs s3 => AP X pins σ Q (Value.str (c ++ z) tk :: vs) s3) X.xe { s with toks := k } := fun tk k hk => two _ _ (I.tok k) hk ⟨_, rfl⟩
  split
  · rename_i hc
    have e : c ++ z = z := by
      have : c.cps = #[] := Array.eq_empty_of_size_eq_zero (by simpa [Str.length] using hc)
      obtain ⟨cc⟩ := c
      show (⟨cc ++ z.cps⟩ : Str) = z
      have : cc = #[] := this
      subst this
      simp
    have := fin t1 (s.toks + 1) (by omega)
    rw [e] at this
    exact this
  · split
    · rename_i hc
      have e : c ++ z = c := by
        have : z.cps = #[] := Array.eq_empty_of_size_eq_zero (by simpa [Str.length] using hc)
        obtain ⟨zz⟩ := z
        show (⟨c.cps ++ zz⟩ : Str) = c
        have : zz = #[] := this
        subst this
        simp
      have := fin s.toks (s.toks + 1) (by omega)
      rw [e] at this
      exact this
    · have h5 : (400000 : Nat) ≤ sizeLine := by decide
      have e6 : (c ++ z).length = c.length + z.length := by
        show (c.cps ++ z.cps).size = _
        rw [Array.size_append]; rfl
      exact ⟨by omega, fin _ _ (by omega)⟩
end
end
end L4
set_option Elab.async false
set_option linter.all false
set_option maxRecDepth 100000
set_option maxHeartbeats 1000000
namespace L4
open PySem PySem.Spec PyProof PyProof.Rows L2 L3
section
variable {X : Cx}
end
end L4
set_option Elab.async false
set_option linter.all false
set_option maxRecDepth 100000
set_option maxHeartbeats 1000000
namespace L4
open PySem PySem.Spec PyProof.Rows L2 L3
end L4
set_option Elab.async false
set_option linter.all false
set_option maxRecDepth 100000
set_option maxHeartbeats 1000000
namespace L4
open PySem PySem.Spec PyProof PyProof.Rows L2 L3
variable {X : Cx}
end L4
set_option Elab.async false
set_option linter.all false
set_option maxRecDepth 100000
set_option maxHeartbeats 1000000
namespace L4
open PySem PySem.Spec PyProof PyProof.Rows L2 L3
section
variable {X : Cx} {o : Expr} {lo hi : Option Expr} {td : TE} {tl th : TO} {tpos pos p2 : Pos}
end
section
variable {D : Ends} {σ : L2.St} {H : Hp} {Q : VK} {g : TG} {ta : TA} {te : TE} {tt : TT} {ws : List Nat} {K : PySem.W.Frag}
end
section
variable {X : Cx}
end
end L4
set_option Elab.async false
set_option linter.all false
set_option maxRecDepth 100000
set_option maxHeartbeats 1000000
namespace Dm
open PySem L2 L3 L4
def spMix : Sp := fun vs H Q _ => ∃ c k : Int, vs = [.int c, .int k] ∧ 0 ≤ k ∧ k < 2 ^ 60 ∧ ∀ r : Int, 0 ≤ r → Q (.int r) H
def Dk (H : Hp) (D : Addr) (c : Nat) : Prop := ∃ (a : Addr) (ns : List Int) (i j k s : Int), H D = some (.lst [.ref a, .int i, .int j, .int k, .int s]) ∧ H a = some (.lst (ns.map V.int)) ∧ ns.length ≤ 63 ∧ 0 ≤ i ∧ 0 ≤ j ∧ 0 ≤ k ∧ k ≤ c
theorem Dk.lst {H : Hp} {D : Addr} {c : Nat} (h : Dk H D c) : ∃ xs, H D = some (.lst xs) := by
  obtain ⟨a, ns, i, j, k, s, h, _⟩ := h
  exact ⟨_, h⟩
theorem Dk.ne {H : Hp} {D a : Addr} {ns : List Int} {i j k s : Int} (h : H D = some (.lst [.ref a, .int i, .int j, .int k, .int s])) (h' : H a = some (.lst (ns.map V.int))) : a ≠ D := by
  rintro rfl
  rw [h] at h'
  cases ns with
  | nil => cases h'
  | cons n r => cases h'
theorem Dk.same {H H' : Hp} {D : Addr} {c : Nat} (h : Dk H D c) (s : Same H H') : Dk H' D c := by
  obtain ⟨a, ns, i, j, k, t, h1, h2, h3⟩ := h
  exact ⟨a, ns, i, j, k, t, s _ _ h1, s _ _ h2, h3⟩
theorem Dk.mono {H : Hp} {D : Addr} {c d : Nat} (h : Dk H D c) (e : c ≤ d) : Dk H D d := by
  obtain ⟨a, ns, i, j, k, t, h1, h2, h3, h4, h5, h6, h7⟩ := h
  exact ⟨a, ns, i, j, k, t, h1, h2, h3, h4, h5, h6, by omega⟩
theorem Dk.tp {H H' : Hp} {D : Addr} {c : Nat} (h : Dk H D c) (k : Kp D H H') : Tp H H' := by
  obtain ⟨xs, e⟩ := h.lst
  exact k.tp e
theorem Dk.nd {H : Hp} {D p : Addr} {c : Nat} (h : Dk H D c) (e : H p = none) : p ≠ D := by
  obtain ⟨xs, q⟩ := h.lst
  exact Ne.symm (ne_of_none q e)
theorem Dk.own {H G : Hp} {D l : Addr} {c c0 : Nat} (h0 : Dk H D c0) (k : Kp D H G) (d : Dk G D c) (fl : H l = none) (o : HO) : Dk (upd G l o) D c := by
  obtain ⟨a0, ns0, i0, j0, k0, s0, e1, e2, _⟩ := h0
  obtain ⟨a, ns, i, j, kk, s, f1, f2, r⟩ := d
  obtain ⟨ys, g⟩ := k.head a0 _ e1
  rw [f1] at g
  cases g
  exact ⟨_, ns, i, j, kk, s, upd_at (ne_of_none e1 fl) f1, upd_at (ne_of_none e2 fl) f2, r⟩
def spDeck (K : PySem.W.Frag) : Sp := fun vs H Q _ => ∃ (a : Addr) (ns : List Int), vs = [.ref a] ∧ SqL K H a (ns.map V.int) ∧ ns.length ≤ 63 ∧ ∀ D H', Same H H' → H D = none → Dk H' D 0 → Q (.ref D) H'
def spNext : Sp := fun vs H Q _ => ∃ (D : Addr) (m : Int) (c : Nat), vs = [.ref D, .int m] ∧ Dk H D c ∧ c < 2 ^ 50 ∧ 1 ≤ m ∧ m < 2 ^ 60 ∧ ∀ (r : Int) (H' : Hp), 0 ≤ r → r < m → Kp D H H' → Dk H' D (c + 1) → Q (.int r) H'
theorem cm (x m : Int) (h0 : 0 < m) (h1 : m < 2 ^ 64) : -(2 ^ 64) < x % m ∧ x % m < 2 ^ 64 := by
  have a := Int.emod_nonneg x (show m ≠ 0 by omega)
  have b := Int.emod_lt_of_pos x h0
  constructor <;> omega
theorem atI_ints {ns : List Int} {i : Int} (h0 : 0 ≤ i) (h1 : i < ns.length) : ∃ n : Int, atI (ns.map V.int) i = some (.int n) := by
  obtain ⟨v, hv, hm⟩ := atI_in (xs := ns.map V.int) h0 (by rw [List.length_map]; exact h1)
  obtain ⟨n, _, rfl⟩ := List.mem_map.mp hm
  exact ⟨n, hv⟩
theorem mix_mod {c k m : Int} {H1 : Hp} {Q : VK} (h0 : 0 ≤ k) (h1 : k < 2 ^ 60) (hm : 1 ≤ m) (q : ∀ r, 0 ≤ r → r < m → Q (.int r) H1) :
    spMix [.int c, .int k] H1 (fun x H1 => rI (fun _ j => 0 < j) (fun i j => V.int (i % j)) x (.int m) H1 Q) E0 :=
  ⟨c, k, rfl, h0, h1, fun r _ => by dsimp only; rw [rd_rI]; exact ⟨by omega, q _ (Int.emod_nonneg _ (by omega)) (Int.emod_lt_of_pos _ (by omega))⟩⟩
theorem small100k {n : Nat} (h : n ≤ 200000) : n < sizeLine := Nat.lt_of_le_of_lt h (by decide)
structure Sd (D : Addr) (H0 G : Hp) (c : Nat) : Prop where
  k : Kp D H0 G
  d : Dk G D c
theorem Sd.next {D : Addr} {H0 G G1 : Hp} {c c1 : Nat} (s : Sd D H0 G c) (k : Kp D G G1) (d : Dk G1 D c1) : Sd D H0 G1 c1 := ⟨s.k.trans k, d⟩
theorem Sd.same {D : Addr} {H0 G G1 : Hp} {c : Nat} (s : Sd D H0 G c) (e : Same G G1) : Sd D H0 G1 c := ⟨s.k.same e, s.d.same e⟩
theorem Sd.own {D p : Addr} {H0 G : Hp} {c c0 : Nat} (s : Sd D H0 G c) (h0 : Dk H0 D c0) (h : H0 p = none) (o : HO) : Sd D H0 (upd G p o) c := ⟨s.k.own h o, h0.own s.k s.d h o⟩
theorem Sd.free {D p : Addr} {H0 G : Hp} {c : Nat} (s : Sd D H0 G c) (h : G p = none) : H0 p = none := s.k.free h (s.d.nd h)
theorem Sd.mono {D : Addr} {H0 G : Hp} {c c' : Nat} (s : Sd D H0 G c) (h : c ≤ c') : Sd D H0 G c' := ⟨s.k, s.d.mono h⟩
end Dm
set_option Elab.async false
set_option linter.all false
set_option maxRecDepth 100000
set_option maxHeartbeats 1000000
namespace Tx
open PySem PySem.Spec PyProof.Rows L2 L3 L4 TL
abbrev sh (n : Int) : Str := Str.ofString (toString n)
theorem tl_sh {n : Int} (h : 0 ≤ n) : tl (sh n) = numL n.toNat := by
  obtain ⟨m, rfl⟩ := Int.eq_ofNat_of_zero_le h
  exact tl_num m
theorem sw_head (x : Str) (c : Nat) : Txt.startswith x ⟨#[c]⟩ = decide ((tl x).head? = some c) := by
  unfold Txt.startswith Builtin.Str.subAt
  rw [Bool.eq_iff_iff]
  simp only [Bool.and_eq_true, decide_eq_true_eq]
  have hl : (⟨#[c]⟩ : Str).length = 1 := rfl
  rw [hl]
  obtain ⟨⟨l⟩⟩ := x
  cases l with
  | nil =>
    show _ ↔ ([] : List Nat).head? = some c
    simp [Str.length]
  | cons a r =>
    show _ ↔ (a :: r).head? = some c
    simp [Str.length]
abbrev figs : Str := "0123456789"
theorem tl_figs : tl figs = [48, 49, 50, 51, 52, 53, 54, 55, 56, 57] := by decide +kernel
theorem in_figs (c : Nat) : c ∈ tl figs ↔ 48 ≤ c ∧ c ≤ 57 := by
  rw [tl_figs]
  simp only [List.mem_cons, List.not_mem_nil, or_false]
  omega
def wn (z : Str) : Bool := !decide (z = "") && (!(z.cps.toList.any fun c => !decide (c ∈ tl figs))) && (decide (z = "0") || !Txt.startswith z "0")
theorem tl_0 : tl ("0" : Str) = [48] := by decide +kernel
theorem tl_e : tl ("" : Str) = [] := by decide +kernel
theorem mk_0 : ("0" : Str) = ⟨#[48]⟩ := by decide +kernel
theorem len_sh {n : Int} (h0 : 0 ≤ n) (h1 : n < 10 ^ 12) : (sh n).length ≤ 12 := by
  rw [len_tl, tl_sh h0]
  exact numL_len (by decide) (by omega)
abbrev bl : Str := " "
end Tx
set_option Elab.async false
set_option linter.all false
set_option maxRecDepth 100000
set_option maxHeartbeats 1000000
namespace Tx
open PySem PySem.Spec PyProof.Rows L2 L3 L4 TL
def vl (l : List Nat) : Nat := l.foldl (fun a c => a * 10 + (c - 48)) 0
theorem vl_snoc (l : List Nat) (c : Nat) : vl (l ++ [c]) = vl l * 10 + (c - 48) := by unfold vl; rw [List.foldl_append]; rfl
def dgs (l : List Nat) : Prop := ∀ c ∈ l, 48 ≤ c ∧ c ≤ 57
theorem num_of : ∀ (n : Nat) (l : List Nat), l.length = n → dgs l → l ≠ [] → (l.head? ≠ some 48 ∨ l.length = 1) → l = numL (vl l) ∧ (l.head? ≠ some 48 → 1 ≤ vl l) := by
  intro n
  induction n with
  | zero => intro l hl _ hne; exact absurd (List.eq_nil_of_length_eq_zero hl) hne
  | succ n ih =>
    intro l hl hd hne hh
    obtain ⟨r, c, rfl⟩ : ∃ r c, l = r ++ [c] := ⟨l.dropLast, l.getLast hne, (List.dropLast_concat_getLast hne).symm⟩
    have hc := hd c (by simp)
    rw [vl_snoc]
    by_cases hr : r = []
    · subst hr
      have e : vl [] = 0 := rfl
      rw [e, Nat.zero_mul, Nat.zero_add, numL_lt (by omega)]
      refine ⟨by simp; omega, fun h => ?_⟩
      simp at h
      omega
    · have hrh : r.head? = (r ++ [c]).head? := by
        cases r with
        | nil => exact absurd rfl hr
        | cons a s => rfl
      have hlr : r.length = n := by simp at hl; omega
      have hr1 : 1 ≤ r.length := by
        cases r with
        | nil => exact absurd rfl hr
        | cons a s => simp
      have hh2 : r.head? ≠ some 48 := by
        rcases hh with h | h
        · rw [hrh]; exact h
        · simp at h; exact absurd h hr
      obtain ⟨e1, e2⟩ := ih r hlr (fun x hx => hd x (by simp [hx])) hr (.inl hh2)
      have h1 := e2 hh2
      refine ⟨?_, fun _ => by omega⟩
      rw [numL_step (by omega)]
      have d1 : (vl r * 10 + (c - 48)) / 10 = vl r := by omega
      have d2 : (vl r * 10 + (c - 48)) % 10 = c - 48 := by omega
      rw [d1, d2, ← e1]
      congr 2
      omega
theorem tl_inj {x y : Str} (h : tl x = tl y) : x = y := by
  obtain ⟨⟨a⟩⟩ := x
  obtain ⟨⟨b⟩⟩ := y
  have : a = b := h
  rw [this]
theorem any_figs (z : Str) : (z.cps.toList.any fun c => !decide (c ∈ tl figs)) = false ↔ dgs (tl z) := by
  rw [List.any_eq_false]
  constructor
  · intro h c hc
    have := h c hc
    rw [← in_figs]
    simpa using this
  · intro h c hc
    have := (in_figs c).mpr (h c hc)
    simp [this]
theorem wn_iff (z : Str) : wn z = true ↔ tl z ≠ [] ∧ dgs (tl z) ∧ ((tl z).head? ≠ some 48 ∨ (tl z).length = 1) := by
  unfold wn
  simp only [Bool.and_eq_true, Bool.or_eq_true, Bool.not_eq_true', decide_eq_true_eq, decide_eq_false_iff_not]
  rw [any_figs]
  have hz : z = "" ↔ tl z = [] := ⟨fun h => by rw [h, tl_e], fun h => tl_inj (by rw [h, tl_e])⟩
  have h0 : z = "0" ↔ tl z = [48] := ⟨fun h => by rw [h, tl_0], fun h => tl_inj (by rw [h, tl_0])⟩
  have hs : Txt.startswith z "0" = false ↔ (tl z).head? ≠ some 48 := by
    rw [mk_0, sw_head]
    simp
  rw [hz, h0, hs]
  constructor
  · rintro ⟨⟨h1, h2⟩, h3⟩
    refine ⟨h1, h2, ?_⟩
    rcases h3 with h3 | h3
    · right; rw [h3]; rfl
    · exact .inl h3
  · rintro ⟨h1, h2, h3⟩
    refine ⟨⟨h1, h2⟩, ?_⟩
    by_cases hh : (tl z).head? = some 48
    · left
      rcases h3 with h3 | h3
      · exact absurd hh h3
      · cases e : tl z with
        | nil => exact absurd e h1
        | cons a s =>
          rw [e] at hh h3
          simp at hh h3
          rw [hh, h3]
    · exact .inr hh
theorem wn_sh_of {z : Str} (h : wn z = true) : z = sh (vl (tl z)) := by
  obtain ⟨h1, h2, h3⟩ := (wn_iff z).mp h
  apply tl_inj
  rw [tl_sh (by omega), Int.toNat_natCast]
  exact (num_of _ _ rfl h2 h1 h3).1
theorem int_wn {z : Str} (h : wn z = true) (hl : z.length ≤ 12) : intText? z = some ((vl (tl z) : Nat) : Int) := by
  have e := wn_sh_of h
  rw [len_tl] at hl
  obtain ⟨h1, h2, h3⟩ := (wn_iff z).mp h
  have e2 := (num_of _ _ rfl h2 h1 h3).1
  rw [e2] at hl
  have q := int_num (n := vl (tl z)) (by omega)
  exact (congrArg intText? e).trans q
theorem split_sum (x : Str) : ((Txt.split x bl).map (·.length)).sum + ((Txt.split x bl).length - 1) = x.length := by
  have h := congrArg Str.length (StrLaws.join_split x bl)
  rw [← StrLaws.glued_eq_join, size_glued] at h
  have hb : bl.length = 1 := by decide +kernel
  rw [hb, Nat.mul_one] at h
  exact h
theorem sum_mem : ∀ (l : List Str) (z : Str), z ∈ l → z.length ≤ (l.map (·.length)).sum
  | [], z, h => by cases h
  | a :: r, z, h => by
    rcases List.mem_cons.mp h with e | e
    · subst e; simp
    · have := sum_mem r z e
      simp only [List.map_cons, List.sum_cons]; omega
theorem split_len (x : Str) : (Txt.split x bl).length ≤ x.length + 1 := by
  have := split_sum x
  omega
theorem split_pos (x : Str) : 1 ≤ (Txt.split x bl).length := by
  unfold Txt.split
  split
  · simp
  · split
    · simp
    · rw [length_partsBetween]; omega
theorem split_mem (x z : Str) (h : z ∈ Txt.split x bl) : z.length ≤ x.length := by
  have := split_sum x
  have := sum_mem _ z h
  omega
theorem find_fig (c : Nat) (h : c ∈ tl figs) : Txt.find figs ⟨#[c]⟩ = ((c - 48 : Nat) : Int) := by
  rw [tl_figs] at h
  simp only [List.mem_cons, List.not_mem_nil, or_false] at h
  rcases h with rfl | rfl | rfl | rfl | rfl | rfl | rfl | rfl | rfl | rfl <;> decide +kernel
end Tx
set_option Elab.async false
set_option linter.all false
set_option maxRecDepth 100000
set_option maxHeartbeats 4000000
namespace Tr
open PySem L2 L3
mutual
inductive T where
  | i (n : Int)
  | t (xs : Ts)
inductive Ts where
  | nil
  | cons (x : T) (xs : Ts)
end
mutual
inductive R (H : Hp) : V → T → Prop where
  | i (n : Int) : R H (.int n) (.i n)
  | t {a : Addr} {vs : List V} {xs : Ts} (e : H a = some (.tup vs)) (r : Rs H vs xs) : R H (.ref a) (.t xs)
inductive Rs (H : Hp) : List V → Ts → Prop where
  | nil : Rs H [] .nil
  | cons {v : V} {x : T} {vs : List V} {xs : Ts} (h : R H v x) (r : Rs H vs xs) : Rs H (v :: vs) (.cons x xs)
end
mutual
theorem R.mono {H H' : Hp} (k : Tp H H') : ∀ {v : V} (x : T), R H v x → R H' v x
  | _, .i n, .i _ => .i n
  | _, .t xs, .t e r => .t (k _ _ e) (Rs.mono k xs r)
theorem Rs.mono {H H' : Hp} (k : Tp H H') : ∀ {vs : List V} (xs : Ts), Rs H vs xs → Rs H' vs xs
  | _, .nil, .nil => .nil
  | _, .cons x xs, .cons h r => .cons (R.mono k x h) (Rs.mono k xs r)
end
mutual
def sz : T → Nat
  | .i _ => 1
  | .t xs => 1 + szs xs
def szs : Ts → Nat
  | .nil => 0
  | .cons x xs => sz x + szs xs
end
def len : Ts → Nat
  | .nil => 0
  | .cons _ xs => len xs + 1
theorem Rs.len {H : Hp} : ∀ {vs : List V} {xs : Ts}, Rs H vs xs → vs.length = Tr.len xs
  | _, _, .nil => rfl
  | _, _, .cons _ r => by simp [Tr.len, Rs.len r]
mutual
/-- from k on: the places rise by one, each tuple a pair; told is the place behind -/
def eat : T → Int → Option Int
  | .i n, k => if n = k then some (k + 1) else none
  | .t xs, k => eats xs 2 k
def eats : Ts → Nat → Int → Option Int
  | .nil, 0, k => some k
  | .nil, _ + 1, _ => none
  | .cons _ _, 0, _ => none
  | .cons x xs, n + 1, k => (eat x k).bind (eats xs n)
end
mutual
/-- the same from the right -/
def eatR : T → Int → Option Int
  | .i n, p => if n = p - 1 then some (p - 1) else none
  | .t xs, p => eatsR xs 2 p
def eatsR : Ts → Nat → Int → Option Int
  | .nil, 0, p => some p
  | .nil, _ + 1, _ => none
  | .cons _ _, 0, _ => none
  | .cons x xs, n + 1, p => (eatsR xs n p).bind (eatR x)
end
mutual
theorem eat_iff : ∀ (x : T) (k p : Int), eat x k = some p ↔ eatR x p = some k
  | .i n, k, p => by
    simp only [eat, eatR]
    constructor
    · intro h; split at h
      · cases h; rw [if_pos (by omega)]; congr 1; omega
      · cases h
    · intro h; split at h
      · cases h; rw [if_pos (by omega)]; congr 1; omega
      · cases h
  | .t xs, k, p => by simp only [eat, eatR]; exact eats_iff xs 2 k p
theorem eats_iff : ∀ (xs : Ts) (n : Nat) (k p : Int), eats xs n k = some p ↔ eatsR xs n p = some k
  | .nil, 0, k, p => by simp only [eats, eatsR, Option.some.injEq]; exact eq_comm
  | .nil, _ + 1, k, p => by simp [eats, eatsR]
  | .cons _ _, 0, k, p => by simp [eats, eatsR]
  | .cons x xs, n + 1, k, p => by
    simp only [eats, eatsR, Option.bind_eq_some_iff]
    constructor
    · rintro ⟨q, h1, h2⟩; exact ⟨q, (eats_iff xs n q p).mp h2, (eat_iff x k q).mp h1⟩
    · rintro ⟨q, h1, h2⟩; exact ⟨q, (eat_iff x k q).mpr h2, (eats_iff xs n q p).mpr h1⟩
end
mutual
theorem eat_sz : ∀ (x : T) (k p : Int), eat x k = some p → k < p ∧ (sz x : Int) = 2 * (p - k) - 1
  | .i n, k, p, h => by
    simp only [eat] at h
    split at h
    · cases h; simp only [sz]; omega
    · cases h
  | .t xs, k, p, h => by
    have q := eats_sz xs 2 k p h
    simp only [sz]
    omega
theorem eats_sz : ∀ (xs : Ts) (n : Nat) (k p : Int), eats xs n k = some p → k + n ≤ p ∧ (szs xs : Int) = 2 * (p - k) - n
  | .nil, 0, k, p, h => by simp only [eats] at h; cases h; simp [szs]
  | .nil, _ + 1, k, p, h => by simp [eats] at h
  | .cons _ _, 0, k, p, h => by simp [eats] at h
  | .cons x xs, n + 1, k, p, h => by
    simp only [eats, Option.bind_eq_some_iff] at h
    obtain ⟨q, h1, h2⟩ := h
    have q1 := eat_sz x k q h1
    have q2 := eats_sz xs n q p h2
    simp only [szs]
    omega
end
abbrev St (H : Hp) (vs : List V) (xs : List T) : Prop := Paired (R H) vs xs
theorem St.mono {H H' : Hp} (k : Tp H H') : ∀ {vs : List V} {xs : List T}, St H vs xs → St H' vs xs
  | _, _, .nil => .nil
  | _, _, .cons h r => .cons (h.mono k) (St.mono k r)
def tl : Ts → List T
  | .nil => []
  | .cons x xs => x :: tl xs
theorem Rs.st {H : Hp} : ∀ {vs : List V} {xs : Ts}, Rs H vs xs → St H vs (tl xs)
  | _, _, .nil => .nil
  | _, _, .cons h r => .cons h (Rs.st r)
theorem St.append {H : Hp} : ∀ {vs ws : List V} {xs ys : List T}, St H vs xs → St H ws ys → St H (vs ++ ws) (xs ++ ys)
  | _, _, _, _, .nil, s => s
  | _, _, _, _, .cons h r, s => .cons h (St.append r s)
end Tr
set_option Elab.async false
set_option linter.all false
set_option maxRecDepth 100000
set_option maxHeartbeats 1000000
namespace Bn
open PySem L2 L3 Tr
inductive B where
  | l
  | n (a b : B)
def nl : B → Nat
  | .l => 1
  | .n a b => nl a + nl b
def toT : B → Int → T
  | .l, k => .i k
  | .n a b, k => .t (.cons (toT a k) (.cons (toT b (k + nl a)) .nil))
def dp : B → Int → List Int
  | .l, d => [d]
  | .n a b, d => dp a (d + 1) ++ dp b (d + 1)
def rv : B → B
  | .l => .l
  | .n a b => .n (rv b) (rv a)
def pt : B → Nat → B
  | .l, _ => .n .l .l
  | .n a b, i => if i < nl a then .n (pt a i) b else .n a (pt b (i - nl a))
end Bn
set_option Elab.async false
set_option linter.all false
set_option maxRecDepth 100000
namespace Tr
open PySem L2 L3 L4
mutual
def dT : T → Nat
  | .i _ => 0
  | .t xs => 1 + dTs xs
def dTs : Ts → Nat
  | .nil => 0
  | .cons x xs => max (dT x) (dTs xs)
end
mutual
def toD : T → PyData
  | .i n => .int n
  | .t xs => .tuple (toDs xs)
def toDs : Ts → List PyData
  | .nil => []
  | .cons x xs => toD x :: toDs xs
end
mutual
theorem R.dp {K : PySem.W.Frag} {H : Hp} : ∀ {v : V} {x : T}, R H v x → Dp K H v (toD x)
  | _, .i n, .i _ => .int n
  | _, .t xs, .t e r => .tup (SqT.of e) (Rs.dp r)
theorem Rs.dp {K : PySem.W.Frag} {H : Hp} : ∀ {vs : List V} {xs : Ts}, Rs H vs xs → DpAll K H vs (toDs xs)
  | _, .nil, .nil => .nil
  | _, .cons x xs, .cons h r => .cons (R.dp h) (Rs.dp r)
end
mutual
theorem can_T : ∀ x : T, (toD x).canLay0 = true
  | .i n => by rw [toD]; rfl
  | .t xs => by rw [toD, PyData.canLay0]; exact can_Ts xs
theorem can_Ts : ∀ xs : Ts, PyData.canLayAll0 (toDs xs) = true
  | .nil => by rw [toDs]; rfl
  | .cons x xs => by rw [toDs, PyData.canLayAll0, can_T x, can_Ts xs]; rfl
end
mutual
theorem dep_T : ∀ x : T, (toD x).depth ≤ dT x + 1
  | .i n => by rw [toD, PyData.depth]; omega
  | .t xs => by have := dep_Ts xs; rw [toD, PyData.depth, dT]; omega
theorem dep_Ts : ∀ xs : Ts, PyData.depthAll (toDs xs) ≤ dTs xs + 1
  | .nil => by rw [toDs, PyData.depthAll]; omega
  | .cons x xs => by have := dep_T x; have := dep_Ts xs; rw [toDs, PyData.depthAll, dTs]; omega
end
theorem Rs.get {H : Hp} : ∀ {vs : List V} {xs : Ts}, Rs H vs xs → ∀ {us : List V}, Rs H us xs → ∀ (i : Nat) (v u : V), vs[i]? = some v → us[i]? = some u → ∃ x, R H v x ∧ R H u x ∧ dT x ≤ dTs xs ∧ sz x ≤ szs xs
  | _, _, .nil, _, _, i, v, u, e, _ => by simp at e
  | _, .cons x xs, .cons h r, _, .cons h' r', 0, v, u, e, e' => by
    simp at e e'; subst e e'
    exact ⟨x, h, h', by simp only [dTs]; omega, by simp only [szs]; omega⟩
  | _, .cons x xs, .cons h r, _, .cons h' r', i + 1, v, u, e, e' => by
    obtain ⟨y, a, b, c, d⟩ := Rs.get r r' i v u (by simpa using e) (by simpa using e')
    exact ⟨y, a, b, by simp only [dTs]; omega, by simp only [szs]; omega⟩
end Tr
set_option Elab.async false
set_option linter.all false
set_option maxRecDepth 100000
set_option maxHeartbeats 1000000
namespace Bn
open PySem L2 L3 L4 Tr
inductive Wt (H : Hp) : List V → List (B × Int) → Prop where
  | nil : Wt H [] []
  | cons {p : Addr} {v : V} {vs : List V} {b : B} {d k : Int} {r : List (B × Int)} (e : H p = some (.tup [v, .int d])) (h : R H v (toT b k)) (t : Wt H vs r) : Wt H (.ref p :: vs) ((b, d) :: r)
theorem Wt.mono {H H' : Hp} (k : Tp H H') : ∀ {vs : List V} {r : List (B × Int)}, Wt H vs r → Wt H' vs r
  | _, _, .nil => .nil
  | _, _, .cons e h t => .cons (k _ _ e) (R.mono k _ h) (Wt.mono k t)
theorem Wt.len {H : Hp} : ∀ {vs : List V} {r : List (B × Int)}, Wt H vs r → vs.length = r.length
  | _, _, .nil => rfl
  | _, _, .cons _ _ t => by simp [Wt.len t]
abbrev pr (x y : T) : T := .t (.cons x (.cons y .nil))
def put : List (Int × T) → Int → T → List (Int × T)
  | [], d, t => [(d, t)]
  | (e, y) :: s, d, t => if e = d then put s (d - 1) (pr y t) else (d, t) :: (e, y) :: s
inductive Sk (H : Hp) : List V → List (Int × T) → Prop where
  | nil : Sk H [] []
  | cons {p : Addr} {v : V} {vs : List V} {d : Int} {x : T} {r : List (Int × T)} (e : H p = some (.tup [.int d, v])) (h : R H v x) (t : Sk H vs r) : Sk H (.ref p :: vs) ((d, x) :: r)
theorem Sk.mono {H H' : Hp} (k : Tp H H') : ∀ {vs : List V} {r : List (Int × T)}, Sk H vs r → Sk H' vs r
  | _, _, .nil => .nil
  | _, _, .cons e h t => .cons (k _ _ e) (R.mono k _ h) (Sk.mono k t)
theorem Sk.len {H : Hp} : ∀ {vs : List V} {r : List (Int × T)}, Sk H vs r → vs.length = r.length
  | _, _, .nil => rfl
  | _, _, .cons _ _ t => by simp [Sk.len t]
end Bn
set_option Elab.async false
set_option linter.all false
set_option maxRecDepth 100000
set_option maxHeartbeats 1000000
namespace Bn
open PySem L2 L3 L4 Tr
mutual
/-- the ends of a thing, from left to right -/
def lv : T → List Int
  | .i n => [n]
  | .t xs => lvs xs
def lvs : Ts → List Int
  | .nil => []
  | .cons x xs => lv x ++ lvs xs
end
def lf : B → Bool
  | .l => true
  | .n _ _ => false
theorem len_app (a b : Str) : (a ++ b).length = a.length + b.length := by
  show (a.cps ++ b.cps).size = _
  rw [Array.size_append]; rfl
inductive Pw (H : Hp) : List V → List (B × Int × Str) → Prop where
  | nil : Pw H [] []
  | cons {p : Addr} {v : V} {vs : List V} {b : B} {k : Int} {w : Str} {r : List (B × Int × Str)} (e : H p = some (.tup [v, .str w])) (h : R H v (toT b k)) (t : Pw H vs r) : Pw H (.ref p :: vs) ((b, k, w) :: r)
theorem Pw.mono {H H' : Hp} (k : Tp H H') : ∀ {vs : List V} {r : List (B × Int × Str)}, Pw H vs r → Pw H' vs r
  | _, _, .nil => .nil
  | _, _, .cons e h t => .cons (k _ _ e) (R.mono k _ h) (Pw.mono k t)
theorem Pw.len {H : Hp} : ∀ {vs : List V} {r : List (B × Int × Str)}, Pw H vs r → vs.length = r.length
  | _, _, .nil => rfl
  | _, _, .cons _ _ t => by simp [Pw.len t]
theorem Pw.snoc {H : Hp} {p : Addr} {v : V} {b : B} {k : Int} {w : Str} (e : H p = some (.tup [v, .str w])) (h : R H v (toT b k)) : ∀ {vs : List V} {r : List (B × Int × Str)}, Pw H vs r → Pw H (vs ++ [.ref p]) (r ++ [(b, k, w)])
  | _, _, .nil => .cons e h .nil
  | _, _, .cons e' h' t => .cons e' h' (Pw.snoc e h t)
theorem Pw.at {H : Hp} : ∀ {vs : List V} {r : List (B × Int × Str)} {i : Nat} {x : V}, Pw H vs r → vs[i]? = some x → ∃ p v b k w, x = .ref p ∧ r[i]? = some (b, k, w) ∧ H p = some (.tup [v, .str w]) ∧ R H v (toT b k)
  | _, _, i, x, .nil, h => by simp at h
  | _, _, 0, x, .cons e h t, hi => by simp at hi; subst hi; exact ⟨_, _, _, _, _, rfl, rfl, e, h⟩
  | _, _, i + 1, x, .cons e h t, hi => by simp at hi; simpa using Pw.at t hi
end Bn
set_option Elab.async false
set_option linter.all false
set_option maxRecDepth 100000
set_option maxHeartbeats 1000000
namespace Bn
open PySem L2 L3 L4 Tr
theorem dp_ints {K : PySem.W.Frag} {H : Hp} : ∀ ns : List Int, DpAll K H (ns.map V.int) (ns.map PyData.int)
  | [] => .nil
  | n :: r => .cons (.int n) (dp_ints r)
theorem can_ints : ∀ ns : List Int, PyData.canLayAll0 (ns.map PyData.int) = true
  | [] => rfl
  | n :: r => by
    rw [List.map_cons, PyData.canLayAll0, can_ints r]; rfl
theorem depth_ints : ∀ ns : List Int, PyData.depthAll (ns.map PyData.int) ≤ 10
  | [] => by decide
  | n :: r => by
    have := depth_ints r
    rw [List.map_cons, PyData.depthAll, PyData.depth]
    omega
theorem shaped_ints (ns : List Int) : SeqAt.shaped (.tuple (ns.map PyData.int)) = true := by
  unfold SeqAt.shaped
  have h1 : (PyData.tuple (ns.map PyData.int)).canLay0 = true := by unfold PyData.canLay0; exact can_ints ns
  have h2 : (PyData.tuple (ns.map PyData.int)).depth ≤ 64 := by
    unfold PyData.depth
    have := depth_ints ns
    omega
  rw [h1, decide_eq_true h2]; rfl
theorem eqv_ints (ns : List Int) : PyData.eqv (.tuple (ns.map PyData.int)) (.tuple (ns.map PyData.int)) = true :=
  SeqAt.eqv_refl _ (by unfold PyData.canLay0; exact can_ints ns)
theorem ne_ints {K : PySem.W.Frag} {H : Hp} {l a : Addr} {ns : List Int} {Q : VK} (h : H l = some (.tup (ns.map V.int))) (h' : H a = some (.tup (ns.map V.int))) (q : Q (.bl false) H) : rNeD K (.ref l) (.ref a) H Q :=
  ⟨_, _, Dp.tup (SqT.of h) (dp_ints ns), Dp.tup (SqT.of h') (dp_ints ns), shaped_ints ns, shaped_ints ns, by rw [eqv_ints]; exact q⟩
end Bn
set_option Elab.async false
set_option linter.all false
set_option maxRecDepth 100000
set_option maxHeartbeats 1000000
namespace Bn
open PySem L2 L3 L4 Tr
end Bn
set_option Elab.async false
set_option linter.all false
set_option maxRecDepth 100000
set_option maxHeartbeats 1000000
namespace Bn
open PySem L2 L3 L4 Tr
theorem dp_strs {K : PySem.W.Frag} {H : Hp} : ∀ zs : List Str, DpAll K H (zs.map V.str) (zs.map PyData.str)
  | [] => .nil
  | n :: r => .cons (.str n) (dp_strs r)
theorem can_strs : ∀ zs : List Str, (∀ z ∈ zs, PyData.strOk z = true) → PyData.canLayAll0 (zs.map PyData.str) = true
  | [], _ => rfl
  | n :: r, h => by
    rw [List.map_cons, PyData.canLayAll0, can_strs r (fun z hz => h z (List.mem_cons_of_mem _ hz)), PyData.canLay0, h n List.mem_cons_self]; rfl
theorem depth_strs : ∀ zs : List Str, PyData.depthAll (zs.map PyData.str) ≤ 10
  | [] => by decide
  | n :: r => by
    have := depth_strs r
    rw [List.map_cons, PyData.depthAll, PyData.depth]
    omega
theorem shaped_strs {zs : List Str} (h : ∀ z ∈ zs, PyData.strOk z = true) : SeqAt.shaped (.tuple (zs.map PyData.str)) = true := by
  unfold SeqAt.shaped
  have h1 : (PyData.tuple (zs.map PyData.str)).canLay0 = true := by unfold PyData.canLay0; exact can_strs zs h
  have h2 : (PyData.tuple (zs.map PyData.str)).depth ≤ 64 := by
    unfold PyData.depth
    have := depth_strs zs
    omega
  rw [h1, decide_eq_true h2]; rfl
theorem eqv_strs {zs : List Str} (h : ∀ z ∈ zs, PyData.strOk z = true) : PyData.eqv (.tuple (zs.map PyData.str)) (.tuple (zs.map PyData.str)) = true :=
  SeqAt.eqv_refl _ (by unfold PyData.canLay0; exact can_strs zs h)
theorem eq_strs {K : PySem.W.Frag} {H : Hp} {l a : Addr} {zs : List Str} {Q : VK} (hz : ∀ z ∈ zs, PyData.strOk z = true) (h : H l = some (.tup (zs.map V.str))) (h' : H a = some (.tup (zs.map V.str))) (q : Q (.bl true) H) : rEqD K (.ref l) (.ref a) H Q :=
  ⟨_, _, Dp.tup (SqT.of h) (dp_strs zs), Dp.tup (SqT.of h') (dp_strs zs), shaped_strs hz, shaped_strs hz, by rw [eqv_strs hz]; exact q⟩
end Bn
set_option Elab.async false
set_option linter.all false
set_option maxRecDepth 100000
set_option maxHeartbeats 1000000
namespace Bn
open PySem L2 L3 L4 Tr
theorem shaped_sn {z : Str} (hz : PyData.strOk z = true) (n : Int) : SeqAt.shaped (.tuple [.str z, .int n]) = true ∧ (PyData.tuple [.str z, .int n]).canLay0 = true := by
  have c1 : (PyData.tuple [.str z, .int n]).canLay0 = true := by
    unfold PyData.canLay0; rw [PyData.canLayAll0, PyData.canLayAll0, PyData.canLayAll0, PyData.canLay0, PyData.canLay0, hz]; rfl
  have c2 : (PyData.tuple [.str z, .int n]).depth ≤ 64 := by
    unfold PyData.depth; rw [PyData.depthAll, PyData.depthAll, PyData.depthAll, PyData.depth, PyData.depth]; decide
  exact ⟨by unfold SeqAt.shaped; rw [c1, decide_eq_true c2]; rfl, c1⟩
theorem shaped_s1 {z : Str} (hz : PyData.strOk z = true) : SeqAt.shaped (.tuple [.str z]) = true := by
  have c1 : (PyData.tuple [.str z]).canLay0 = true := by
    unfold PyData.canLay0; rw [PyData.canLayAll0, PyData.canLayAll0, PyData.canLay0, hz]; rfl
  have c2 : (PyData.tuple [.str z]).depth ≤ 64 := by
    unfold PyData.depth; rw [PyData.depthAll, PyData.depthAll, PyData.depth]; decide
  unfold SeqAt.shaped; rw [c1, decide_eq_true c2]; rfl
theorem ne_sn {K : PySem.W.Frag} {H : Hp} {l a : Addr} {z : Str} {n : Int} {Q : VK} (hz : PyData.strOk z = true) (h : H l = some (.tup [.str z, .int n])) (h' : H a = some (.tup [.str z, .int n])) (q : Q (.bl false) H) : rNeD K (.ref l) (.ref a) H Q := by
  obtain ⟨c, c1⟩ := shaped_sn hz n
  exact ⟨_, _, Dp.tup (SqT.of h) (.cons (.str _) (.cons (.int _) .nil)), Dp.tup (SqT.of h') (.cons (.str _) (.cons (.int _) .nil)), c, c, by rw [SeqAt.eqv_refl _ c1]; exact q⟩
theorem eq_is {K : PySem.W.Frag} {H : Hp} {l a : Addr} {z : Str} {ns : List Int} {Q : VK} (hz : PyData.strOk z = true) (h : H l = some (.tup (ns.map V.int))) (h' : H a = some (.tup [.str z])) (q : Q (.bl false) H) : rEqD K (.ref l) (.ref a) H Q := by
  refine ⟨_, _, Dp.tup (SqT.of h) (dp_ints ns), Dp.tup (SqT.of h') (.cons (.str _) .nil), shaped_ints ns, shaped_s1 hz, ?_⟩
  have e : PyData.eqv (.tuple (ns.map PyData.int)) (.tuple [.str z]) = false := by
    rw [PyData.eqv]
    cases ns with
    | nil => rfl
    | cons n r => rw [List.map_cons, PyData.eqvAll, PyData.eqv]; rfl
  rw [e]; exact q
theorem cut1_ints (ns : List Int) : cutV (ns.map V.int) none (some 1) = (ns.take 1).map V.int := by
  unfold cutV
  rw [HT.sIx_none, show (some (1 : Int)) = some ((1 : Nat) : Int) from rfl, HT.sIx_nat, List.drop_zero, Nat.sub_zero, List.map_take, List.length_map]
  rcases Nat.le_total 1 ns.length with h | h
  · rw [Nat.min_eq_left h]
  · rw [Nat.min_eq_right h, List.take_of_length_le (by simp), List.take_of_length_le (by simpa using h)]
end Bn
set_option Elab.async false
set_option linter.all false
set_option maxRecDepth 100000
set_option maxHeartbeats 4000000
namespace Q
open PySem L2 L3 L4 Dm Tx
def top (i : Nat) : Stmt := PySem.Challenge.pw_joinedheaps_k02_texts_of_no_heaps.main.body.getD i (.Pass ⟨0, 0, 0, 0⟩)
structure Bt (mg : Str → Option Value) : Prop where
  len : mg "len" = none
  isinstance : mg "isinstance" = none
  sum : mg "sum" = none
  min : mg "min" = none
  max : mg "max" = none
  tuple_ : mg "tuple" = none
  range : mg "range" = none
  int_ : mg "int" = none
  bool_ : mg "bool" = none
  str_ : mg "str" = none
  any_ : mg "any" = none
  all_ : mg "all" = none
  enumerate : mg "enumerate" = none
  zip : mg "zip" = none
  reversed : mg "reversed" = none
  sorted_ : mg "sorted" = none
  list_ : mg "list" = none
  abs_ : mg "abs" = none
open Bn TL
abbrev s_law_mix : Stmt := top 12
theorem sc_law_mix : FnScope ["cell", "k", "number"] ["cell", "k"] (defScope s_law_mix) := ⟨rfl, rfl, rfl, by decide +kernel, rfl, by decide +kernel, by decide +kernel⟩
abbrev s_law_deck : Stmt := top 13
theorem sc_law_deck : FnScope ["script"] ["script"] (defScope s_law_deck) := ⟨rfl, rfl, rfl, by decide +kernel, rfl, by decide +kernel, by decide +kernel⟩
abbrev s_law_next : Stmt := top 14
theorem sc_law_next : FnScope ["deck", "many", "cell", "found"] ["deck", "many"] (defScope s_law_next) := ⟨rfl, rfl, rfl, by decide +kernel, rfl, by decide +kernel, by decide +kernel⟩
abbrev s_law_heaps : Stmt := top 15
theorem sc_law_heaps : FnScope ["deck", "most", "many", "way", "base", "great", "found", "k", "any_one", "some"] ["deck", "most"] (defScope s_law_heaps) := ⟨rfl, rfl, rfl, by decide +kernel, rfl, by decide +kernel, by decide +kernel⟩
section
variable {P : Program} {w : World} {K : PySem.W.Frag} {mg : Str → Option Value} {base : Heap} {f : Addr} {fd : FuncData}
theorem ok_mix (F : Fun K "_law_mix" "_law_mix" s_law_mix f fd) : FnOk P w K mg base CX0 1 f fd ["cell", "k"] spMix := by
  refine F.ok sc_law_mix (fun vs H Q E h => ?_) (fun cdv A outer s H vs Q E hr h => ?_)
  · obtain ⟨c, k, rfl, _⟩ := h
    rfl
  obtain ⟨c, k, rfl, h0, h1, q⟩ := h
  refine ⟨_, (pss_cons (ps_set (i := 2) sc_law_mix.nd rfl (by first | exact Or.inl rfl | exact Or.inr rfl) (pe_op op_add (pe_op op_mod (pv 0) pe_int) (pe_op op_mul (pe_op op_mul pe_int (pv 1)) (pv 1))))
    (pss_cons (ps_set (i := 2) sc_law_mix.nd rfl (by first | exact Or.inl rfl | exact Or.inr rfl) (pe_op op_mod (pe_op op_add (pv 2) (pe_op op_mul pe_int (pv 1))) pe_int))
    (pss_cons (ps_set (i := 2) sc_law_mix.nd rfl (by first | exact Or.inl rfl | exact Or.inr rfl) (pe_op op_mod (pe_op op_mul (pv 2) (pv 2)) pe_int))
    (pss_one (ps_ret (pe_op op_fdivB (pe_op op_mod (pe_op op_mul (pv 2) (pe_op op_add (pv 2) pe_int)) pe_int) pe_int)))))), ?_⟩
  rw [show start ["cell", "k", "number"] [V.int c, V.int k] = [some (V.int c), some (V.int k), none] from rfl]
  simp only [rd_seq, rd_next, rd_drop, rd_ret, rd_retN, rd_ifS, rd_asg, rd_gName, rd_gNil, rd_gCons, rd_gTup, rd_gSub, rd_aug, rd_var, rd_C, rd_op, rd_un, rd_nil, rd_cons, rd_tup, rd_lst, rd_call, rd_cb, rd_test, rd_B, rd_and, rd_or, rd_not, rd_andV, rd_orV, rd_notV, rd_ifE, rd_bm0, rd_bm, rd_rv, rd_sl, rd_nopart, rd_part, rd_rI, rd_rI0, rd_rU, rd_ipI, rd_eqI, rd_neI, rd_eqB, rd_neB, rd_eqS, rd_neS, rd_ixU, rd_setU, rd_truL, rd_for1, rd_for2, rd_forL, rd_forT, rd_lc1, rd_lcL, rd_lcT, rd_yes, rd_wipe0, rd_wipe1, rd_rng1, rd_ref1, rd_cxK, rd_cons1, rd_one, at0, at1, at2, at3, at4, ix5_1, ix5_2, ix5_3, upd_upd, rd_bool, rd_some, rd_isv_int_int, rd_isv_int_bool, rd_isv_int_str, rd_isv_int_tuple, rd_isv_int_list, rd_isv_bl_int, rd_isv_bl_bool, rd_isv_bl_str, rd_isv_bl_tuple, rd_isv_bl_list, rd_isv_str_int, rd_isv_str_bool, rd_isv_str_str, rd_isv_str_tuple, rd_isv_str_list, rd_ml0, rd_ml, ln0, ln1, ln2, ln3, ln4, ln5, ln6, ln7, ln8, ln9, ln10, List.getElem?_cons_zero, List.getElem?_cons_succ, List.set_cons_zero, List.set_cons_succ, List.length_cons, List.length_nil, List.cons_append, List.nil_append, List.append_nil, Nat.reduceAdd, true_and, decide_true, decide_false, if_true, Bool.false_eq_true, if_false, Bool.not_true, Bool.not_false, rd_forE, rd_m1, rd_isS, rd_anyS, rd_joinI, rd_sumZ, rd_never, rd_lcZ, rd_min1, rd_sum1, rd_all1, rd_any1, rd_tup1, rd_gnR, rd_gnT, rd_gnL, rd_gLoc, rd_gCap, rd_gC, rd_gI, rd_int2b, rd_int1, rd_dget, rd_dput, rd_dnewT, rd_dnewK, rd_truT, rd_forR, rd_for3, rd_lc2, rd_rng2, rd_forET, rd_par, rd_forES, rd_xfld, rd_raiseI, rd_isS, rd_forS, rd_lcS, rd_rep, rd_mkI, rd_mkX, rd_strX]
  refine ⟨by decide, .inl ⟨by decide, by decide⟩, .inr ⟨by omega, by omega⟩, .inl ⟨by decide, by decide⟩, by decide, .inl (cm _ _ (by decide) (by decide)), by decide, .inl (cm _ _ (by decide) (by decide)), by decide, ⟨by decide, by decide⟩, q _ ?_⟩
  exact Int.ediv_nonneg (Int.emod_nonneg _ (by decide)) (by decide)
theorem ok_next (F : Fun K "_law_next" "_law_next" s_law_next f fd) (T : Bt mg) (D_law_mix : Def P w K mg base 1 "_law_mix" ["cell", "k"] spMix) : FnOk P w K mg base CX0 2 f fd ["deck", "many"] spNext := by
  refine F.ok sc_law_next (fun vs H Q E h => ?_) (fun cdv A outer s H vs Q E hr h => ?_)
  · obtain ⟨D, m, c, rfl, _⟩ := h
    rfl
  obtain ⟨D, m, c, rfl, ⟨a, ns, i, j, k, s', hD, ha, h63, hi, hj, hk, hkc⟩, hc, hm0, hm1, q⟩ := h
  refine ⟨_, (pss_cons (ps_if (PW.pt (pw_and (pt_cmpR op_eq (pe_ix ix_H (pv 0) pe_int (fun _ _ => rfl)) pe_int (nomark _)) (pw_and1 (pt_cmpR op_lt (pe_ix ix_H (pv 0) pe_int (fun _ _ => rfl)) (pe_callB call_lenH (by rfl) T.len (by decide +kernel) (pa_cons (pe_ix ix_H (pv 0) pe_int (fun _ _ => rfl)) pa_nil)) (nomark _))))) (pss_cons (ps_set (i := 2) sc_law_next.nd rfl (by first | exact Or.inl rfl | exact Or.inr rfl) (pe_ix ix_H (pe_ix ix_H (pv 0) pe_int (fun _ _ => rfl)) (pe_ix ix_H (pv 0) pe_int (fun _ _ => rfl)) (fun _ _ => rfl)))
    (pss_cons (ps_asg (pe_op op_add (pe_ix ix_H (pv 0) pe_int (fun _ _ => rfl)) pe_int) (pg_sub (pv 0) pe_int set_list))
    (pss_cons (ps_if (pt_cmpR op_lt (pv 2) (pe_op op_pow pe_int pe_int) (nomark _)) (pss_one (ps_ret (pe_op op_mod (pe_callD D_law_mix (hr.mono (by omega)) (by rfl) (pa_cons (pv 2) (pa_cons (pe_ix ix_H (pv 0) pe_int (fun _ _ => rfl)) pa_nil))) (pv 1)))) pss_nil)
    (pss_one (ps_asg (pv 2) (pg_sub (pv 0) pe_int set_list)))))) pss_nil)
    (pss_cons (ps_if (pt_cmpR op_gt (pe_ix ix_H (pv 0) pe_int (fun _ _ => rfl)) pe_int (nomark _)) (pss_cons (ps_set (i := 3) sc_law_next.nd rfl (by first | exact Or.inl rfl | exact Or.inr rfl) (pe_op op_mod (pe_ix ix_H (pv 0) pe_int (fun _ _ => rfl)) (pv 1)))
    (pss_cons (ps_asg (pe_op op_fdivB (pe_ix ix_H (pv 0) pe_int (fun _ _ => rfl)) (pv 1)) (pg_sub (pv 0) pe_int set_list))
    (pss_one (ps_ret (pv 3))))) pss_nil)
    (pss_cons (ps_asg (pe_op op_add (pe_ix ix_H (pv 0) pe_int (fun _ _ => rfl)) pe_int) (pg_sub (pv 0) pe_int set_list))
    (pss_one (ps_ret (pe_op op_mod (pe_callD D_law_mix (hr.mono (by omega)) (by rfl) (pa_cons (pe_ix ix_H (pv 0) pe_int (fun _ _ => rfl)) (pa_cons (pe_op op_add (pe_ix ix_H (pv 0) pe_int (fun _ _ => rfl)) pe_int) pa_nil))) (pv 1))))))), ?_⟩
  rw [show start ["deck", "many", "cell", "found"] [V.ref D, V.int m] = [some (V.ref D), some (V.int m), none, none] from rfl]
  have hne := Dk.ne hD ha
  simp only [rd_seq, rd_next, rd_drop, rd_ret, rd_retN, rd_ifS, rd_asg, rd_gName, rd_gNil, rd_gCons, rd_gTup, rd_gSub, rd_aug, rd_var, rd_C, rd_op, rd_un, rd_nil, rd_cons, rd_tup, rd_lst, rd_call, rd_cb, rd_test, rd_B, rd_and, rd_or, rd_not, rd_andV, rd_orV, rd_notV, rd_ifE, rd_bm0, rd_bm, rd_rv, rd_sl, rd_nopart, rd_part, rd_rI, rd_rI0, rd_rU, rd_ipI, rd_eqI, rd_neI, rd_eqB, rd_neB, rd_eqS, rd_neS, rd_ixU, rd_setU, rd_truL, rd_for1, rd_for2, rd_forL, rd_forT, rd_lc1, rd_lcL, rd_lcT, rd_yes, rd_wipe0, rd_wipe1, rd_rng1, rd_ref1, rd_cxK, rd_cons1, rd_one, at0, at1, at2, at3, at4, ix5_1, ix5_2, ix5_3, upd_upd, rd_bool, rd_some, rd_isv_int_int, rd_isv_int_bool, rd_isv_int_str, rd_isv_int_tuple, rd_isv_int_list, rd_isv_bl_int, rd_isv_bl_bool, rd_isv_bl_str, rd_isv_bl_tuple, rd_isv_bl_list, rd_isv_str_int, rd_isv_str_bool, rd_isv_str_str, rd_isv_str_tuple, rd_isv_str_list, rd_ml0, rd_ml, ln0, ln1, ln2, ln3, ln4, ln5, ln6, ln7, ln8, ln9, ln10, List.getElem?_cons_zero, List.getElem?_cons_succ, List.set_cons_zero, List.set_cons_succ, List.length_cons, List.length_nil, List.cons_append, List.nil_append, List.append_nil, Nat.reduceAdd, true_and, decide_true, decide_false, if_true, Bool.false_eq_true, if_false, Bool.not_true, Bool.not_false, rd_forE, rd_m1, rd_isS, rd_anyS, rd_joinI, rd_sumZ, rd_never, rd_lcZ, rd_min1, rd_sum1, rd_all1, rd_any1, rd_tup1, rd_gnR, rd_gnT, rd_gnL, rd_gLoc, rd_gCap, rd_gC, rd_gI, rd_int2b, rd_int1, rd_dget, rd_dput, rd_dnewT, rd_dnewK, rd_truT, rd_forR, rd_for3, rd_lc2, rd_rng2, rd_forET, rd_par, rd_forES, rd_xfld, rd_raiseI, rd_isS, rd_forS, rd_lcS, rd_rep, rd_mkI, rd_mkX, rd_strX, rd_ixH hD, rd_ixH ha, rd_lenH ha, rd_setH hD, (fun u => rd_ixH (upd_at (u := u) hne ha))]
  have fin : ∀ (i' j' k' : Int), 0 ≤ i' → 0 ≤ j' → 0 ≤ k' → k' ≤ c + 1 → ∀ r : Int, 0 ≤ r → r < m → Q (.int r) (upd H D (.lst [.ref a, .int i', .int j', .int k', .int s'])) := fun i' j' k' h1 h2 h3 h4 r hr0 hr1 =>
    q r _ hr0 hr1 (Kp.deck hD) ⟨a, ns, i', j', k', s', upd_same, upd_at hne ha, h63, h1, h2, h3, by omega⟩
  have cd : ∀ x, CDivB x m := fun x => ⟨by omega, hm1⟩
  have dn : ∀ x : Int, 0 ≤ x → 0 ≤ x / m := fun x hx => Int.ediv_nonneg hx (by omega)
  have m0 : ∀ x : Int, 0 ≤ x % m := fun x => Int.emod_nonneg x (by omega)
  have m1 : ∀ x : Int, x % m < m := fun x => Int.emod_lt_of_pos x (by omega)
  refine ite2 (fun c1 => ite2 (fun c2 => ?_) fun c2 => ite2 (fun c3 => ?_) fun c3 => ?_) fun c1 => ite2 (fun c3 => ?_) fun c3 => ?_
  · have c2' : i < ((ns.map V.int).length : Int) := of_decide_eq_true c2
    rw [List.length_map] at c2'
    obtain ⟨n, hn⟩ := atI_ints hi c2'
    refine ⟨_, hn, ⟨by decide, by decide, by decide⟩, ?_⟩
    simp only [rd_seq, rd_next, rd_drop, rd_ret, rd_retN, rd_ifS, rd_asg, rd_gName, rd_gNil, rd_gCons, rd_gTup, rd_gSub, rd_aug, rd_var, rd_C, rd_op, rd_un, rd_nil, rd_cons, rd_tup, rd_lst, rd_call, rd_cb, rd_test, rd_B, rd_and, rd_or, rd_not, rd_andV, rd_orV, rd_notV, rd_ifE, rd_bm0, rd_bm, rd_rv, rd_sl, rd_nopart, rd_part, rd_rI, rd_rI0, rd_rU, rd_ipI, rd_eqI, rd_neI, rd_eqB, rd_neB, rd_eqS, rd_neS, rd_ixU, rd_setU, rd_truL, rd_for1, rd_for2, rd_forL, rd_forT, rd_lc1, rd_lcL, rd_lcT, rd_yes, rd_wipe0, rd_wipe1, rd_rng1, rd_ref1, rd_cxK, rd_cons1, rd_one, at0, at1, at2, at3, at4, ix5_1, ix5_2, ix5_3, upd_upd, rd_bool, rd_some, rd_isv_int_int, rd_isv_int_bool, rd_isv_int_str, rd_isv_int_tuple, rd_isv_int_list, rd_isv_bl_int, rd_isv_bl_bool, rd_isv_bl_str, rd_isv_bl_tuple, rd_isv_bl_list, rd_isv_str_int, rd_isv_str_bool, rd_isv_str_str, rd_isv_str_tuple, rd_isv_str_list, rd_ml0, rd_ml, ln0, ln1, ln2, ln3, ln4, ln5, ln6, ln7, ln8, ln9, ln10, List.getElem?_cons_zero, List.getElem?_cons_succ, List.set_cons_zero, List.set_cons_succ, List.length_cons, List.length_nil, List.cons_append, List.nil_append, List.append_nil, Nat.reduceAdd, true_and, decide_true, decide_false, if_true, Bool.false_eq_true, if_false, Bool.not_true, Bool.not_false, rd_forE, rd_m1, rd_isS, rd_anyS, rd_joinI, rd_sumZ, rd_never, rd_lcZ, rd_min1, rd_sum1, rd_all1, rd_any1, rd_tup1, rd_gnR, rd_gnT, rd_gnL, rd_gLoc, rd_gCap, rd_gC, rd_gI, rd_int2b, rd_int1, rd_dget, rd_dput, rd_dnewT, rd_dnewK, rd_truT, rd_forR, rd_for3, rd_lc2, rd_rng2, rd_forET, rd_par, rd_forES, rd_xfld, rd_raiseI, rd_isS, rd_forS, rd_lcS, rd_rep, rd_mkI, rd_mkX, rd_strX]
    refine ite2 (fun c4 => ?_) fun c4 => ?_
    · exact mix_mod (by omega) (by omega) hm0 fun r h0 h1 => fin _ _ _ (by omega) hj hk (by omega) r h0 h1
    · have c4' : ¬ (n < 10 ^ Int.toNat 18) := fun z => c4 (decide_eq_true z)
      have p18 : (0 : Int) < 10 ^ Int.toNat 18 := by decide
      have hn0 : 0 < n := by omega
      refine ite2 (fun c5 => ⟨by omega, cd _, fin _ _ _ (by omega) (dn _ (by omega)) hk (by omega) _ (m0 _) (m1 _)⟩) fun c5 => absurd (decide_eq_true hn0) c5
  · exact ⟨by omega, cd _, fin _ _ _ hi (dn _ hj) hk (by omega) _ (m0 _) (m1 _)⟩
  · exact mix_mod (by omega) (by omega) hm0 fun r h0 h1 => fin _ _ _ hi hj (by omega) (by omega) r h0 h1
  · exact ⟨by omega, cd _, fin _ _ _ hi (dn _ hj) hk (by omega) _ (m0 _) (m1 _)⟩
  · exact mix_mod (by omega) (by omega) hm0 fun r h0 h1 => fin _ _ _ hi hj (by omega) (by omega) r h0 h1
theorem ok_deck (F : Fun K "_law_deck" "_law_deck" s_law_deck f fd) (T : Bt mg) : FnOk P w K mg base CX0 1 f fd ["script"] (spDeck K) := by
  refine F.ok sc_law_deck (fun vs H Q E h => ?_) (fun cdv A outer s H vs Q E hr h => ?_)
  · obtain ⟨a, ns, rfl, _⟩ := h
    rfl
  obtain ⟨a, ns, rfl, hS, h63, q⟩ := h
  refine ⟨_, (pss_one (ps_ret (pe_lst (pa_cons (pe_slice sl_list (pv 0) po_none (po_some pe_int)) (pa_cons pe_int (pa_cons pe_int (pa_cons pe_int (pa_cons (pe_callB (cr_sum rfl) (by rfl) T.sum (by decide +kernel) (pa_cons (pe_slice sl_list (pv 0) po_none (po_some pe_int)) pa_nil)) pa_nil)))))))), ?_⟩
  rw [show start ["script"] [V.ref a] = [some (V.ref a)] from rfl]
  simp only [rd_seq, rd_next, rd_drop, rd_ret, rd_retN, rd_ifS, rd_asg, rd_gName, rd_gNil, rd_gCons, rd_gTup, rd_gSub, rd_aug, rd_var, rd_C, rd_op, rd_un, rd_nil, rd_cons, rd_tup, rd_lst, rd_call, rd_cb, rd_test, rd_B, rd_and, rd_or, rd_not, rd_andV, rd_orV, rd_notV, rd_ifE, rd_bm0, rd_bm, rd_rv, rd_sl, rd_nopart, rd_part, rd_rI, rd_rI0, rd_rU, rd_ipI, rd_eqI, rd_neI, rd_eqB, rd_neB, rd_eqS, rd_neS, rd_ixU, rd_setU, rd_truL, rd_for1, rd_for2, rd_forL, rd_forT, rd_lc1, rd_lcL, rd_lcT, rd_yes, rd_wipe0, rd_wipe1, rd_rng1, rd_ref1, rd_cxK, rd_cons1, rd_one, at0, at1, at2, at3, at4, ix5_1, ix5_2, ix5_3, upd_upd, rd_bool, rd_some, rd_isv_int_int, rd_isv_int_bool, rd_isv_int_str, rd_isv_int_tuple, rd_isv_int_list, rd_isv_bl_int, rd_isv_bl_bool, rd_isv_bl_str, rd_isv_bl_tuple, rd_isv_bl_list, rd_isv_str_int, rd_isv_str_bool, rd_isv_str_str, rd_isv_str_tuple, rd_isv_str_list, rd_ml0, rd_ml, ln0, ln1, ln2, ln3, ln4, ln5, ln6, ln7, ln8, ln9, ln10, List.getElem?_cons_zero, List.getElem?_cons_succ, List.set_cons_zero, List.set_cons_succ, List.length_cons, List.length_nil, List.cons_append, List.nil_append, List.append_nil, Nat.reduceAdd, true_and, decide_true, decide_false, if_true, Bool.false_eq_true, if_false, Bool.not_true, Bool.not_false, rd_forE, rd_m1, rd_isS, rd_anyS, rd_joinI, rd_sumZ, rd_never, rd_lcZ, rd_min1, rd_sum1, rd_all1, rd_any1, rd_tup1, rd_gnR, rd_gnT, rd_gnL, rd_gLoc, rd_gCap, rd_gC, rd_gI, rd_int2b, rd_int1, rd_dget, rd_dput, rd_dnewT, rd_dnewK, rd_truT, rd_forR, rd_for3, rd_lc2, rd_rng2, rd_forET, rd_par, rd_forES, rd_xfld, rd_raiseI, rd_isS, rd_forS, rd_lcS, rd_rep, rd_mkI, rd_mkX, rd_strX]
  have cut : ∀ {n : Nat}, cutV (ns.map V.int) none (some (n : Int)) = (ns.take n).map V.int := fun {n} => by
    unfold cutV
    rw [HT.sIx_none, HT.sIx_nat, List.drop_zero, Nat.sub_zero, List.map_take, List.length_map]
    rcases Nat.le_total n ns.length with h | h
    · rw [Nat.min_eq_left h]
    · rw [Nat.min_eq_right h, List.take_of_length_le (by simp), List.take_of_length_le (by simpa using h)]
  refine ⟨a, _, rfl, hS, fun p hp => ⟨a, _, rfl, (same_new hp _).seq hS, fun p2 hp2 => ⟨p2, ns.take 63, rfl, SqL.of (by rw [upd_same]; exact congrArg (fun z => some (HO.lst z)) (cut (n := 63))), fun D hD => ?_⟩⟩⟩
  have s1 := same_new hp (.lst (cutV (ns.map V.int) none (some 63)))
  have s2 := same_new hp2 (.lst (cutV (ns.map V.int) none (some 63)))
  have s3 := same_new hD (.lst [.ref p, .int 0, .int 0, .int 0, .int (ns.take 63).sum])
  refine q D _ (s1.trans (s2.trans s3)) ((s1.trans s2).free hD) ⟨p, ns.take 63, 0, 0, 0, _, upd_same, s3 _ _ (s2 _ _ (by rw [upd_same]; exact congrArg (fun z => some (HO.lst z)) (cut (n := 63)))), by simp; omega, by decide, by decide, by decide, by decide⟩
end
def spHeaps : Sp := fun vs H Q _ => ∃ (D : Addr) (c : Nat) (ms : Int), vs = [.ref D, .int ms] ∧ 1 ≤ ms ∧ ms ≤ 24 ∧ Dk H D c ∧ c < 2 ^ 40 ∧
  ∀ (l : Addr) (ns : List Int) H', H' l = some (.tup (ns.map V.int)) → H l = none → 1 ≤ ns.length → (ns.length : Int) ≤ ms → (∀ n ∈ ns, 0 ≤ n ∧ n < 10 ^ 12) → Kp D H H' → Dk H' D (c + 60) → Q (.ref l) H'
theorem pw24 : ∀ i : Nat, i < 24 → 0 ≤ (1 : Int) * 2 ^ ((0 : Int) + (i : Int)).toNat ∧ (1 : Int) * 2 ^ ((0 : Int) + (i : Int)).toNat < 1000000000000 := by decide
theorem ok_heaps (F : Fun K "_law_heaps" "_law_heaps" s_law_heaps f fd) (T : Bt mg) (D_law_next : Def P w K mg base 2 "_law_next" ["deck", "many"] spNext) : FnOk P w K mg base CX0 3 f fd ["deck", "most"] spHeaps := by
  refine F.ok sc_law_heaps (fun vs H Q E h => ?_) (fun cdv A outer s H vs Q E hr h => ?_)
  · obtain ⟨D, c, ms, rfl, _⟩ := h
    rfl
  obtain ⟨D, c, ms, rfl, hms1, hms2, hD, hc, q⟩ := h
  refine ⟨_, (pss_cons (ps_set (i := 2) sc_law_heaps.nd rfl (by first | exact Or.inl rfl | exact Or.inr rfl) (pe_ix ix_H (pe_lst (pa_cons (pe_op op_add pe_int (pe_callD D_law_next (hr.mono (by omega)) (by rfl) (pa_cons (pv 0) (pa_cons (pv 1) pa_nil)))) (pa_cons (pe_op op_add pe_int (pe_callD D_law_next (hr.mono (by omega)) (by rfl) (pa_cons (pv 0) (pa_cons (pe_callB (call_min2 rfl) (by rfl) T.min (by decide +kernel) (pa_cons pe_int (pa_cons (pv 1) pa_nil))) pa_nil)))) (pa_cons (pv 1) pa_nil)))) (pe_callD D_law_next (hr.mono (by omega)) (by rfl) (pa_cons (pv 0) (pa_cons pe_int pa_nil))) (fun _ _ => rfl)))
    (pss_cons (ps_set (i := 3) sc_law_heaps.nd rfl (by first | exact Or.inl rfl | exact Or.inr rfl) (pe_callD D_law_next (hr.mono (by omega)) (by rfl) (pa_cons (pv 0) (pa_cons pe_int pa_nil))))
    (pss_cons (ps_set (i := 4) sc_law_heaps.nd rfl (by first | exact Or.inl rfl | exact Or.inr rfl) (pe_op op_add (pe_op op_mul (pe_callD D_law_next (hr.mono (by omega)) (by rfl) (pa_cons (pv 0) (pa_cons (pe_op op_pow pe_int pe_int) pa_nil))) (pe_op op_pow pe_int pe_int)) (pe_callD D_law_next (hr.mono (by omega)) (by rfl) (pa_cons (pv 0) (pa_cons (pe_op op_pow pe_int pe_int) pa_nil)))))
    (pss_cons (ps_set (i := 5) sc_law_heaps.nd rfl (by first | exact Or.inl rfl | exact Or.inr rfl) (pe_callD D_law_next (hr.mono (by omega)) (by rfl) (pa_cons (pv 0) (pa_cons (pv 2) pa_nil))))
    (pss_cons (ps_set (i := 6) sc_law_heaps.nd rfl (by first | exact Or.inl rfl | exact Or.inr rfl) (pe_lst pa_nil))
    (pss_cons (ps_for PassesOwn.never rfl (pi_range1 (by rfl) T.range (pa_cons (pv 2) pa_nil)) (pg_name (i := 7) sc_law_heaps.nd rfl (by first | exact Or.inl rfl | exact Or.inr rfl)) (pss_cons (ps_set (i := 8) sc_law_heaps.nd rfl (by first | exact Or.inl rfl | exact Or.inr rfl) (pe_op op_add (pe_op op_mul (pe_callD D_law_next (hr.mono (by omega)) (by rfl) (pa_cons (pv 0) (pa_cons (pe_op op_pow pe_int pe_int) pa_nil))) (pe_op op_pow pe_int pe_int)) (pe_callD D_law_next (hr.mono (by omega)) (by rfl) (pa_cons (pv 0) (pa_cons (pe_op op_pow pe_int pe_int) pa_nil)))))
    (pss_cons (ps_set (i := 9) sc_law_heaps.nd rfl (by first | exact Or.inl rfl | exact Or.inr rfl) (pe_lst (pa_cons (pe_op op_mod (pv 8) pe_int) (pa_cons (pv 8) (pa_cons (pv 4) (pa_cons (pe_op op_shl pe_int (pv 7)) (pa_cons (pe_op op_mod (pv 8) pe_int) (pa_cons (pe_op op_mul (pv 7) (pe_op op_fdivB (pv 4) pe_int)) (pa_cons (pe_op op_mod (pv 8) pe_int) pa_nil)))))))))
    (pss_one (ps_expr (pe_ml PySem.F.slot_list_append PySem.F.type_list_append mt_append (pv 6) (pa_cons (pe_ix ix_H (pe_op op_cat (pv 9) (pe_lst (pa_cons (pe_op op_sub (pe_op op_sub (pe_op op_pow pe_int pe_int) pe_int) (pe_op op_mod (pv 8) pe_int)) pa_nil))) (pv 3) (fun _ _ => rfl)) pa_nil)))))))
    (pss_cons (ps_if (pt_cmpR op_eq (pv 3) pe_int (nomark _)) (pss_one (ps_asg (pv 4) (pg_sub (pv 6) (pv 5) set_list))) pss_nil)
    (pss_one (ps_ret (pe_callTy call_tupL (by rfl) T.tuple_ (by decide +kernel) (pa_cons (pe_ix ix_H (pe_lst (pa_cons (pv 6) (pa_cons (pe_rev rv_LH (pv 6) (pe_un un_neg pe_int)) pa_nil))) (pe_callD D_law_next (hr.mono (by omega)) (by rfl) (pa_cons (pv 0) (pa_cons pe_int pa_nil))) (fun _ _ => rfl)) pa_nil))))))))))), ?_⟩
  rw [show start ["deck", "most", "many", "way", "base", "great", "found", "k", "any_one", "some"] [V.ref D, V.int ms] = [some (V.ref D), some (V.int ms), none, none, none, none, none, none, none, none] from rfl]
  have e6 : (10 : Int) ^ Int.toNat 6 = 1000000 := by decide
  have e12 : (10 : Int) ^ Int.toNat 12 = 1000000000000 := by decide
  have pw6 : CPow 10 6 := ⟨by decide, by decide, by decide⟩
  have pw12 : CPow 10 12 := ⟨by decide, by decide, by decide⟩
  simp only [rd_seq, rd_next, rd_drop, rd_ret, rd_retN, rd_ifS, rd_asg, rd_gName, rd_gNil, rd_gCons, rd_gTup, rd_gSub, rd_aug, rd_var, rd_C, rd_op, rd_un, rd_nil, rd_cons, rd_tup, rd_lst, rd_call, rd_cb, rd_test, rd_B, rd_and, rd_or, rd_not, rd_andV, rd_orV, rd_notV, rd_ifE, rd_bm0, rd_bm, rd_rv, rd_sl, rd_nopart, rd_part, rd_rI, rd_rI0, rd_rU, rd_ipI, rd_eqI, rd_neI, rd_eqB, rd_neB, rd_eqS, rd_neS, rd_ixU, rd_setU, rd_truL, rd_for1, rd_for2, rd_forL, rd_forT, rd_lc1, rd_lcL, rd_lcT, rd_yes, rd_wipe0, rd_wipe1, rd_rng1, rd_ref1, rd_cxK, rd_cons1, rd_one, at0, at1, at2, at3, at4, ix5_1, ix5_2, ix5_3, upd_upd, rd_bool, rd_some, rd_isv_int_int, rd_isv_int_bool, rd_isv_int_str, rd_isv_int_tuple, rd_isv_int_list, rd_isv_bl_int, rd_isv_bl_bool, rd_isv_bl_str, rd_isv_bl_tuple, rd_isv_bl_list, rd_isv_str_int, rd_isv_str_bool, rd_isv_str_str, rd_isv_str_tuple, rd_isv_str_list, rd_ml0, rd_ml, ln0, ln1, ln2, ln3, ln4, ln5, ln6, ln7, ln8, ln9, ln10, List.getElem?_cons_zero, List.getElem?_cons_succ, List.set_cons_zero, List.set_cons_succ, List.length_cons, List.length_nil, List.cons_append, List.nil_append, List.append_nil, Nat.reduceAdd, true_and, decide_true, decide_false, if_true, Bool.false_eq_true, if_false, Bool.not_true, Bool.not_false, rd_forE, rd_m1, rd_isS, rd_anyS, rd_joinI, rd_sumZ, rd_never, rd_lcZ, rd_min1, rd_sum1, rd_all1, rd_any1, rd_tup1, rd_gnR, rd_gnT, rd_gnL, rd_gLoc, rd_gCap, rd_gC, rd_gI, rd_int2b, rd_int1, rd_dget, rd_dput, rd_dnewT, rd_dnewK, rd_truT, rd_forR, rd_for3, rd_lc2, rd_rng2, rd_forET, rd_par, rd_forES, rd_xfld, rd_raiseI, rd_isS, rd_forS, rd_lcS, rd_rep, rd_mkI, rd_mkX, rd_strX, e6]
  have S0 : Sd D H H c := ⟨Kp.refl _ _, hD⟩
  refine ⟨D, ms, c, rfl, hD, by omega, by omega, by omega, fun r1 G1 x1 y1 k1 d1 => ?_⟩
  have S1 := S0.next k1 d1
  simp only [rd_seq, rd_next, rd_drop, rd_ret, rd_retN, rd_ifS, rd_asg, rd_gName, rd_gNil, rd_gCons, rd_gTup, rd_gSub, rd_aug, rd_var, rd_C, rd_op, rd_un, rd_nil, rd_cons, rd_tup, rd_lst, rd_call, rd_cb, rd_test, rd_B, rd_and, rd_or, rd_not, rd_andV, rd_orV, rd_notV, rd_ifE, rd_bm0, rd_bm, rd_rv, rd_sl, rd_nopart, rd_part, rd_rI, rd_rI0, rd_rU, rd_ipI, rd_eqI, rd_neI, rd_eqB, rd_neB, rd_eqS, rd_neS, rd_ixU, rd_setU, rd_truL, rd_for1, rd_for2, rd_forL, rd_forT, rd_lc1, rd_lcL, rd_lcT, rd_yes, rd_wipe0, rd_wipe1, rd_rng1, rd_ref1, rd_cxK, rd_cons1, rd_one, at0, at1, at2, at3, at4, ix5_1, ix5_2, ix5_3, upd_upd, rd_bool, rd_some, rd_isv_int_int, rd_isv_int_bool, rd_isv_int_str, rd_isv_int_tuple, rd_isv_int_list, rd_isv_bl_int, rd_isv_bl_bool, rd_isv_bl_str, rd_isv_bl_tuple, rd_isv_bl_list, rd_isv_str_int, rd_isv_str_bool, rd_isv_str_str, rd_isv_str_tuple, rd_isv_str_list, rd_ml0, rd_ml, ln0, ln1, ln2, ln3, ln4, ln5, ln6, ln7, ln8, ln9, ln10, List.getElem?_cons_zero, List.getElem?_cons_succ, List.set_cons_zero, List.set_cons_succ, List.length_cons, List.length_nil, List.cons_append, List.nil_append, List.append_nil, Nat.reduceAdd, true_and, decide_true, decide_false, if_true, Bool.false_eq_true, if_false, Bool.not_true, Bool.not_false, rd_forE, rd_m1, rd_isS, rd_anyS, rd_joinI, rd_sumZ, rd_never, rd_lcZ, rd_min1, rd_sum1, rd_all1, rd_any1, rd_tup1, rd_gnR, rd_gnT, rd_gnL, rd_gLoc, rd_gCap, rd_gC, rd_gI, rd_int2b, rd_int1, rd_dget, rd_dput, rd_dnewT, rd_dnewK, rd_truT, rd_forR, rd_for3, rd_lc2, rd_rng2, rd_forET, rd_par, rd_forES, rd_xfld, rd_raiseI, rd_isS, rd_forS, rd_lcS, rd_rep, rd_mkI, rd_mkX, rd_strX]
  refine ⟨D, _, _, rfl, d1, by omega, by split <;> omega, by split <;> omega, fun r2 G2 x2 y2 k2 d2 => ?_⟩
  have y2 : r2 < ms := by split at y2 <;> omega
  have S2 := S1.next k2 d2
  simp only [rd_seq, rd_next, rd_drop, rd_ret, rd_retN, rd_ifS, rd_asg, rd_gName, rd_gNil, rd_gCons, rd_gTup, rd_gSub, rd_aug, rd_var, rd_C, rd_op, rd_un, rd_nil, rd_cons, rd_tup, rd_lst, rd_call, rd_cb, rd_test, rd_B, rd_and, rd_or, rd_not, rd_andV, rd_orV, rd_notV, rd_ifE, rd_bm0, rd_bm, rd_rv, rd_sl, rd_nopart, rd_part, rd_rI, rd_rI0, rd_rU, rd_ipI, rd_eqI, rd_neI, rd_eqB, rd_neB, rd_eqS, rd_neS, rd_ixU, rd_setU, rd_truL, rd_for1, rd_for2, rd_forL, rd_forT, rd_lc1, rd_lcL, rd_lcT, rd_yes, rd_wipe0, rd_wipe1, rd_rng1, rd_ref1, rd_cxK, rd_cons1, rd_one, at0, at1, at2, at3, at4, ix5_1, ix5_2, ix5_3, upd_upd, rd_bool, rd_some, rd_isv_int_int, rd_isv_int_bool, rd_isv_int_str, rd_isv_int_tuple, rd_isv_int_list, rd_isv_bl_int, rd_isv_bl_bool, rd_isv_bl_str, rd_isv_bl_tuple, rd_isv_bl_list, rd_isv_str_int, rd_isv_str_bool, rd_isv_str_str, rd_isv_str_tuple, rd_isv_str_list, rd_ml0, rd_ml, ln0, ln1, ln2, ln3, ln4, ln5, ln6, ln7, ln8, ln9, ln10, List.getElem?_cons_zero, List.getElem?_cons_succ, List.set_cons_zero, List.set_cons_succ, List.length_cons, List.length_nil, List.cons_append, List.nil_append, List.append_nil, Nat.reduceAdd, true_and, decide_true, decide_false, if_true, Bool.false_eq_true, if_false, Bool.not_true, Bool.not_false, rd_forE, rd_m1, rd_isS, rd_anyS, rd_joinI, rd_sumZ, rd_never, rd_lcZ, rd_min1, rd_sum1, rd_all1, rd_any1, rd_tup1, rd_gnR, rd_gnT, rd_gnL, rd_gLoc, rd_gCap, rd_gC, rd_gI, rd_int2b, rd_int1, rd_dget, rd_dput, rd_dnewT, rd_dnewK, rd_truT, rd_forR, rd_for3, rd_lc2, rd_rng2, rd_forET, rd_par, rd_forES, rd_xfld, rd_raiseI, rd_isS, rd_forS, rd_lcS, rd_rep, rd_mkI, rd_mkX, rd_strX]
  intro p hp
  have sp := same_new hp (.lst [.int (1 + r1), .int (1 + r2), .int ms])
  refine ⟨D, 3, _, rfl, d2.same sp, by omega, by decide, by decide, fun r3 G3 x3 y3 k3 d3 => ?_⟩
  have S3 := (S2.same sp).next k3 d3
  have hp3 := k3.keep p _ upd_same (d2.nd hp)
  simp only [rd_ixH hp3, rd_seq, rd_next, rd_drop, rd_ret, rd_retN, rd_ifS, rd_asg, rd_gName, rd_gNil, rd_gCons, rd_gTup, rd_gSub, rd_aug, rd_var, rd_C, rd_op, rd_un, rd_nil, rd_cons, rd_tup, rd_lst, rd_call, rd_cb, rd_test, rd_B, rd_and, rd_or, rd_not, rd_andV, rd_orV, rd_notV, rd_ifE, rd_bm0, rd_bm, rd_rv, rd_sl, rd_nopart, rd_part, rd_rI, rd_rI0, rd_rU, rd_ipI, rd_eqI, rd_neI, rd_eqB, rd_neB, rd_eqS, rd_neS, rd_ixU, rd_setU, rd_truL, rd_for1, rd_for2, rd_forL, rd_forT, rd_lc1, rd_lcL, rd_lcT, rd_yes, rd_wipe0, rd_wipe1, rd_rng1, rd_ref1, rd_cxK, rd_cons1, rd_one, at0, at1, at2, at3, at4, ix5_1, ix5_2, ix5_3, upd_upd, rd_bool, rd_some, rd_isv_int_int, rd_isv_int_bool, rd_isv_int_str, rd_isv_int_tuple, rd_isv_int_list, rd_isv_bl_int, rd_isv_bl_bool, rd_isv_bl_str, rd_isv_bl_tuple, rd_isv_bl_list, rd_isv_str_int, rd_isv_str_bool, rd_isv_str_str, rd_isv_str_tuple, rd_isv_str_list, rd_ml0, rd_ml, ln0, ln1, ln2, ln3, ln4, ln5, ln6, ln7, ln8, ln9, ln10, List.getElem?_cons_zero, List.getElem?_cons_succ, List.set_cons_zero, List.set_cons_succ, List.length_cons, List.length_nil, List.cons_append, List.nil_append, List.append_nil, Nat.reduceAdd, true_and, decide_true, decide_false, if_true, Bool.false_eq_true, if_false, Bool.not_true, Bool.not_false, rd_forE, rd_m1, rd_isS, rd_anyS, rd_joinI, rd_sumZ, rd_never, rd_lcZ, rd_min1, rd_sum1, rd_all1, rd_any1, rd_tup1, rd_gnR, rd_gnT, rd_gnL, rd_gLoc, rd_gCap, rd_gC, rd_gI, rd_int2b, rd_int1, rd_dget, rd_dput, rd_dnewT, rd_dnewK, rd_truT, rd_forR, rd_for3, rd_lc2, rd_rng2, rd_forET, rd_par, rd_forES, rd_xfld, rd_raiseI, rd_isS, rd_forS, rd_lcS, rd_rep, rd_mkI, rd_mkX, rd_strX]
  obtain ⟨vm, hvm, hmm⟩ := atI_in (xs := [V.int (1 + r1), V.int (1 + r2), V.int ms]) x3 (by simpa using y3)
  have hm : ∃ m : Int, vm = .int m ∧ 1 ≤ m ∧ m ≤ ms := by
    simp only [List.mem_cons, List.not_mem_nil, or_false] at hmm
    rcases hmm with rfl | rfl | rfl
    · exact ⟨_, rfl, by omega, by omega⟩
    · exact ⟨_, rfl, by omega, by omega⟩
    · exact ⟨_, rfl, by omega, by omega⟩
  obtain ⟨m, rfl, hm1, hm2⟩ := hm
  refine ⟨_, hvm, ?_⟩
  clear hp3 hvm hmm sp hp k1 k2 k3 d1 d2 S1 S2
  refine ⟨D, 8, _, rfl, d3, by omega, by decide, by decide, fun way G4 x4 y4 k4 d4 => ⟨pw6, D, _, _, rfl, d4, by omega, by decide, by decide, fun r5 G5 x5 y5 k5 d5 => ?_⟩⟩
  simp only [rd_seq, rd_next, rd_drop, rd_ret, rd_retN, rd_ifS, rd_asg, rd_gName, rd_gNil, rd_gCons, rd_gTup, rd_gSub, rd_aug, rd_var, rd_C, rd_op, rd_un, rd_nil, rd_cons, rd_tup, rd_lst, rd_call, rd_cb, rd_test, rd_B, rd_and, rd_or, rd_not, rd_andV, rd_orV, rd_notV, rd_ifE, rd_bm0, rd_bm, rd_rv, rd_sl, rd_nopart, rd_part, rd_rI, rd_rI0, rd_rU, rd_ipI, rd_eqI, rd_neI, rd_eqB, rd_neB, rd_eqS, rd_neS, rd_ixU, rd_setU, rd_truL, rd_for1, rd_for2, rd_forL, rd_forT, rd_lc1, rd_lcL, rd_lcT, rd_yes, rd_wipe0, rd_wipe1, rd_rng1, rd_ref1, rd_cxK, rd_cons1, rd_one, at0, at1, at2, at3, at4, ix5_1, ix5_2, ix5_3, upd_upd, rd_bool, rd_some, rd_isv_int_int, rd_isv_int_bool, rd_isv_int_str, rd_isv_int_tuple, rd_isv_int_list, rd_isv_bl_int, rd_isv_bl_bool, rd_isv_bl_str, rd_isv_bl_tuple, rd_isv_bl_list, rd_isv_str_int, rd_isv_str_bool, rd_isv_str_str, rd_isv_str_tuple, rd_isv_str_list, rd_ml0, rd_ml, ln0, ln1, ln2, ln3, ln4, ln5, ln6, ln7, ln8, ln9, ln10, List.getElem?_cons_zero, List.getElem?_cons_succ, List.set_cons_zero, List.set_cons_succ, List.length_cons, List.length_nil, List.cons_append, List.nil_append, List.append_nil, Nat.reduceAdd, true_and, decide_true, decide_false, if_true, Bool.false_eq_true, if_false, Bool.not_true, Bool.not_false, rd_forE, rd_m1, rd_isS, rd_anyS, rd_joinI, rd_sumZ, rd_never, rd_lcZ, rd_min1, rd_sum1, rd_all1, rd_any1, rd_tup1, rd_gnR, rd_gnT, rd_gnL, rd_gLoc, rd_gCap, rd_gC, rd_gI, rd_int2b, rd_int1, rd_dget, rd_dput, rd_dnewT, rd_dnewK, rd_truT, rd_forR, rd_for3, rd_lc2, rd_rng2, rd_forET, rd_par, rd_forES, rd_xfld, rd_raiseI, rd_isS, rd_forS, rd_lcS, rd_rep, rd_mkI, rd_mkX, rd_strX]
  refine ⟨pw6, .inr ⟨by decide, by decide⟩, pw6, D, _, _, rfl, d5, by omega, by decide, by decide, fun r6 G6 x6 y6 k6 d6 => ?_⟩
  simp only [rd_seq, rd_next, rd_drop, rd_ret, rd_retN, rd_ifS, rd_asg, rd_gName, rd_gNil, rd_gCons, rd_gTup, rd_gSub, rd_aug, rd_var, rd_C, rd_op, rd_un, rd_nil, rd_cons, rd_tup, rd_lst, rd_call, rd_cb, rd_test, rd_B, rd_and, rd_or, rd_not, rd_andV, rd_orV, rd_notV, rd_ifE, rd_bm0, rd_bm, rd_rv, rd_sl, rd_nopart, rd_part, rd_rI, rd_rI0, rd_rU, rd_ipI, rd_eqI, rd_neI, rd_eqB, rd_neB, rd_eqS, rd_neS, rd_ixU, rd_setU, rd_truL, rd_for1, rd_for2, rd_forL, rd_forT, rd_lc1, rd_lcL, rd_lcT, rd_yes, rd_wipe0, rd_wipe1, rd_rng1, rd_ref1, rd_cxK, rd_cons1, rd_one, at0, at1, at2, at3, at4, ix5_1, ix5_2, ix5_3, upd_upd, rd_bool, rd_some, rd_isv_int_int, rd_isv_int_bool, rd_isv_int_str, rd_isv_int_tuple, rd_isv_int_list, rd_isv_bl_int, rd_isv_bl_bool, rd_isv_bl_str, rd_isv_bl_tuple, rd_isv_bl_list, rd_isv_str_int, rd_isv_str_bool, rd_isv_str_str, rd_isv_str_tuple, rd_isv_str_list, rd_ml0, rd_ml, ln0, ln1, ln2, ln3, ln4, ln5, ln6, ln7, ln8, ln9, ln10, List.getElem?_cons_zero, List.getElem?_cons_succ, List.set_cons_zero, List.set_cons_succ, List.length_cons, List.length_nil, List.cons_append, List.nil_append, List.append_nil, Nat.reduceAdd, true_and, decide_true, decide_false, if_true, Bool.false_eq_true, if_false, Bool.not_true, Bool.not_false, rd_forE, rd_m1, rd_isS, rd_anyS, rd_joinI, rd_sumZ, rd_never, rd_lcZ, rd_min1, rd_sum1, rd_all1, rd_any1, rd_tup1, rd_gnR, rd_gnT, rd_gnL, rd_gLoc, rd_gCap, rd_gC, rd_gI, rd_int2b, rd_int1, rd_dget, rd_dput, rd_dnewT, rd_dnewK, rd_truT, rd_forR, rd_for3, rd_lc2, rd_rng2, rd_forET, rd_par, rd_forES, rd_xfld, rd_raiseI, rd_isS, rd_forS, rd_lcS, rd_rep, rd_mkI, rd_mkX, rd_strX]
  have S6 := ((S3.next k4 d4).next k5 d5).next k6 d6
  have hb0 : 0 ≤ r5 * 1000000 + r6 := by omega
  have hb1 : r5 * 1000000 + r6 < 1000000000000 := by omega
  generalize hbase : r5 * 1000000 + r6 = bs at *
  refine ⟨D, m, _, rfl, d6, by omega, by omega, by omega, fun gr G7 x7 y7 k7 d7 => ?_⟩
  have S7 := S6.next k7 d7
  simp only [rd_seq, rd_next, rd_drop, rd_ret, rd_retN, rd_ifS, rd_asg, rd_gName, rd_gNil, rd_gCons, rd_gTup, rd_gSub, rd_aug, rd_var, rd_C, rd_op, rd_un, rd_nil, rd_cons, rd_tup, rd_lst, rd_call, rd_cb, rd_test, rd_B, rd_and, rd_or, rd_not, rd_andV, rd_orV, rd_notV, rd_ifE, rd_bm0, rd_bm, rd_rv, rd_sl, rd_nopart, rd_part, rd_rI, rd_rI0, rd_rU, rd_ipI, rd_eqI, rd_neI, rd_eqB, rd_neB, rd_eqS, rd_neS, rd_ixU, rd_setU, rd_truL, rd_for1, rd_for2, rd_forL, rd_forT, rd_lc1, rd_lcL, rd_lcT, rd_yes, rd_wipe0, rd_wipe1, rd_rng1, rd_ref1, rd_cxK, rd_cons1, rd_one, at0, at1, at2, at3, at4, ix5_1, ix5_2, ix5_3, upd_upd, rd_bool, rd_some, rd_isv_int_int, rd_isv_int_bool, rd_isv_int_str, rd_isv_int_tuple, rd_isv_int_list, rd_isv_bl_int, rd_isv_bl_bool, rd_isv_bl_str, rd_isv_bl_tuple, rd_isv_bl_list, rd_isv_str_int, rd_isv_str_bool, rd_isv_str_str, rd_isv_str_tuple, rd_isv_str_list, rd_ml0, rd_ml, ln0, ln1, ln2, ln3, ln4, ln5, ln6, ln7, ln8, ln9, ln10, List.getElem?_cons_zero, List.getElem?_cons_succ, List.set_cons_zero, List.set_cons_succ, List.length_cons, List.length_nil, List.cons_append, List.nil_append, List.append_nil, Nat.reduceAdd, true_and, decide_true, decide_false, if_true, Bool.false_eq_true, if_false, Bool.not_true, Bool.not_false, rd_forE, rd_m1, rd_isS, rd_anyS, rd_joinI, rd_sumZ, rd_never, rd_lcZ, rd_min1, rd_sum1, rd_all1, rd_any1, rd_tup1, rd_gnR, rd_gnT, rd_gnL, rd_gLoc, rd_gCap, rd_gC, rd_gI, rd_int2b, rd_int1, rd_dget, rd_dput, rd_dnewT, rd_dnewK, rd_truT, rd_forR, rd_for3, rd_lc2, rd_rng2, rd_forET, rd_par, rd_forES, rd_xfld, rd_raiseI, rd_isS, rd_forS, rd_lcS, rd_rep, rd_mkI, rd_mkX, rd_strX]
  intro fl hfl
  have ff := S7.free hfl
  have S8 := S7.same (same_new hfl (.lst []))
  have hf8 := upd_same (H := G7) (a := fl) (o := .lst [])
  generalize upd G7 fl (.lst []) = G8 at *
  clear S7 S6 S3 k4 k5 k6 k7 d3 d4 d5 d6 d7 hfl
  refine ⟨by omega, by omega, ?_⟩
  refine forW_range (fun i σ G => ∃ (b7 b8 b9 : Option V) (ns : List Int), σ = [some (.ref D), some (.int ms), some (.int m), some (.int way), some (.int bs), some (.int gr), some (.ref fl), b7, b8, b9] ∧ G fl = some (.lst (ns.map V.int)) ∧ ns.length = i ∧ (∀ n ∈ ns, 0 ≤ n ∧ n < 10 ^ 12) ∧ Sd D H G (c + 7 + 2 * i)) ⟨_, _, _, [], rfl, hf8, rfl, (fun n hn => by simp at hn), S8⟩ ?_ ?_
  · rintro i σ G hi ⟨b7, b8, b9, ns, rfl, hf, hlen, hns, S⟩
    have hi2 : i < 24 := by omega
    simp only [rd_seq, rd_next, rd_drop, rd_ret, rd_retN, rd_ifS, rd_asg, rd_gName, rd_gNil, rd_gCons, rd_gTup, rd_gSub, rd_aug, rd_var, rd_C, rd_op, rd_un, rd_nil, rd_cons, rd_tup, rd_lst, rd_call, rd_cb, rd_test, rd_B, rd_and, rd_or, rd_not, rd_andV, rd_orV, rd_notV, rd_ifE, rd_bm0, rd_bm, rd_rv, rd_sl, rd_nopart, rd_part, rd_rI, rd_rI0, rd_rU, rd_ipI, rd_eqI, rd_neI, rd_eqB, rd_neB, rd_eqS, rd_neS, rd_ixU, rd_setU, rd_truL, rd_for1, rd_for2, rd_forL, rd_forT, rd_lc1, rd_lcL, rd_lcT, rd_yes, rd_wipe0, rd_wipe1, rd_rng1, rd_ref1, rd_cxK, rd_cons1, rd_one, at0, at1, at2, at3, at4, ix5_1, ix5_2, ix5_3, upd_upd, rd_bool, rd_some, rd_isv_int_int, rd_isv_int_bool, rd_isv_int_str, rd_isv_int_tuple, rd_isv_int_list, rd_isv_bl_int, rd_isv_bl_bool, rd_isv_bl_str, rd_isv_bl_tuple, rd_isv_bl_list, rd_isv_str_int, rd_isv_str_bool, rd_isv_str_str, rd_isv_str_tuple, rd_isv_str_list, rd_ml0, rd_ml, ln0, ln1, ln2, ln3, ln4, ln5, ln6, ln7, ln8, ln9, ln10, List.getElem?_cons_zero, List.getElem?_cons_succ, List.set_cons_zero, List.set_cons_succ, List.length_cons, List.length_nil, List.cons_append, List.nil_append, List.append_nil, Nat.reduceAdd, true_and, decide_true, decide_false, if_true, Bool.false_eq_true, if_false, Bool.not_true, Bool.not_false, rd_forE, rd_m1, rd_isS, rd_anyS, rd_joinI, rd_sumZ, rd_never, rd_lcZ, rd_min1, rd_sum1, rd_all1, rd_any1, rd_tup1, rd_gnR, rd_gnT, rd_gnL, rd_gLoc, rd_gCap, rd_gC, rd_gI, rd_int2b, rd_int1, rd_dget, rd_dput, rd_dnewT, rd_dnewK, rd_truT, rd_forR, rd_for3, rd_lc2, rd_rng2, rd_forET, rd_par, rd_forES, rd_xfld, rd_raiseI, rd_isS, rd_forS, rd_lcS, rd_rep, rd_mkI, rd_mkX, rd_strX, e6, e12]
    refine ⟨pw6, D, _, _, rfl, S.d, by omega, by decide, by decide, fun u5 G1 x5 y5 k1 d1 => ?_⟩
    simp only [rd_seq, rd_next, rd_drop, rd_ret, rd_retN, rd_ifS, rd_asg, rd_gName, rd_gNil, rd_gCons, rd_gTup, rd_gSub, rd_aug, rd_var, rd_C, rd_op, rd_un, rd_nil, rd_cons, rd_tup, rd_lst, rd_call, rd_cb, rd_test, rd_B, rd_and, rd_or, rd_not, rd_andV, rd_orV, rd_notV, rd_ifE, rd_bm0, rd_bm, rd_rv, rd_sl, rd_nopart, rd_part, rd_rI, rd_rI0, rd_rU, rd_ipI, rd_eqI, rd_neI, rd_eqB, rd_neB, rd_eqS, rd_neS, rd_ixU, rd_setU, rd_truL, rd_for1, rd_for2, rd_forL, rd_forT, rd_lc1, rd_lcL, rd_lcT, rd_yes, rd_wipe0, rd_wipe1, rd_rng1, rd_ref1, rd_cxK, rd_cons1, rd_one, at0, at1, at2, at3, at4, ix5_1, ix5_2, ix5_3, upd_upd, rd_bool, rd_some, rd_isv_int_int, rd_isv_int_bool, rd_isv_int_str, rd_isv_int_tuple, rd_isv_int_list, rd_isv_bl_int, rd_isv_bl_bool, rd_isv_bl_str, rd_isv_bl_tuple, rd_isv_bl_list, rd_isv_str_int, rd_isv_str_bool, rd_isv_str_str, rd_isv_str_tuple, rd_isv_str_list, rd_ml0, rd_ml, ln0, ln1, ln2, ln3, ln4, ln5, ln6, ln7, ln8, ln9, ln10, List.getElem?_cons_zero, List.getElem?_cons_succ, List.set_cons_zero, List.set_cons_succ, List.length_cons, List.length_nil, List.cons_append, List.nil_append, List.append_nil, Nat.reduceAdd, true_and, decide_true, decide_false, if_true, Bool.false_eq_true, if_false, Bool.not_true, Bool.not_false, rd_forE, rd_m1, rd_isS, rd_anyS, rd_joinI, rd_sumZ, rd_never, rd_lcZ, rd_min1, rd_sum1, rd_all1, rd_any1, rd_tup1, rd_gnR, rd_gnT, rd_gnL, rd_gLoc, rd_gCap, rd_gC, rd_gI, rd_int2b, rd_int1, rd_dget, rd_dput, rd_dnewT, rd_dnewK, rd_truT, rd_forR, rd_for3, rd_lc2, rd_rng2, rd_forET, rd_par, rd_forES, rd_xfld, rd_raiseI, rd_isS, rd_forS, rd_lcS, rd_rep, rd_mkI, rd_mkX, rd_strX]
    refine ⟨pw6, .inr ⟨by decide, by decide⟩, pw6, D, _, _, rfl, d1, by omega, by decide, by decide, fun u6 G2 x6 y6 k2 d2 => ?_⟩
    simp only [rd_seq, rd_next, rd_drop, rd_ret, rd_retN, rd_ifS, rd_asg, rd_gName, rd_gNil, rd_gCons, rd_gTup, rd_gSub, rd_aug, rd_var, rd_C, rd_op, rd_un, rd_nil, rd_cons, rd_tup, rd_lst, rd_call, rd_cb, rd_test, rd_B, rd_and, rd_or, rd_not, rd_andV, rd_orV, rd_notV, rd_ifE, rd_bm0, rd_bm, rd_rv, rd_sl, rd_nopart, rd_part, rd_rI, rd_rI0, rd_rU, rd_ipI, rd_eqI, rd_neI, rd_eqB, rd_neB, rd_eqS, rd_neS, rd_ixU, rd_setU, rd_truL, rd_for1, rd_for2, rd_forL, rd_forT, rd_lc1, rd_lcL, rd_lcT, rd_yes, rd_wipe0, rd_wipe1, rd_rng1, rd_ref1, rd_cxK, rd_cons1, rd_one, at0, at1, at2, at3, at4, ix5_1, ix5_2, ix5_3, upd_upd, rd_bool, rd_some, rd_isv_int_int, rd_isv_int_bool, rd_isv_int_str, rd_isv_int_tuple, rd_isv_int_list, rd_isv_bl_int, rd_isv_bl_bool, rd_isv_bl_str, rd_isv_bl_tuple, rd_isv_bl_list, rd_isv_str_int, rd_isv_str_bool, rd_isv_str_str, rd_isv_str_tuple, rd_isv_str_list, rd_ml0, rd_ml, ln0, ln1, ln2, ln3, ln4, ln5, ln6, ln7, ln8, ln9, ln10, List.getElem?_cons_zero, List.getElem?_cons_succ, List.set_cons_zero, List.set_cons_succ, List.length_cons, List.length_nil, List.cons_append, List.nil_append, List.append_nil, Nat.reduceAdd, true_and, decide_true, decide_false, if_true, Bool.false_eq_true, if_false, Bool.not_true, Bool.not_false, rd_forE, rd_m1, rd_isS, rd_anyS, rd_joinI, rd_sumZ, rd_never, rd_lcZ, rd_min1, rd_sum1, rd_all1, rd_any1, rd_tup1, rd_gnR, rd_gnT, rd_gnL, rd_gLoc, rd_gCap, rd_gC, rd_gI, rd_int2b, rd_int1, rd_dget, rd_dput, rd_dnewT, rd_dnewK, rd_truT, rd_forR, rd_for3, rd_lc2, rd_rng2, rd_forET, rd_par, rd_forES, rd_xfld, rd_raiseI, rd_isS, rd_forS, rd_lcS, rd_rep, rd_mkI, rd_mkX, rd_strX]
    have S2 := (S.next k1 d1).next k2 d2
    have hf2 := k2.keep _ _ (k1.keep _ _ hf (hD.nd ff)) (hD.nd ff)
    have ha0 : 0 ≤ u5 * 1000000 + u6 := by omega
    have ha1 : u5 * 1000000 + u6 < 1000000000000 := by omega
    generalize hao : u5 * 1000000 + u6 = ao at *
    have hp24 := pw24 i hi2
    have hk0 : 0 ≤ (0 + (i : Int)) * (bs / 24) := Int.mul_nonneg (by omega) (by omega)
    have hk1 : (0 + (i : Int)) * (bs / 24) ≤ 23 * (bs / 24) := Int.mul_le_mul_of_nonneg_right (by omega) (by omega)
    refine ⟨by decide, ⟨by omega, by omega, by decide⟩, by decide, ⟨by decide, by decide⟩, .inl ⟨by omega, by omega⟩, by decide, fun p hp => ?_⟩
    have s1 := same_new hp (.lst [V.int (ao % 10), V.int ao, V.int bs, V.int (1 * 2 ^ ((0 : Int) + (i : Int)).toNat), V.int (ao % 2), V.int ((0 + (i : Int)) * (bs / 24)), V.int (ao % 9)])
    have hf3 := s1 _ _ hf2
    have hl7 := upd_same (H := G2) (a := p) (o := .lst [V.int (ao % 10), V.int ao, V.int bs, V.int (1 * 2 ^ ((0 : Int) + (i : Int)).toNat), V.int (ao % 2), V.int ((0 + (i : Int)) * (bs / 24)), V.int (ao % 9)])
    have S3 := S2.same s1
    generalize upd G2 p (.lst [V.int (ao % 10), V.int ao, V.int bs, V.int (1 * 2 ^ ((0 : Int) + (i : Int)).toNat), V.int (ao % 2), V.int ((0 + (i : Int)) * (bs / 24)), V.int (ao % 9)]) = G3 at *
    simp only [rd_isL hf3, rd_seq, rd_next, rd_drop, rd_ret, rd_retN, rd_ifS, rd_asg, rd_gName, rd_gNil, rd_gCons, rd_gTup, rd_gSub, rd_aug, rd_var, rd_C, rd_op, rd_un, rd_nil, rd_cons, rd_tup, rd_lst, rd_call, rd_cb, rd_test, rd_B, rd_and, rd_or, rd_not, rd_andV, rd_orV, rd_notV, rd_ifE, rd_bm0, rd_bm, rd_rv, rd_sl, rd_nopart, rd_part, rd_rI, rd_rI0, rd_rU, rd_ipI, rd_eqI, rd_neI, rd_eqB, rd_neB, rd_eqS, rd_neS, rd_ixU, rd_setU, rd_truL, rd_for1, rd_for2, rd_forL, rd_forT, rd_lc1, rd_lcL, rd_lcT, rd_yes, rd_wipe0, rd_wipe1, rd_rng1, rd_ref1, rd_cxK, rd_cons1, rd_one, at0, at1, at2, at3, at4, ix5_1, ix5_2, ix5_3, upd_upd, rd_bool, rd_some, rd_isv_int_int, rd_isv_int_bool, rd_isv_int_str, rd_isv_int_tuple, rd_isv_int_list, rd_isv_bl_int, rd_isv_bl_bool, rd_isv_bl_str, rd_isv_bl_tuple, rd_isv_bl_list, rd_isv_str_int, rd_isv_str_bool, rd_isv_str_str, rd_isv_str_tuple, rd_isv_str_list, rd_ml0, rd_ml, ln0, ln1, ln2, ln3, ln4, ln5, ln6, ln7, ln8, ln9, ln10, List.getElem?_cons_zero, List.getElem?_cons_succ, List.set_cons_zero, List.set_cons_succ, List.length_cons, List.length_nil, List.cons_append, List.nil_append, List.append_nil, Nat.reduceAdd, true_and, decide_true, decide_false, if_true, Bool.false_eq_true, if_false, Bool.not_true, Bool.not_false, rd_forE, rd_m1, rd_isS, rd_anyS, rd_joinI, rd_sumZ, rd_never, rd_lcZ, rd_min1, rd_sum1, rd_all1, rd_any1, rd_tup1, rd_gnR, rd_gnT, rd_gnL, rd_gLoc, rd_gCap, rd_gC, rd_gI, rd_int2b, rd_int1, rd_dget, rd_dput, rd_dnewT, rd_dnewK, rd_truT, rd_forR, rd_for3, rd_lc2, rd_rng2, rd_forET, rd_par, rd_forES, rd_xfld, rd_raiseI, rd_isS, rd_forS, rd_lcS, rd_rep, rd_mkI, rd_mkX, rd_strX]
    refine ⟨pw12, by decide, fun p1 hp1 => ?_⟩
    have s2 := same_new hp1 (.lst [V.int (1000000000000 - 1 - ao % 3)])
    have hl7b := s2 _ _ hl7
    simp only [rd_cat hl7b upd_same, rd_seq, rd_next, rd_drop, rd_ret, rd_retN, rd_ifS, rd_asg, rd_gName, rd_gNil, rd_gCons, rd_gTup, rd_gSub, rd_aug, rd_var, rd_C, rd_op, rd_un, rd_nil, rd_cons, rd_tup, rd_lst, rd_call, rd_cb, rd_test, rd_B, rd_and, rd_or, rd_not, rd_andV, rd_orV, rd_notV, rd_ifE, rd_bm0, rd_bm, rd_rv, rd_sl, rd_nopart, rd_part, rd_rI, rd_rI0, rd_rU, rd_ipI, rd_eqI, rd_neI, rd_eqB, rd_neB, rd_eqS, rd_neS, rd_ixU, rd_setU, rd_truL, rd_for1, rd_for2, rd_forL, rd_forT, rd_lc1, rd_lcL, rd_lcT, rd_yes, rd_wipe0, rd_wipe1, rd_rng1, rd_ref1, rd_cxK, rd_cons1, rd_one, at0, at1, at2, at3, at4, ix5_1, ix5_2, ix5_3, upd_upd, rd_bool, rd_some, rd_isv_int_int, rd_isv_int_bool, rd_isv_int_str, rd_isv_int_tuple, rd_isv_int_list, rd_isv_bl_int, rd_isv_bl_bool, rd_isv_bl_str, rd_isv_bl_tuple, rd_isv_bl_list, rd_isv_str_int, rd_isv_str_bool, rd_isv_str_str, rd_isv_str_tuple, rd_isv_str_list, rd_ml0, rd_ml, ln0, ln1, ln2, ln3, ln4, ln5, ln6, ln7, ln8, ln9, ln10, List.getElem?_cons_zero, List.getElem?_cons_succ, List.set_cons_zero, List.set_cons_succ, List.length_cons, List.length_nil, List.cons_append, List.nil_append, List.append_nil, Nat.reduceAdd, true_and, decide_true, decide_false, if_true, Bool.false_eq_true, if_false, Bool.not_true, Bool.not_false, rd_forE, rd_m1, rd_isS, rd_anyS, rd_joinI, rd_sumZ, rd_never, rd_lcZ, rd_min1, rd_sum1, rd_all1, rd_any1, rd_tup1, rd_gnR, rd_gnT, rd_gnL, rd_gLoc, rd_gCap, rd_gC, rd_gI, rd_int2b, rd_int1, rd_dget, rd_dput, rd_dnewT, rd_dnewK, rd_truT, rd_forR, rd_for3, rd_lc2, rd_rng2, rd_forET, rd_par, rd_forES, rd_xfld, rd_raiseI, rd_isS, rd_forS, rd_lcS, rd_rep, rd_mkI, rd_mkX, rd_strX]
    intro p2 hp2
    have s3 := same_new hp2 (.lst [V.int (ao % 10), V.int ao, V.int bs, V.int (1 * 2 ^ ((0 : Int) + (i : Int)).toNat), V.int (ao % 2), V.int ((0 + (i : Int)) * (bs / 24)), V.int (ao % 9), V.int (1000000000000 - 1 - ao % 3)])
    have hf5 := s3 _ _ (s2 _ _ hf3)
    obtain ⟨v, hv, hvm⟩ := atI_in (xs := [V.int (ao % 10), V.int ao, V.int bs, V.int (1 * 2 ^ ((0 : Int) + (i : Int)).toNat), V.int (ao % 2), V.int ((0 + (i : Int)) * (bs / 24)), V.int (ao % 9), V.int (1000000000000 - 1 - ao % 3)]) x4 (by simpa using y4)
    have hn : ∃ n : Int, v = .int n ∧ 0 ≤ n ∧ n < 10 ^ 12 := by
      simp only [List.mem_cons, List.not_mem_nil, or_false] at hvm
      rcases hvm with rfl | rfl | rfl | rfl | rfl | rfl | rfl | rfl
      · exact ⟨_, rfl, by omega, by omega⟩
      · exact ⟨_, rfl, by omega, by omega⟩
      · exact ⟨_, rfl, by omega, by omega⟩
      · exact ⟨_, rfl, by omega, by omega⟩
      · exact ⟨_, rfl, by omega, by omega⟩
      · exact ⟨_, rfl, by omega, by omega⟩
      · exact ⟨_, rfl, by omega, by omega⟩
      · exact ⟨_, rfl, by omega, by omega⟩
    obtain ⟨n, rfl, hn0, hn1⟩ := hn
    refine ⟨_, hv, ?_⟩
    rw [rd_append hf5]
    have S5 := S3.same (s2.trans s3)
    refine ⟨small100k (by simp; omega), _, _, _, ns ++ [n], rfl, by rw [upd_same]; simp, by simp; omega, fun k hk => ?_, (S5.own hD ff _).mono (by omega)⟩
    rcases List.mem_append.mp hk with hk | hk
    · exact hns k hk
    · rw [List.mem_singleton.mp hk]; exact ⟨hn0, hn1⟩
  · rintro σ G ⟨b7, b8, b9, ns, rfl, hf, hlen, hns, S⟩
    simp only [rd_seq, rd_next, rd_drop, rd_ret, rd_retN, rd_ifS, rd_asg, rd_gName, rd_gNil, rd_gCons, rd_gTup, rd_gSub, rd_aug, rd_var, rd_C, rd_op, rd_un, rd_nil, rd_cons, rd_tup, rd_lst, rd_call, rd_cb, rd_test, rd_B, rd_and, rd_or, rd_not, rd_andV, rd_orV, rd_notV, rd_ifE, rd_bm0, rd_bm, rd_rv, rd_sl, rd_nopart, rd_part, rd_rI, rd_rI0, rd_rU, rd_ipI, rd_eqI, rd_neI, rd_eqB, rd_neB, rd_eqS, rd_neS, rd_ixU, rd_setU, rd_truL, rd_for1, rd_for2, rd_forL, rd_forT, rd_lc1, rd_lcL, rd_lcT, rd_yes, rd_wipe0, rd_wipe1, rd_rng1, rd_ref1, rd_cxK, rd_cons1, rd_one, at0, at1, at2, at3, at4, ix5_1, ix5_2, ix5_3, upd_upd, rd_bool, rd_some, rd_isv_int_int, rd_isv_int_bool, rd_isv_int_str, rd_isv_int_tuple, rd_isv_int_list, rd_isv_bl_int, rd_isv_bl_bool, rd_isv_bl_str, rd_isv_bl_tuple, rd_isv_bl_list, rd_isv_str_int, rd_isv_str_bool, rd_isv_str_str, rd_isv_str_tuple, rd_isv_str_list, rd_ml0, rd_ml, ln0, ln1, ln2, ln3, ln4, ln5, ln6, ln7, ln8, ln9, ln10, List.getElem?_cons_zero, List.getElem?_cons_succ, List.set_cons_zero, List.set_cons_succ, List.length_cons, List.length_nil, List.cons_append, List.nil_append, List.append_nil, Nat.reduceAdd, true_and, decide_true, decide_false, if_true, Bool.false_eq_true, if_false, Bool.not_true, Bool.not_false, rd_forE, rd_m1, rd_isS, rd_anyS, rd_joinI, rd_sumZ, rd_never, rd_lcZ, rd_min1, rd_sum1, rd_all1, rd_any1, rd_tup1, rd_gnR, rd_gnT, rd_gnL, rd_gLoc, rd_gCap, rd_gC, rd_gI, rd_int2b, rd_int1, rd_dget, rd_dput, rd_dnewT, rd_dnewK, rd_truT, rd_forR, rd_for3, rd_lc2, rd_rng2, rd_forET, rd_par, rd_forES, rd_xfld, rd_raiseI, rd_isS, rd_forS, rd_lcS, rd_rep, rd_mkI, rd_mkX, rd_strX]
    have fin : ∀ (G : Hp) (ns : List Int), G fl = some (.lst (ns.map V.int)) → ns.length = m.toNat → (∀ n ∈ ns, 0 ≤ n ∧ n < 10 ^ 12) → Sd D H G (c + 7 + 2 * m.toNat) →
        rRvLH (.ref fl) G fun x H1 => ∀ (p : Addr), H1 p = none → spNext [V.ref D, V.int 2] (upd H1 p (HO.lst [V.ref fl, x])) (fun y H2 => rIxH (V.ref p) y H2 fun x H1 => rTupL [x] H1 Q) E0 := by
      intro G ns hf hlen hns S
      rw [rd_rvLH hf, ← List.map_reverse]
      intro b1 hb1 p hp
      have s1 := same_new hb1 (.lst (ns.reverse.map V.int))
      have s2 := same_new hp (.lst [V.ref fl, V.ref b1])
      have S2 := (S.same s1).same s2
      refine ⟨D, 2, _, rfl, S2.d, by omega, by decide, by decide, fun r G1 x1 y1 k1 d1 => ?_⟩
      have S3 := S2.next k1 d1
      have fp := (S.same s1).free hp
      have fb := S.free hb1
      have hp1 := k1.keep p _ upd_same (hD.nd fp)
      have hf1 := k1.keep fl _ (s2 _ _ (s1 _ _ hf)) (hD.nd ff)
      have hb1' := k1.keep b1 _ (s2 _ _ upd_same) (hD.nd fb)
      dsimp only
      rw [rd_ixH hp1]
      obtain ⟨v, hv, hvm⟩ := atI_in (xs := [V.ref fl, V.ref b1]) x1 (by simpa using y1)
      refine ⟨v, hv, ?_⟩
      simp only [List.mem_cons, List.not_mem_nil, or_false] at hvm
      rcases hvm with rfl | rfl
      · rw [rd_tupL hf1]
        intro tl htl
        have s4 := same_new htl (.tup (ns.map V.int))
        have S4 := S3.same s4
        exact q tl ns _ upd_same (S3.free htl) (by omega) (by omega) hns S4.k (S4.d.mono (by omega))
      · rw [rd_tupL hb1']
        intro tl htl
        have s4 := same_new htl (.tup (ns.reverse.map V.int))
        have S4 := S3.same s4
        exact q tl ns.reverse _ upd_same (S3.free htl) (by rw [List.length_reverse]; omega) (by rw [List.length_reverse]; omega) (fun n hn => hns n (List.mem_reverse.mp hn)) S4.k (S4.d.mono (by omega))
    refine ite2 (fun cw => ?_) fun cw => fin G ns hf hlen hns S
    rw [rd_setH hf]
    refine ⟨_, ixN_ok x7 (by rw [List.length_map]; omega), ?_⟩
    have e : (ns.map V.int).set gr.toNat (.int bs) = (ns.set gr.toNat bs).map V.int := by rw [List.map_set]
    rw [e]
    refine fin _ _ upd_same (by rw [List.length_set]; exact hlen) (fun n hn => ?_) (S.own hD ff _)
    rcases List.mem_or_eq_of_mem_set hn with hn | hn
    · exact hns n hn
    · rw [hn]; exact ⟨hb0, by omega⟩
end Q
set_option Elab.async false
set_option linter.all false
set_option maxRecDepth 100000
set_option maxHeartbeats 4000000
namespace Q
open PySem L2 L3 L4 Dm Tx Bn TL
def clsB : Stmt → List Stmt
  | .ClassDef _ _ _ b _ _ _ _ _ _ _ => b
  | _ => []
abbrev sInitW : Stmt := (clsB (top 6)).getD 0 (.Pass ⟨0, 0, 0, 0⟩)
theorem scInitW : FnScope ["self", "place"] ["self", "place"] (defScope sInitW) := ⟨rfl, rfl, rfl, by decide +kernel, rfl, by decide +kernel, by decide +kernel⟩
def okP (y : V) : Prop := ∃ i : Nat, y = .int i ∧ i ≤ 100000
section
variable {P : Program} {w : World} {K : PySem.W.Frag} {mg : Str → Option Value} {base : Heap} {f NW JE : Addr} {fd : FuncData}
theorem ok_initW (F : Fun K "__init__" "NoWord.__init__" sInitW f fd) (O : OwnI "NoWord" NW f veMro "ValueError.__new__" mg base) (F0 : IFacts K NW JE "place") (gJ : mg "JoinError" = some (.ref JE)) : FnOk P w K mg base CX0 1 f fd ["self", "place"] (spInit NW "place" okP) := by
  refine F.ok scInitW (fun vs H Q E h => ?_) (fun cdv A outer s H vs Q E hr h => ?_)
  · obtain ⟨a, y, rfl, _⟩ := h
    rfl
  obtain ⟨a, y, rfl, ⟨i, rfl, hi⟩, ea, q⟩ := h
  refine ⟨_, (pss_cons (ps_expr (pe_sup O F0 (by rfl) gJ (pa_cons (pv 0) (pa_cons (pe_f2 pe_str (pv 1)) pa_nil)))) (pss_one (ps_xnew F0 (pv 0) (pv 1)))), ?_⟩
  rw [show start ["self", "place"] [V.ref a, V.int i] = [some (V.ref a), some (V.int i)] from rfl]
  simp only [rd_seq, rd_next, rd_drop, rd_ret, rd_retN, rd_ifS, rd_asg, rd_gName, rd_gNil, rd_gCons, rd_gTup, rd_gSub, rd_aug, rd_var, rd_C, rd_op, rd_un, rd_nil, rd_cons, rd_tup, rd_lst, rd_call, rd_cb, rd_test, rd_B, rd_and, rd_or, rd_not, rd_andV, rd_orV, rd_notV, rd_ifE, rd_bm0, rd_bm, rd_rv, rd_sl, rd_nopart, rd_part, rd_rI, rd_rI0, rd_rU, rd_ipI, rd_eqI, rd_neI, rd_eqB, rd_neB, rd_eqS, rd_neS, rd_ixU, rd_setU, rd_truL, rd_for1, rd_for2, rd_forL, rd_forT, rd_lc1, rd_lcL, rd_lcT, rd_yes, rd_wipe0, rd_wipe1, rd_rng1, rd_ref1, rd_cxK, rd_cons1, rd_one, at0, at1, at2, at3, at4, ix5_1, ix5_2, ix5_3, upd_upd, rd_bool, rd_some, rd_isv_int_int, rd_isv_int_bool, rd_isv_int_str, rd_isv_int_tuple, rd_isv_int_list, rd_isv_bl_int, rd_isv_bl_bool, rd_isv_bl_str, rd_isv_bl_tuple, rd_isv_bl_list, rd_isv_str_int, rd_isv_str_bool, rd_isv_str_str, rd_isv_str_tuple, rd_isv_str_list, rd_ml0, rd_ml, ln0, ln1, ln2, ln3, ln4, ln5, ln6, ln7, ln8, ln9, ln10, List.getElem?_cons_zero, List.getElem?_cons_succ, List.set_cons_zero, List.set_cons_succ, List.length_cons, List.length_nil, List.cons_append, List.nil_append, List.append_nil, Nat.reduceAdd, true_and, decide_true, decide_false, if_true, Bool.false_eq_true, if_false, Bool.not_true, Bool.not_false, rd_forE, rd_m1, rd_isS, rd_anyS, rd_joinI, rd_sumZ, rd_never, rd_lcZ, rd_min1, rd_sum1, rd_all1, rd_any1, rd_tup1, rd_gnR, rd_gnT, rd_gnL, rd_gLoc, rd_gCap, rd_gC, rd_gI, rd_int2b, rd_int1, rd_dget, rd_dput, rd_dnewT, rd_dnewK, rd_truT, rd_forR, rd_for3, rd_lc2, rd_rng2, rd_forET, rd_par, rd_forES, rd_xfld, rd_raiseI, rd_isS, rd_forS, rd_lcS, rd_rep, rd_mkI, rd_mkX, rd_strX, rd_sup, rd_xnew, rd_f2]
  refine ⟨_, rfl, by decide, ?_, ?_, a, none, _, rfl, ea, ea, q⟩
  · rw [Int.natAbs_natCast]
    by_cases hz : i = 0
    · subst hz; decide
    · exact (Nat.log2_lt hz).mpr (Nat.lt_of_le_of_lt hi (Nat.lt_of_lt_of_le (show 100000 < 2 ^ 17 by decide) (Nat.pow_le_pow_right (by decide) (by decide))))
  · have := Tx.len_sh (n := (i : Int)) (by omega) (by omega)
    exact Nat.le_trans this (by decide)
end
abbrev sInitH : Stmt := (clsB (top 5)).getD 0 (.Pass ⟨0, 0, 0, 0⟩)
theorem scInitH : FnScope ["self", "place"] ["self", "place"] (defScope sInitH) := ⟨rfl, rfl, rfl, by decide +kernel, rfl, by decide +kernel, by decide +kernel⟩
section
variable {P : Program} {w : World} {K : PySem.W.Frag} {mg : Str → Option Value} {base : Heap} {f NH JE : Addr} {fd : FuncData}
theorem ok_initH (F : Fun K "__init__" "NoHeaps.__init__" sInitH f fd) (O : OwnI "NoHeaps" NH f veMro "ValueError.__new__" mg base) (F0 : IFacts K NH JE "place") (gJ : mg "JoinError" = some (.ref JE)) : FnOk P w K mg base CX0 1 f fd ["self", "place"] (spInit NH "place" okP) := by
  refine F.ok scInitH (fun vs H Q E h => ?_) (fun cdv A outer s H vs Q E hr h => ?_)
  · obtain ⟨a, y, rfl, _⟩ := h
    rfl
  obtain ⟨a, y, rfl, ⟨i, rfl, hi⟩, ea, q⟩ := h
  refine ⟨_, (pss_cons (ps_expr (pe_sup O F0 (by rfl) gJ (pa_cons (pv 0) (pa_cons (pe_f2 pe_str (pv 1)) pa_nil)))) (pss_one (ps_xnew F0 (pv 0) (pv 1)))), ?_⟩
  rw [show start ["self", "place"] [V.ref a, V.int i] = [some (V.ref a), some (V.int i)] from rfl]
  simp only [rd_seq, rd_next, rd_drop, rd_ret, rd_retN, rd_ifS, rd_asg, rd_gName, rd_gNil, rd_gCons, rd_gTup, rd_gSub, rd_aug, rd_var, rd_C, rd_op, rd_un, rd_nil, rd_cons, rd_tup, rd_lst, rd_call, rd_cb, rd_test, rd_B, rd_and, rd_or, rd_not, rd_andV, rd_orV, rd_notV, rd_ifE, rd_bm0, rd_bm, rd_rv, rd_sl, rd_nopart, rd_part, rd_rI, rd_rI0, rd_rU, rd_ipI, rd_eqI, rd_neI, rd_eqB, rd_neB, rd_eqS, rd_neS, rd_ixU, rd_setU, rd_truL, rd_for1, rd_for2, rd_forL, rd_forT, rd_lc1, rd_lcL, rd_lcT, rd_yes, rd_wipe0, rd_wipe1, rd_rng1, rd_ref1, rd_cxK, rd_cons1, rd_one, at0, at1, at2, at3, at4, ix5_1, ix5_2, ix5_3, upd_upd, rd_bool, rd_some, rd_isv_int_int, rd_isv_int_bool, rd_isv_int_str, rd_isv_int_tuple, rd_isv_int_list, rd_isv_bl_int, rd_isv_bl_bool, rd_isv_bl_str, rd_isv_bl_tuple, rd_isv_bl_list, rd_isv_str_int, rd_isv_str_bool, rd_isv_str_str, rd_isv_str_tuple, rd_isv_str_list, rd_ml0, rd_ml, ln0, ln1, ln2, ln3, ln4, ln5, ln6, ln7, ln8, ln9, ln10, List.getElem?_cons_zero, List.getElem?_cons_succ, List.set_cons_zero, List.set_cons_succ, List.length_cons, List.length_nil, List.cons_append, List.nil_append, List.append_nil, Nat.reduceAdd, true_and, decide_true, decide_false, if_true, Bool.false_eq_true, if_false, Bool.not_true, Bool.not_false, rd_forE, rd_m1, rd_isS, rd_anyS, rd_joinI, rd_sumZ, rd_never, rd_lcZ, rd_min1, rd_sum1, rd_all1, rd_any1, rd_tup1, rd_gnR, rd_gnT, rd_gnL, rd_gLoc, rd_gCap, rd_gC, rd_gI, rd_int2b, rd_int1, rd_dget, rd_dput, rd_dnewT, rd_dnewK, rd_truT, rd_forR, rd_for3, rd_lc2, rd_rng2, rd_forET, rd_par, rd_forES, rd_xfld, rd_raiseI, rd_isS, rd_forS, rd_lcS, rd_rep, rd_mkI, rd_mkX, rd_strX, rd_sup, rd_xnew, rd_f2]
  refine ⟨_, rfl, by decide, ?_, ?_, a, none, _, rfl, ea, ea, q⟩
  · rw [Int.natAbs_natCast]
    by_cases hz : i = 0
    · subst hz; decide
    · exact (Nat.log2_lt hz).mpr (Nat.lt_of_le_of_lt hi (Nat.lt_of_lt_of_le (show 100000 < 2 ^ 17 by decide) (Nat.pow_le_pow_right (by decide) (by decide))))
  · have := Tx.len_sh (n := (i : Int)) (by omega) (by omega)
    exact Nat.le_trans this (by decide)
end
abbrev swrites_number : Stmt := top 9
theorem scwrites_number : FnScope ["word"] ["word"] (defScope swrites_number) := ⟨rfl, rfl, rfl, by decide +kernel, rfl, by decide +kernel, by decide +kernel⟩
abbrev sread_heaps : Stmt := top 10
theorem scread_heaps : FnScope ["text", "weights", "place", "word"] ["text"] (defScope sread_heaps) := ⟨rfl, rfl, rfl, by decide +kernel, rfl, by decide +kernel, by decide +kernel⟩
def spWN (P1 : Addr) : Sp := fun vs H Q _ => ∃ z : Str, vs = [.str z] ∧ Tb P1 H ∧ ∀ H', Fg H H' → Q (.bl (wn z)) H'
section
variable {P : Program} {w : World} {K : PySem.W.Frag} {mg : Str → Option Value} {base : Heap} {f c P1 bmA : Addr} {fd : FuncData} {ob : Obj}
theorem ok_wn {tk : Tok} (F : Fun K "writes_number" "writes_number" swrites_number f fd) (hcode : fd.code = .ref c) (T : Bt mg) (hFIG : mg "FIGURES" = some (.str figs tk)) (hd1 : PySem.W.CodeHd base c P1) (bm : PyProof.Rows.BMod base mainGlobals mg bmA ob) : FnOk P w K mg base CX0 1 f fd ["word"] (spWN P1) := by
  refine fun_okC F hcode scwrites_number (fun vs H Q E h => ?_) (fun A outer s H vs Q E hr h => ?_)
  · obtain ⟨z, rfl, _⟩ := h
    rfl
  obtain ⟨z, rfl, hT0, q⟩ := h
  refine ⟨_, (pss_cons (ps_if (PW.pt (pw_or (pt_cmpR op_eq (pv 0) pe_str (nomark _)) (pw_or1 (pt_val (pe_anyS (P := P1) (pv 0) (by rfl) T.any_ rfl rfl rfl (by decide) rfl rfl rfl hr.depth rfl hd1 bm (fun _ => rfl) (fun _ _ _ _ _ I ht z => el_notin rfl rfl rfl hFIG (by decide) (by decide) I ht z)))))) (pss_one (ps_ret pe_bl)) pss_nil)
    (pss_one (ps_ret (pe_or (pe_cmpR op_eq (pv 0) pe_str (nomark _)) (pe_one (pe_not (pe_m1 PySem.F.slot_str_startswith PySem.F.type_str_startswith mt_startswith (pv 0) pe_str))))))), ?_⟩
  rw [show start ["word"] [V.str z] = [some (V.str z)] from rfl]
  simp only [rd_seq, rd_next, rd_drop, rd_ret, rd_retN, rd_ifS, rd_asg, rd_gName, rd_gNil, rd_gCons, rd_gTup, rd_gSub, rd_aug, rd_var, rd_C, rd_op, rd_un, rd_nil, rd_cons, rd_tup, rd_lst, rd_call, rd_cb, rd_test, rd_B, rd_and, rd_or, rd_not, rd_andV, rd_orV, rd_notV, rd_ifE, rd_bm0, rd_bm, rd_rv, rd_sl, rd_nopart, rd_part, rd_rI, rd_rI0, rd_rU, rd_ipI, rd_eqI, rd_neI, rd_eqB, rd_neB, rd_eqS, rd_neS, rd_ixU, rd_setU, rd_truL, rd_for1, rd_for2, rd_forL, rd_forT, rd_lc1, rd_lcL, rd_lcT, rd_yes, rd_wipe0, rd_wipe1, rd_rng1, rd_ref1, rd_cxK, rd_cons1, rd_one, at0, at1, at2, at3, at4, ix5_1, ix5_2, ix5_3, upd_upd, rd_bool, rd_some, rd_isv_int_int, rd_isv_int_bool, rd_isv_int_str, rd_isv_int_tuple, rd_isv_int_list, rd_isv_bl_int, rd_isv_bl_bool, rd_isv_bl_str, rd_isv_bl_tuple, rd_isv_bl_list, rd_isv_str_int, rd_isv_str_bool, rd_isv_str_str, rd_isv_str_tuple, rd_isv_str_list, rd_ml0, rd_ml, ln0, ln1, ln2, ln3, ln4, ln5, ln6, ln7, ln8, ln9, ln10, List.getElem?_cons_zero, List.getElem?_cons_succ, List.set_cons_zero, List.set_cons_succ, List.length_cons, List.length_nil, List.cons_append, List.nil_append, List.append_nil, Nat.reduceAdd, true_and, decide_true, decide_false, if_true, Bool.false_eq_true, if_false, Bool.not_true, Bool.not_false, rd_forE, rd_m1, rd_isS, rd_anyS, rd_joinI, rd_sumZ, rd_never, rd_lcZ, rd_min1, rd_sum1, rd_all1, rd_any1, rd_tup1, rd_gnR, rd_gnT, rd_gnL, rd_gLoc, rd_gCap, rd_gC, rd_gI, rd_int2b, rd_int1, rd_dget, rd_dput, rd_dnewT, rd_dnewK, rd_truT, rd_forR, rd_for3, rd_lc2, rd_rng2, rd_forET, rd_par, rd_forES, rd_xfld, rd_raiseI, rd_isS, rd_forS, rd_lcS, rd_rep, rd_mkI, rd_mkX, rd_strX]
  obtain ⟨ps, hP, tr⟩ := id hT0
  refine ite2 (fun c0 => ?_) fun c0 => ⟨z, ps, rfl, hP, tr, fun ps' tr' => ?_⟩
  · have e : wn z = false := by unfold wn; rw [c0]; rfl
    rw [← e]; exact q _ (Fg.refl _)
  · have c0' : decide (z = "") = false := Bool.eq_false_iff.mpr c0
    refine ite2 (fun c1 => ?_) fun c1 => ?_
    · have c1' : (z.cps.toList.any fun c => !decide (c ∈ tl figs)) = true := c1
      have e : wn z = false := by unfold wn; rw [c0', c1']; rfl
      rw [← e]; exact q _ (Fg.tbl tr' hT0)
    · have c1' : (z.cps.toList.any fun c => !decide (c ∈ tl figs)) = false := Bool.eq_false_iff.mpr c1
      refine ite2 (fun c2 => ?_) fun c2 => ⟨z, "0", rfl, rfl, ?_⟩
      · have e : wn z = true := by unfold wn; rw [c0', c1', c2]; rfl
        rw [← e]; exact q _ (Fg.tbl tr' hT0)
      · have c2' : decide (z = "0") = false := Bool.eq_false_iff.mpr c2
        have e : wn z = !Txt.startswith z "0" := by unfold wn; rw [c0', c1', c2']; rfl
        rw [← e]; exact q _ (Fg.tbl tr' hT0)
end
def wds (x : Str) : List Str := if x = "" then [] else Txt.split x bl
def vls (ws : List Str) : List Int := ws.map fun z => ((vl (tl z) : Nat) : Int)
def spRead (NH P1 : Addr) : Sp := fun vs H Q E => ∃ x : Str, vs = [.str x] ∧ Tb P1 H ∧ x.length ≤ 20000 ∧ (Txt.split x bl).length ≤ 24 ∧ (∀ z ∈ Txt.split x bl, wn z = true → z.length ≤ 12) ∧
  ((∀ z ∈ wds x, wn z = true) → ∀ (l : Addr) H', Fg H H' → H' l = some (.tup ((vls (wds x)).map V.int)) → Q (.ref l) H') ∧
  (∀ (i : Nat) (z : Str), (wds x)[i]? = some z → wn z = false → (∀ j y, j < i → (wds x)[j]? = some y → wn y = true) → ∀ H' dx, Fg H H' → H' dx = none → E (.ref NH) (some dx) (upd H' dx (.xd [("place", .int i)])))
section
variable {P : Program} {w : World} {K : PySem.W.Frag} {mg : Str → Option Value} {base : Heap} {f P1 NH fI : Addr} {fd fdI : FuncData}
theorem ok_read (F : Fun K "read_heaps" "read_heaps" sread_heaps f fd) (T : Bt mg) (O : OwnI "NoHeaps" NH fI veMro "ValueError.__new__" mg base) (hfn : PySem.W.isFn K (.ref fI) = true) (hkp : PySem.W.keepIn K (.ref NH) = true) (FI : FnOk P w K mg base CX0 1 fI fdI ["self", "place"] (spInit NH "place" okP)) (hbI : Binds K fdI ["self", "place"] []) (Dwrites_number : Def P w K mg base 1 "writes_number" ["word"] (spWN P1)) : FnOk P w K mg base (CX1 P w) 3 f fd ["text"] (spRead NH P1) := by
  refine fun_okX F scread_heaps (fun vs H Q E h => ?_) (fun cdv A outer s H vs Q E hr h => ?_)
  · obtain ⟨x, rfl, _⟩ := h
    rfl
  obtain ⟨x, rfl, hT, hx, h24, h12, q, qe⟩ := h
  have M : MkI (cxOf (CX1 P w) P w K mg base ["text", "weights", "place", "word"] "read_heaps" (defScope sread_heaps) f cdv A outer s H E) "NoHeaps" NH fI "place" 1 okP := ⟨O, hfn, hkp, fdI, FI, hbI⟩
  refine ⟨_, (pss_cons (ps_if (pt_cmpR op_eq (pv 0) pe_str (nomark _)) (pss_one (ps_ret (pe_tup pa_nil))) pss_nil)
    (pss_cons (ps_set (i := 1) scread_heaps.nd rfl (by first | exact Or.inl rfl | exact Or.inr rfl) (pe_lst pa_nil))
    (pss_cons (ps_for PassesOwn.leaving rfl (pi_enum (by rfl) T.enumerate (pa_cons (pe_split (pv 0) pe_str) pa_nil)) (pg_tupH (n := 2) rfl (pgs_cons (pg_name (i := 2) scread_heaps.nd rfl (by first | exact Or.inl rfl | exact Or.inr rfl)) (pgs_cons (pg_name (i := 3) scread_heaps.nd rfl (by first | exact Or.inl rfl | exact Or.inr rfl)) pgs_nil))) (pss_cons (ps_if (pt_not (pt_val (pe_callD Dwrites_number (hr.mono (by omega)) (by rfl) (pa_cons (pv 3) pa_nil)))) (pss_one (ps_raiseI rfl M (hr.mono (by omega)) (by rfl) (pv 2))) pss_nil)
    (pss_one (ps_expr (pe_ml PySem.F.slot_list_append PySem.F.type_list_append mt_append (pv 1) (pa_cons (pe_callTy call_int_str (by rfl) T.int_ (by decide +kernel) (pa_cons (pv 3) pa_nil)) pa_nil))))))
    (pss_one (ps_ret (pe_callTy call_tupL (by rfl) T.tuple_ (by decide +kernel) (pa_cons (pv 1) pa_nil))))))), ?_⟩
  rw [show start ["text", "weights", "place", "word"] [V.str x] = [some (V.str x), none, none, none] from rfl]
  simp only [rd_seq, rd_next, rd_drop, rd_ret, rd_retN, rd_ifS, rd_asg, rd_gName, rd_gNil, rd_gCons, rd_gTup, rd_gSub, rd_aug, rd_var, rd_C, rd_op, rd_un, rd_nil, rd_cons, rd_tup, rd_lst, rd_call, rd_cb, rd_test, rd_B, rd_and, rd_or, rd_not, rd_andV, rd_orV, rd_notV, rd_ifE, rd_bm0, rd_bm, rd_rv, rd_sl, rd_nopart, rd_part, rd_rI, rd_rI0, rd_rU, rd_ipI, rd_eqI, rd_neI, rd_eqB, rd_neB, rd_eqS, rd_neS, rd_ixU, rd_setU, rd_truL, rd_for1, rd_for2, rd_forL, rd_forT, rd_lc1, rd_lcL, rd_lcT, rd_yes, rd_wipe0, rd_wipe1, rd_rng1, rd_ref1, rd_cxK, rd_cons1, rd_one, at0, at1, at2, at3, at4, ix5_1, ix5_2, ix5_3, upd_upd, rd_bool, rd_some, rd_isv_int_int, rd_isv_int_bool, rd_isv_int_str, rd_isv_int_tuple, rd_isv_int_list, rd_isv_bl_int, rd_isv_bl_bool, rd_isv_bl_str, rd_isv_bl_tuple, rd_isv_bl_list, rd_isv_str_int, rd_isv_str_bool, rd_isv_str_str, rd_isv_str_tuple, rd_isv_str_list, rd_ml0, rd_ml, ln0, ln1, ln2, ln3, ln4, ln5, ln6, ln7, ln8, ln9, ln10, List.getElem?_cons_zero, List.getElem?_cons_succ, List.set_cons_zero, List.set_cons_succ, List.length_cons, List.length_nil, List.cons_append, List.nil_append, List.append_nil, Nat.reduceAdd, true_and, decide_true, decide_false, if_true, Bool.false_eq_true, if_false, Bool.not_true, Bool.not_false, rd_forE, rd_m1, rd_isS, rd_anyS, rd_joinI, rd_sumZ, rd_never, rd_lcZ, rd_min1, rd_sum1, rd_all1, rd_any1, rd_tup1, rd_gnR, rd_gnT, rd_gnL, rd_gLoc, rd_gCap, rd_gC, rd_gI, rd_int2b, rd_int1, rd_dget, rd_dput, rd_dnewT, rd_dnewK, rd_truT, rd_forR, rd_for3, rd_lc2, rd_rng2, rd_forET, rd_par, rd_forES, rd_xfld, rd_raiseI, rd_isS, rd_forS, rd_lcS, rd_rep, rd_mkI, rd_mkX, rd_strX]
  by_cases hne : x = ""
  · rw [if_pos (decide_eq_true hne)]
    have e : wds x = [] := by unfold wds; rw [if_pos hne]
    rw [e] at q
    exact fun p hp => q (fun z hz => absurd hz (by simp)) p _ (Fg.of (same_new hp _)) upd_same
  rw [if_neg (by rw [decide_eq_false hne]; decide)]
  have ew : wds x = Txt.split x bl := by unfold wds; rw [if_neg hne]
  rw [ew] at q qe
  generalize hws : Txt.split x bl = ws at *
  intro p hp
  refine ⟨_, _, rfl, rfl, by decide +kernel, ?_, ?_⟩
  · have : (20002 : Nat) ≤ sizeLine := by decide
    omega
  rw [show Txt.split x (Str.ofString " ") = ws from hws]
  intro l hl
  have sp := same_new hp (.lst [])
  have sl := same_new hl (.lst (ws.map V.str))
  have hll : H l = none := sp.free hl
  have hpl : l ≠ p := fun e => by rw [e, upd_same] at hl; cases hl
  refine ⟨l, _, rfl, SqL.of upd_same, ?_⟩
  refine forW_enum (xs := ws.map V.str) (fun i σ G => ∃ b2 b3, σ = [some (.str x), some (.ref p), b2, b3] ∧ G p = some (.lst ((vls (ws.take i)).map V.int)) ∧ G l = some (.lst (ws.map V.str)) ∧ Fg H G ∧ ∀ j y, j < i → ws[j]? = some y → wn y = true) ⟨_, _, rfl, ?_, upd_same, Fg.of (sp.trans sl), fun j y h => absurd h (Nat.not_lt_zero _)⟩ (fun i σ G _ h => ?_) ?_ ?_
  · exact sl _ _ upd_same
  · obtain ⟨_, _, _, _, h, _⟩ := h
    exact h
  · rintro i v σ G T0 hv ⟨b2, b3, rfl, gp, gl, ft, hok⟩ hT0
    rw [List.getElem?_map] at hv
    obtain ⟨z, hz, rfl⟩ := Option.map_eq_some_iff.mp hv
    have hlt : i < ws.length := (List.getElem?_eq_some_iff.mp hz).1
    have sT := same_new hT0 (.tup [.int (i : Nat), .str z])
    have f1 := ft.trans (Fg.of sT)
    simp only [rd_gTupH upd_same, rd_seq, rd_next, rd_drop, rd_ret, rd_retN, rd_ifS, rd_asg, rd_gName, rd_gNil, rd_gCons, rd_gTup, rd_gSub, rd_aug, rd_var, rd_C, rd_op, rd_un, rd_nil, rd_cons, rd_tup, rd_lst, rd_call, rd_cb, rd_test, rd_B, rd_and, rd_or, rd_not, rd_andV, rd_orV, rd_notV, rd_ifE, rd_bm0, rd_bm, rd_rv, rd_sl, rd_nopart, rd_part, rd_rI, rd_rI0, rd_rU, rd_ipI, rd_eqI, rd_neI, rd_eqB, rd_neB, rd_eqS, rd_neS, rd_ixU, rd_setU, rd_truL, rd_for1, rd_for2, rd_forL, rd_forT, rd_lc1, rd_lcL, rd_lcT, rd_yes, rd_wipe0, rd_wipe1, rd_rng1, rd_ref1, rd_cxK, rd_cons1, rd_one, at0, at1, at2, at3, at4, ix5_1, ix5_2, ix5_3, upd_upd, rd_bool, rd_some, rd_isv_int_int, rd_isv_int_bool, rd_isv_int_str, rd_isv_int_tuple, rd_isv_int_list, rd_isv_bl_int, rd_isv_bl_bool, rd_isv_bl_str, rd_isv_bl_tuple, rd_isv_bl_list, rd_isv_str_int, rd_isv_str_bool, rd_isv_str_str, rd_isv_str_tuple, rd_isv_str_list, rd_ml0, rd_ml, ln0, ln1, ln2, ln3, ln4, ln5, ln6, ln7, ln8, ln9, ln10, List.getElem?_cons_zero, List.getElem?_cons_succ, List.set_cons_zero, List.set_cons_succ, List.length_cons, List.length_nil, List.cons_append, List.nil_append, List.append_nil, Nat.reduceAdd, true_and, decide_true, decide_false, if_true, Bool.false_eq_true, if_false, Bool.not_true, Bool.not_false, rd_forE, rd_m1, rd_isS, rd_anyS, rd_joinI, rd_sumZ, rd_never, rd_lcZ, rd_min1, rd_sum1, rd_all1, rd_any1, rd_tup1, rd_gnR, rd_gnT, rd_gnL, rd_gLoc, rd_gCap, rd_gC, rd_gI, rd_int2b, rd_int1, rd_dget, rd_dput, rd_dnewT, rd_dnewK, rd_truT, rd_forR, rd_for3, rd_lc2, rd_rng2, rd_forET, rd_par, rd_forES, rd_xfld, rd_raiseI, rd_isS, rd_forS, rd_lcS, rd_rep, rd_mkI, rd_mkX, rd_strX]
    refine ⟨z, rfl, f1.tb _ hT, fun G2 f2 => ?_⟩
    have gp2 := f2.lst (sT _ _ gp)
    have gl2 := f2.lst (sT _ _ gl)
    refine ⟨_, rfl, ?_⟩
    cases hw : wn z with
    | false =>
      simp only [rd_seq, rd_next, rd_drop, rd_ret, rd_retN, rd_ifS, rd_asg, rd_gName, rd_gNil, rd_gCons, rd_gTup, rd_gSub, rd_aug, rd_var, rd_C, rd_op, rd_un, rd_nil, rd_cons, rd_tup, rd_lst, rd_call, rd_cb, rd_test, rd_B, rd_and, rd_or, rd_not, rd_andV, rd_orV, rd_notV, rd_ifE, rd_bm0, rd_bm, rd_rv, rd_sl, rd_nopart, rd_part, rd_rI, rd_rI0, rd_rU, rd_ipI, rd_eqI, rd_neI, rd_eqB, rd_neB, rd_eqS, rd_neS, rd_ixU, rd_setU, rd_truL, rd_for1, rd_for2, rd_forL, rd_forT, rd_lc1, rd_lcL, rd_lcT, rd_yes, rd_wipe0, rd_wipe1, rd_rng1, rd_ref1, rd_cxK, rd_cons1, rd_one, at0, at1, at2, at3, at4, ix5_1, ix5_2, ix5_3, upd_upd, rd_bool, rd_some, rd_isv_int_int, rd_isv_int_bool, rd_isv_int_str, rd_isv_int_tuple, rd_isv_int_list, rd_isv_bl_int, rd_isv_bl_bool, rd_isv_bl_str, rd_isv_bl_tuple, rd_isv_bl_list, rd_isv_str_int, rd_isv_str_bool, rd_isv_str_str, rd_isv_str_tuple, rd_isv_str_list, rd_ml0, rd_ml, ln0, ln1, ln2, ln3, ln4, ln5, ln6, ln7, ln8, ln9, ln10, List.getElem?_cons_zero, List.getElem?_cons_succ, List.set_cons_zero, List.set_cons_succ, List.length_cons, List.length_nil, List.cons_append, List.nil_append, List.append_nil, Nat.reduceAdd, true_and, decide_true, decide_false, if_true, Bool.false_eq_true, if_false, Bool.not_true, Bool.not_false, rd_forE, rd_m1, rd_isS, rd_anyS, rd_joinI, rd_sumZ, rd_never, rd_lcZ, rd_min1, rd_sum1, rd_all1, rd_any1, rd_tup1, rd_gnR, rd_gnT, rd_gnL, rd_gLoc, rd_gCap, rd_gC, rd_gI, rd_int2b, rd_int1, rd_dget, rd_dput, rd_dnewT, rd_dnewK, rd_truT, rd_forR, rd_for3, rd_lc2, rd_rng2, rd_forET, rd_par, rd_forES, rd_xfld, rd_raiseI, rd_isS, rd_forS, rd_lcS, rd_rep, rd_mkI, rd_mkX, rd_strX]
      exact ⟨⟨i, rfl, by omega⟩, fun dx hdx => qe i z hz hw hok G2 dx (f1.trans f2) hdx⟩
    | true =>
      simp only [rd_seq, rd_next, rd_drop, rd_ret, rd_retN, rd_ifS, rd_asg, rd_gName, rd_gNil, rd_gCons, rd_gTup, rd_gSub, rd_aug, rd_var, rd_C, rd_op, rd_un, rd_nil, rd_cons, rd_tup, rd_lst, rd_call, rd_cb, rd_test, rd_B, rd_and, rd_or, rd_not, rd_andV, rd_orV, rd_notV, rd_ifE, rd_bm0, rd_bm, rd_rv, rd_sl, rd_nopart, rd_part, rd_rI, rd_rI0, rd_rU, rd_ipI, rd_eqI, rd_neI, rd_eqB, rd_neB, rd_eqS, rd_neS, rd_ixU, rd_setU, rd_truL, rd_for1, rd_for2, rd_forL, rd_forT, rd_lc1, rd_lcL, rd_lcT, rd_yes, rd_wipe0, rd_wipe1, rd_rng1, rd_ref1, rd_cxK, rd_cons1, rd_one, at0, at1, at2, at3, at4, ix5_1, ix5_2, ix5_3, upd_upd, rd_bool, rd_some, rd_isv_int_int, rd_isv_int_bool, rd_isv_int_str, rd_isv_int_tuple, rd_isv_int_list, rd_isv_bl_int, rd_isv_bl_bool, rd_isv_bl_str, rd_isv_bl_tuple, rd_isv_bl_list, rd_isv_str_int, rd_isv_str_bool, rd_isv_str_str, rd_isv_str_tuple, rd_isv_str_list, rd_ml0, rd_ml, ln0, ln1, ln2, ln3, ln4, ln5, ln6, ln7, ln8, ln9, ln10, List.getElem?_cons_zero, List.getElem?_cons_succ, List.set_cons_zero, List.set_cons_succ, List.length_cons, List.length_nil, List.cons_append, List.nil_append, List.append_nil, Nat.reduceAdd, true_and, decide_true, decide_false, if_true, Bool.false_eq_true, if_false, Bool.not_true, Bool.not_false, rd_forE, rd_m1, rd_isS, rd_anyS, rd_joinI, rd_sumZ, rd_never, rd_lcZ, rd_min1, rd_sum1, rd_all1, rd_any1, rd_tup1, rd_gnR, rd_gnT, rd_gnL, rd_gLoc, rd_gCap, rd_gC, rd_gI, rd_int2b, rd_int1, rd_dget, rd_dput, rd_dnewT, rd_dnewK, rd_truT, rd_forR, rd_for3, rd_lc2, rd_rng2, rd_forET, rd_par, rd_forES, rd_xfld, rd_raiseI, rd_isS, rd_forS, rd_lcS, rd_rep, rd_mkI, rd_mkX, rd_strX, rd_isL gp2, rd_append gp2]
      have hzl := h12 z (List.mem_of_getElem? hz) hw
      refine ⟨z, _, rfl, int_wn hw hzl, by omega, small100k (by unfold vls; rw [List.length_map, List.length_map, List.length_take]; omega), _, _, rfl, ?_, upd_at hpl gl2, (f1.trans f2).own hp gp2, fun j y hj hy => ?_⟩
      · rw [upd_same, List.take_succ, hz]
        unfold vls
        simp
      · by_cases e : j = i
        · subst e; rw [hz] at hy; cases hy; exact hw
        · exact hok j y (by omega) hy
  · rintro σ G ⟨b2, b3, rfl, gp, gl, ft, hok⟩
    simp only [rd_seq, rd_next, rd_drop, rd_ret, rd_retN, rd_ifS, rd_asg, rd_gName, rd_gNil, rd_gCons, rd_gTup, rd_gSub, rd_aug, rd_var, rd_C, rd_op, rd_un, rd_nil, rd_cons, rd_tup, rd_lst, rd_call, rd_cb, rd_test, rd_B, rd_and, rd_or, rd_not, rd_andV, rd_orV, rd_notV, rd_ifE, rd_bm0, rd_bm, rd_rv, rd_sl, rd_nopart, rd_part, rd_rI, rd_rI0, rd_rU, rd_ipI, rd_eqI, rd_neI, rd_eqB, rd_neB, rd_eqS, rd_neS, rd_ixU, rd_setU, rd_truL, rd_for1, rd_for2, rd_forL, rd_forT, rd_lc1, rd_lcL, rd_lcT, rd_yes, rd_wipe0, rd_wipe1, rd_rng1, rd_ref1, rd_cxK, rd_cons1, rd_one, at0, at1, at2, at3, at4, ix5_1, ix5_2, ix5_3, upd_upd, rd_bool, rd_some, rd_isv_int_int, rd_isv_int_bool, rd_isv_int_str, rd_isv_int_tuple, rd_isv_int_list, rd_isv_bl_int, rd_isv_bl_bool, rd_isv_bl_str, rd_isv_bl_tuple, rd_isv_bl_list, rd_isv_str_int, rd_isv_str_bool, rd_isv_str_str, rd_isv_str_tuple, rd_isv_str_list, rd_ml0, rd_ml, ln0, ln1, ln2, ln3, ln4, ln5, ln6, ln7, ln8, ln9, ln10, List.getElem?_cons_zero, List.getElem?_cons_succ, List.set_cons_zero, List.set_cons_succ, List.length_cons, List.length_nil, List.cons_append, List.nil_append, List.append_nil, Nat.reduceAdd, true_and, decide_true, decide_false, if_true, Bool.false_eq_true, if_false, Bool.not_true, Bool.not_false, rd_forE, rd_m1, rd_isS, rd_anyS, rd_joinI, rd_sumZ, rd_never, rd_lcZ, rd_min1, rd_sum1, rd_all1, rd_any1, rd_tup1, rd_gnR, rd_gnT, rd_gnL, rd_gLoc, rd_gCap, rd_gC, rd_gI, rd_int2b, rd_int1, rd_dget, rd_dput, rd_dnewT, rd_dnewK, rd_truT, rd_forR, rd_for3, rd_lc2, rd_rng2, rd_forET, rd_par, rd_forES, rd_xfld, rd_raiseI, rd_isS, rd_forS, rd_lcS, rd_rep, rd_mkI, rd_mkX, rd_strX, rd_tupL gp]
    intro t ht
    refine q (fun z hz => ?_) t _ (ft.trans (Fg.of (same_new ht _))) ?_
    · obtain ⟨j, hj⟩ := List.mem_iff_getElem?.mp hz
      exact hok j z (by rw [List.length_map]; exact (List.getElem?_eq_some_iff.mp hj).1) hj
    · rw [upd_same, List.length_map, List.take_length]
end
end Q
set_option Elab.async false
set_option linter.all false
set_option maxRecDepth 100000
set_option maxHeartbeats 4000000
namespace Q
open PySem L2 L3 L4 Dm Tx Bn TL
abbrev s_law_kind : Stmt := top 16
theorem sc_law_kind : FnScope ["caught", "kinds", "kind"] ["caught"] (defScope s_law_kind) := ⟨rfl, rfl, rfl, by decide +kernel, rfl, by decide +kernel, by decide +kernel⟩
structure KdW (K : PySem.W.Frag) (mg : Str → Option Value) (NW JE : Addr) : Prop where
  ve : mg "ValueError" = none
  ex : ∃ NA NH NP NT : Addr, mg "NoAsk" = some (.ref NA) ∧ mg "NoHeaps" = some (.ref NH) ∧ mg "NoPlace" = some (.ref NP) ∧ mg "NoTree" = some (.ref NT) ∧ mg "NoWord" = some (.ref NW) ∧ mg "JoinError" = some (.ref JE) ∧
    PySem.W.kitOne K (.ref NW) (.ref NA) = some false ∧ PySem.W.kitOne K (.ref NW) (.ref NH) = some false ∧ PySem.W.kitOne K (.ref NW) (.ref NP) = some false ∧ PySem.W.kitOne K (.ref NW) (.ref NT) = some false ∧ PySem.W.kitOne K (.ref NW) (.ref NW) = some true ∧
    PySem.W.kitOne K (.ref NW) (.ref JE) = some true ∧ PySem.W.kitOne K (.ref NW) (.type "ValueError") = some true
  xf : XFacts K NW
  f0 : IFacts K NW JE "place"
def spKindW (NW : Addr) : Sp := fun vs H Q _ => ∃ (a dx : Addr) (n : Int), vs = [.ref a] ∧ H a = some (exD (.ref NW) (some dx) a) ∧ H dx = some (.xd [("place", .int n)]) ∧ ∀ (l : Addr) H', Same H H' → H' l = some (.tup [.str "word", .int n]) → Q (.ref l) H'
theorem isxD {K : PySem.W.Frag} {H : Hp} {Q : VK} {a D : Addr} {d : Option Addr} {c : V} {u : Value} {b : Bool} (ha : H a = some (exD (.ref D) d a)) (x : XFacts K D) (hc : clsV c = some u) (e : PySem.W.kitOne K (.ref D) u = some b) (q : Q (.bl b) H) : rIsXD K [.ref a, c] H Q := ⟨a, D, d, c, u, b, rfl, ha, hc, x, e, q⟩
section
variable {P : Program} {w : World} {K : PySem.W.Frag} {mg : Str → Option Value} {base : Heap} {f NW JE : Addr} {fd : FuncData}
theorem ok_kindW (F : Fun K "_law_kind" "_law_kind" s_law_kind f fd) (T : Bt mg) (C : KdW K mg NW JE) : FnOk P w K mg base CX0 1 f fd ["caught"] (spKindW NW) := by
  obtain ⟨NA, NH, NP, NT, gA, gH, gP, gT, gW, gJ, kA, kH, kP, kT, kW, kJ, kV⟩ := C.ex
  refine F.ok sc_law_kind (fun vs H Q E h => ?_) (fun cdv A outer s H vs Q E hr h => ?_)
  · obtain ⟨a, dx, n, rfl, _⟩ := h
    rfl
  obtain ⟨a, dx, n, rfl, ha, hd, q⟩ := h
  have XF := C.xf
  have F0 := C.f0
  refine ⟨_, (pss_cons (ps_set (i := 1) sc_law_kind.nd rfl (by first | exact Or.inl rfl | exact Or.inr rfl) (pe_lst (pa_cons (pe_callB call_isxD (by rfl) T.isinstance (by decide +kernel) (pa_cons (pv 0) (pa_cons (pe_glob (v := .ref NA) (by rfl) gA rfl) pa_nil))) (pa_cons (pe_callB call_isxD (by rfl) T.isinstance (by decide +kernel) (pa_cons (pv 0) (pa_cons (pe_glob (v := .ref NH) (by rfl) gH rfl) pa_nil))) (pa_cons (pe_callB call_isxD (by rfl) T.isinstance (by decide +kernel) (pa_cons (pv 0) (pa_cons (pe_glob (v := .ref NP) (by rfl) gP rfl) pa_nil))) pa_nil)))))
    (pss_cons (ps_set (i := 1) sc_law_kind.nd rfl (by first | exact Or.inl rfl | exact Or.inr rfl) (pe_op op_cat (pv 1) (pe_lst (pa_cons (pe_callB call_isxD (by rfl) T.isinstance (by decide +kernel) (pa_cons (pv 0) (pa_cons (pe_glob (v := .ref NT) (by rfl) gT rfl) pa_nil))) (pa_cons (pe_callB call_isxD (by rfl) T.isinstance (by decide +kernel) (pa_cons (pv 0) (pa_cons (pe_glob (v := .ref NW) (by rfl) gW rfl) pa_nil))) pa_nil)))))
    (pss_cons (ps_if (PW.pt (pw_or (pt_not (pt_val (pe_callB call_isxD (by rfl) T.isinstance (by decide +kernel) (pa_cons (pv 0) (pa_cons (pe_glob (v := .ref JE) (by rfl) gJ rfl) pa_nil))))) (pw_or (pt_not (pt_val (pe_callB call_isxD (by rfl) T.isinstance (by decide +kernel) (pa_cons (pv 0) (pa_cons (pe_bltn (v := .ty "ValueError") (by rfl) C.ve (by decide +kernel) rfl) pa_nil))))) (pw_or1 (pt_cmpR op_ne (pe_bm PySem.F.plainAttrs_list PySem.F.slot_list_count PySem.F.type_list_count mt_count (pv 1) (pa_cons pe_bl pa_nil)) pe_int (nomark _)))))) (pss_one (ps_ret (pe_tup (pa_cons pe_str pa_nil)))) pss_nil)
    (pss_cons (ps_set (i := 2) sc_law_kind.nd rfl (by first | exact Or.inl rfl | exact Or.inr rfl) (pe_ix ix_H (pe_lst (pa_cons pe_str (pa_cons pe_str (pa_cons pe_str (pa_cons pe_str (pa_cons pe_str pa_nil)))))) (pe_bm PySem.F.plainAttrs_list PySem.F.slot_list_index PySem.F.type_list_index mt_index (pv 1) (pa_cons pe_bl pa_nil)) (fun _ _ => rfl)))
    (pss_cons (ps_if (pt_cmpR op_in_seq (pv 2) (pe_tup (pa_cons pe_str (pa_cons pe_str pa_nil))) (by rfl)) (pss_cons (ps_if (pt_val (pe_callB call_isv (by rfl) T.isinstance (by decide +kernel) (pa_cons (pe_xfld F0 XF (pv 0)) (pa_cons (pe_bltn (v := .ty "bool") (by rfl) T.bool_ (by decide +kernel) rfl) pa_nil)))) (pss_one (ps_ret (pe_tup (pa_cons pe_str pa_nil)))) pss_nil)
    (pss_one (ps_ret (pe_tup (pa_cons (pv 2) (pa_cons (pe_xfld F0 XF (pv 0)) pa_nil)))))) pss_nil)
    (pss_one (ps_ret (pe_tup (pa_cons (pv 2) pa_nil))))))))), ?_⟩
  rw [show start ["caught", "kinds", "kind"] [V.ref a] = [some (V.ref a), none, none] from rfl]
  simp only [rd_seq, rd_next, rd_drop, rd_ret, rd_retN, rd_ifS, rd_asg, rd_gName, rd_gNil, rd_gCons, rd_gTup, rd_gSub, rd_aug, rd_var, rd_C, rd_op, rd_un, rd_nil, rd_cons, rd_tup, rd_lst, rd_call, rd_cb, rd_test, rd_B, rd_and, rd_or, rd_not, rd_andV, rd_orV, rd_notV, rd_ifE, rd_bm0, rd_bm, rd_rv, rd_sl, rd_nopart, rd_part, rd_rI, rd_rI0, rd_rU, rd_ipI, rd_eqI, rd_neI, rd_eqB, rd_neB, rd_eqS, rd_neS, rd_ixU, rd_setU, rd_truL, rd_for1, rd_for2, rd_forL, rd_forT, rd_lc1, rd_lcL, rd_lcT, rd_yes, rd_wipe0, rd_wipe1, rd_rng1, rd_ref1, rd_cxK, rd_cons1, rd_one, at0, at1, at2, at3, at4, ix5_1, ix5_2, ix5_3, upd_upd, rd_bool, rd_some, rd_isv_int_int, rd_isv_int_bool, rd_isv_int_str, rd_isv_int_tuple, rd_isv_int_list, rd_isv_bl_int, rd_isv_bl_bool, rd_isv_bl_str, rd_isv_bl_tuple, rd_isv_bl_list, rd_isv_str_int, rd_isv_str_bool, rd_isv_str_str, rd_isv_str_tuple, rd_isv_str_list, rd_ml0, rd_ml, ln0, ln1, ln2, ln3, ln4, ln5, ln6, ln7, ln8, ln9, ln10, List.getElem?_cons_zero, List.getElem?_cons_succ, List.set_cons_zero, List.set_cons_succ, List.length_cons, List.length_nil, List.cons_append, List.nil_append, List.append_nil, Nat.reduceAdd, true_and, decide_true, decide_false, if_true, Bool.false_eq_true, if_false, Bool.not_true, Bool.not_false, rd_forE, rd_m1, rd_isS, rd_anyS, rd_joinI, rd_sumZ, rd_never, rd_lcZ, rd_min1, rd_sum1, rd_all1, rd_any1, rd_tup1, rd_gnR, rd_gnT, rd_gnL, rd_gLoc, rd_gCap, rd_gC, rd_gI, rd_int2b, rd_int1, rd_dget, rd_dput, rd_dnewT, rd_dnewK, rd_truT, rd_forR, rd_for3, rd_lc2, rd_rng2, rd_forET, rd_par, rd_forES, rd_xfld, rd_raiseI, rd_isS, rd_forS, rd_lcS, rd_rep, rd_mkI, rd_mkX, rd_strX]
  refine isxD ha XF rfl kA (isxD ha XF rfl kH (isxD ha XF rfl kP fun p1 hp1 => ?_))
  have s1 := same_new hp1 (.lst [.bl false, .bl false, .bl false])
  have e1 := upd_same (H := H) (a := p1) (o := .lst [.bl false, .bl false, .bl false])
  generalize upd H p1 (.lst [.bl false, .bl false, .bl false]) = H1 at *
  refine isxD (s1 _ _ ha) XF rfl kT (isxD (s1 _ _ ha) XF rfl kW fun p2 hp2 => ?_)
  have s2 := same_new hp2 (.lst [.bl false, .bl true])
  have e2 := upd_same (H := H1) (a := p2) (o := .lst [.bl false, .bl true])
  generalize upd H1 p2 (.lst [.bl false, .bl true]) = H2 at *
  rw [rd_cat (s2 _ _ e1) e2]
  refine ⟨by decide, fun p3 hp3 => ?_⟩
  have s3 := same_new hp3 (.lst ([V.bl false, .bl false, .bl false] ++ [.bl false, .bl true]))
  have e3 := upd_same (H := H2) (a := p3) (o := .lst ([V.bl false, .bl false, .bl false] ++ [.bl false, .bl true]))
  generalize upd H2 p3 (.lst ([V.bl false, .bl false, .bl false] ++ [.bl false, .bl true])) = H3 at *
  have e3 : H3 p3 = some (.lst [.bl false, .bl false, .bl false, .bl false, .bl true]) := e3
  have sH := s1.trans (s2.trans s3)
  refine isxD (sH _ _ ha) XF rfl kJ ⟨true, rfl, ?_⟩
  simp only [rd_seq, rd_next, rd_drop, rd_ret, rd_retN, rd_ifS, rd_asg, rd_gName, rd_gNil, rd_gCons, rd_gTup, rd_gSub, rd_aug, rd_var, rd_C, rd_op, rd_un, rd_nil, rd_cons, rd_tup, rd_lst, rd_call, rd_cb, rd_test, rd_B, rd_and, rd_or, rd_not, rd_andV, rd_orV, rd_notV, rd_ifE, rd_bm0, rd_bm, rd_rv, rd_sl, rd_nopart, rd_part, rd_rI, rd_rI0, rd_rU, rd_ipI, rd_eqI, rd_neI, rd_eqB, rd_neB, rd_eqS, rd_neS, rd_ixU, rd_setU, rd_truL, rd_for1, rd_for2, rd_forL, rd_forT, rd_lc1, rd_lcL, rd_lcT, rd_yes, rd_wipe0, rd_wipe1, rd_rng1, rd_ref1, rd_cxK, rd_cons1, rd_one, at0, at1, at2, at3, at4, ix5_1, ix5_2, ix5_3, upd_upd, rd_bool, rd_some, rd_isv_int_int, rd_isv_int_bool, rd_isv_int_str, rd_isv_int_tuple, rd_isv_int_list, rd_isv_bl_int, rd_isv_bl_bool, rd_isv_bl_str, rd_isv_bl_tuple, rd_isv_bl_list, rd_isv_str_int, rd_isv_str_bool, rd_isv_str_str, rd_isv_str_tuple, rd_isv_str_list, rd_ml0, rd_ml, ln0, ln1, ln2, ln3, ln4, ln5, ln6, ln7, ln8, ln9, ln10, List.getElem?_cons_zero, List.getElem?_cons_succ, List.set_cons_zero, List.set_cons_succ, List.length_cons, List.length_nil, List.cons_append, List.nil_append, List.append_nil, Nat.reduceAdd, true_and, decide_true, decide_false, if_true, Bool.false_eq_true, if_false, Bool.not_true, Bool.not_false, rd_forE, rd_m1, rd_isS, rd_anyS, rd_joinI, rd_sumZ, rd_never, rd_lcZ, rd_min1, rd_sum1, rd_all1, rd_any1, rd_tup1, rd_gnR, rd_gnT, rd_gnL, rd_gLoc, rd_gCap, rd_gC, rd_gI, rd_int2b, rd_int1, rd_dget, rd_dput, rd_dnewT, rd_dnewK, rd_truT, rd_forR, rd_for3, rd_lc2, rd_rng2, rd_forET, rd_par, rd_forES, rd_xfld, rd_raiseI, rd_isS, rd_forS, rd_lcS, rd_rep, rd_mkI, rd_mkX, rd_strX]
  refine isxD (sH _ _ ha) XF rfl kV ⟨true, rfl, ?_⟩
  simp only [rd_seq, rd_next, rd_drop, rd_ret, rd_retN, rd_ifS, rd_asg, rd_gName, rd_gNil, rd_gCons, rd_gTup, rd_gSub, rd_aug, rd_var, rd_C, rd_op, rd_un, rd_nil, rd_cons, rd_tup, rd_lst, rd_call, rd_cb, rd_test, rd_B, rd_and, rd_or, rd_not, rd_andV, rd_orV, rd_notV, rd_ifE, rd_bm0, rd_bm, rd_rv, rd_sl, rd_nopart, rd_part, rd_rI, rd_rI0, rd_rU, rd_ipI, rd_eqI, rd_neI, rd_eqB, rd_neB, rd_eqS, rd_neS, rd_ixU, rd_setU, rd_truL, rd_for1, rd_for2, rd_forL, rd_forT, rd_lc1, rd_lcL, rd_lcT, rd_yes, rd_wipe0, rd_wipe1, rd_rng1, rd_ref1, rd_cxK, rd_cons1, rd_one, at0, at1, at2, at3, at4, ix5_1, ix5_2, ix5_3, upd_upd, rd_bool, rd_some, rd_isv_int_int, rd_isv_int_bool, rd_isv_int_str, rd_isv_int_tuple, rd_isv_int_list, rd_isv_bl_int, rd_isv_bl_bool, rd_isv_bl_str, rd_isv_bl_tuple, rd_isv_bl_list, rd_isv_str_int, rd_isv_str_bool, rd_isv_str_str, rd_isv_str_tuple, rd_isv_str_list, rd_ml0, rd_ml, ln0, ln1, ln2, ln3, ln4, ln5, ln6, ln7, ln8, ln9, ln10, List.getElem?_cons_zero, List.getElem?_cons_succ, List.set_cons_zero, List.set_cons_succ, List.length_cons, List.length_nil, List.cons_append, List.nil_append, List.append_nil, Nat.reduceAdd, true_and, decide_true, decide_false, if_true, Bool.false_eq_true, if_false, Bool.not_true, Bool.not_false, rd_forE, rd_m1, rd_isS, rd_anyS, rd_joinI, rd_sumZ, rd_never, rd_lcZ, rd_min1, rd_sum1, rd_all1, rd_any1, rd_tup1, rd_gnR, rd_gnT, rd_gnL, rd_gLoc, rd_gCap, rd_gC, rd_gI, rd_int2b, rd_int1, rd_dget, rd_dput, rd_dnewT, rd_dnewK, rd_truT, rd_forR, rd_for3, rd_lc2, rd_rng2, rd_forET, rd_par, rd_forES, rd_xfld, rd_raiseI, rd_isS, rd_forS, rd_lcS, rd_rep, rd_mkI, rd_mkX, rd_strX, L3.rd_tyL e3]
  refine ⟨p3, _, _, rfl, rfl, SqL.of e3, rfl, rfl, ?_⟩
  simp only [show List.countP (fun z => eqV z (V.bl true)) [V.bl false, .bl false, .bl false, .bl false, .bl true] = 1 from rfl, show ((1 : Nat) : Int) = 1 from rfl, rd_seq, rd_next, rd_drop, rd_ret, rd_retN, rd_ifS, rd_asg, rd_gName, rd_gNil, rd_gCons, rd_gTup, rd_gSub, rd_aug, rd_var, rd_C, rd_op, rd_un, rd_nil, rd_cons, rd_tup, rd_lst, rd_call, rd_cb, rd_test, rd_B, rd_and, rd_or, rd_not, rd_andV, rd_orV, rd_notV, rd_ifE, rd_bm0, rd_bm, rd_rv, rd_sl, rd_nopart, rd_part, rd_rI, rd_rI0, rd_rU, rd_ipI, rd_eqI, rd_neI, rd_eqB, rd_neB, rd_eqS, rd_neS, rd_ixU, rd_setU, rd_truL, rd_for1, rd_for2, rd_forL, rd_forT, rd_lc1, rd_lcL, rd_lcT, rd_yes, rd_wipe0, rd_wipe1, rd_rng1, rd_ref1, rd_cxK, rd_cons1, rd_one, at0, at1, at2, at3, at4, ix5_1, ix5_2, ix5_3, upd_upd, rd_bool, rd_some, rd_isv_int_int, rd_isv_int_bool, rd_isv_int_str, rd_isv_int_tuple, rd_isv_int_list, rd_isv_bl_int, rd_isv_bl_bool, rd_isv_bl_str, rd_isv_bl_tuple, rd_isv_bl_list, rd_isv_str_int, rd_isv_str_bool, rd_isv_str_str, rd_isv_str_tuple, rd_isv_str_list, rd_ml0, rd_ml, ln0, ln1, ln2, ln3, ln4, ln5, ln6, ln7, ln8, ln9, ln10, List.getElem?_cons_zero, List.getElem?_cons_succ, List.set_cons_zero, List.set_cons_succ, List.length_cons, List.length_nil, List.cons_append, List.nil_append, List.append_nil, Nat.reduceAdd, true_and, decide_true, decide_false, if_true, Bool.false_eq_true, if_false, Bool.not_true, Bool.not_false, rd_forE, rd_m1, rd_isS, rd_anyS, rd_joinI, rd_sumZ, rd_never, rd_lcZ, rd_min1, rd_sum1, rd_all1, rd_any1, rd_tup1, rd_gnR, rd_gnT, rd_gnL, rd_gLoc, rd_gCap, rd_gC, rd_gI, rd_int2b, rd_int1, rd_dget, rd_dput, rd_dnewT, rd_dnewK, rd_truT, rd_forR, rd_for3, rd_lc2, rd_rng2, rd_forET, rd_par, rd_forES, rd_xfld, rd_raiseI, rd_isS, rd_forS, rd_lcS, rd_rep, rd_mkI, rd_mkX, rd_strX, decide_true, Bool.not_true]
  intro p4 hp4
  have s4 := same_new hp4 (.lst [V.str (Str.ofString "ask"), V.str (Str.ofString "heaps"), V.str (Str.ofString "place"), V.str (Str.ofString "tree"), V.str (Str.ofString "word")])
  have e4 := upd_same (H := H3) (a := p4) (o := .lst [V.str (Str.ofString "ask"), V.str (Str.ofString "heaps"), V.str (Str.ofString "place"), V.str (Str.ofString "tree"), V.str (Str.ofString "word")])
  generalize upd H3 p4 (.lst [V.str (Str.ofString "ask"), V.str (Str.ofString "heaps"), V.str (Str.ofString "place"), V.str (Str.ofString "tree"), V.str (Str.ofString "word")]) = H4 at *
  simp only [L3.rd_tyL (s4 _ _ e3), true_and]
  refine ⟨p3, _, _, 4, .bl true, rfl, rfl, SqL.of (s4 _ _ e3), rfl, rfl, rfl, rfl, fun m z' hm hz => ?_, ?_⟩
  · match m, hm with
    | 0, _ => cases hz; rfl
    | 1, _ => cases hz; rfl
    | 2, _ => cases hz; rfl
    | 3, _ => cases hz; rfl
  simp only [rd_ixH e4, show ((4 : Nat) : Int) = 4 from rfl, rd_seq, rd_next, rd_drop, rd_ret, rd_retN, rd_ifS, rd_asg, rd_gName, rd_gNil, rd_gCons, rd_gTup, rd_gSub, rd_aug, rd_var, rd_C, rd_op, rd_un, rd_nil, rd_cons, rd_tup, rd_lst, rd_call, rd_cb, rd_test, rd_B, rd_and, rd_or, rd_not, rd_andV, rd_orV, rd_notV, rd_ifE, rd_bm0, rd_bm, rd_rv, rd_sl, rd_nopart, rd_part, rd_rI, rd_rI0, rd_rU, rd_ipI, rd_eqI, rd_neI, rd_eqB, rd_neB, rd_eqS, rd_neS, rd_ixU, rd_setU, rd_truL, rd_for1, rd_for2, rd_forL, rd_forT, rd_lc1, rd_lcL, rd_lcT, rd_yes, rd_wipe0, rd_wipe1, rd_rng1, rd_ref1, rd_cxK, rd_cons1, rd_one, at0, at1, at2, at3, at4, ix5_1, ix5_2, ix5_3, upd_upd, rd_bool, rd_some, rd_isv_int_int, rd_isv_int_bool, rd_isv_int_str, rd_isv_int_tuple, rd_isv_int_list, rd_isv_bl_int, rd_isv_bl_bool, rd_isv_bl_str, rd_isv_bl_tuple, rd_isv_bl_list, rd_isv_str_int, rd_isv_str_bool, rd_isv_str_str, rd_isv_str_tuple, rd_isv_str_list, rd_ml0, rd_ml, ln0, ln1, ln2, ln3, ln4, ln5, ln6, ln7, ln8, ln9, ln10, List.getElem?_cons_zero, List.getElem?_cons_succ, List.set_cons_zero, List.set_cons_succ, List.length_cons, List.length_nil, List.cons_append, List.nil_append, List.append_nil, Nat.reduceAdd, true_and, decide_true, decide_false, if_true, Bool.false_eq_true, if_false, Bool.not_true, Bool.not_false, rd_forE, rd_m1, rd_isS, rd_anyS, rd_joinI, rd_sumZ, rd_never, rd_lcZ, rd_min1, rd_sum1, rd_all1, rd_any1, rd_tup1, rd_gnR, rd_gnT, rd_gnL, rd_gLoc, rd_gCap, rd_gC, rd_gI, rd_int2b, rd_int1, rd_dget, rd_dput, rd_dnewT, rd_dnewK, rd_truT, rd_forR, rd_for3, rd_lc2, rd_rng2, rd_forET, rd_par, rd_forES, rd_xfld, rd_raiseI, rd_isS, rd_forS, rd_lcS, rd_rep, rd_mkI, rd_mkX, rd_strX]
  intro p5 hp5
  have s5 := same_new hp5 (.tup [V.str (Str.ofString "heaps"), V.str (Str.ofString "word")])
  refine ⟨p5, _, rfl, .inr (SqT.of upd_same), rfl, rfl, ?_⟩
  refine ⟨true, by decide, ?_⟩
  simp only [rd_seq, rd_next, rd_drop, rd_ret, rd_retN, rd_ifS, rd_asg, rd_gName, rd_gNil, rd_gCons, rd_gTup, rd_gSub, rd_aug, rd_var, rd_C, rd_op, rd_un, rd_nil, rd_cons, rd_tup, rd_lst, rd_call, rd_cb, rd_test, rd_B, rd_and, rd_or, rd_not, rd_andV, rd_orV, rd_notV, rd_ifE, rd_bm0, rd_bm, rd_rv, rd_sl, rd_nopart, rd_part, rd_rI, rd_rI0, rd_rU, rd_ipI, rd_eqI, rd_neI, rd_eqB, rd_neB, rd_eqS, rd_neS, rd_ixU, rd_setU, rd_truL, rd_for1, rd_for2, rd_forL, rd_forT, rd_lc1, rd_lcL, rd_lcT, rd_yes, rd_wipe0, rd_wipe1, rd_rng1, rd_ref1, rd_cxK, rd_cons1, rd_one, at0, at1, at2, at3, at4, ix5_1, ix5_2, ix5_3, upd_upd, rd_bool, rd_some, rd_isv_int_int, rd_isv_int_bool, rd_isv_int_str, rd_isv_int_tuple, rd_isv_int_list, rd_isv_bl_int, rd_isv_bl_bool, rd_isv_bl_str, rd_isv_bl_tuple, rd_isv_bl_list, rd_isv_str_int, rd_isv_str_bool, rd_isv_str_str, rd_isv_str_tuple, rd_isv_str_list, rd_ml0, rd_ml, ln0, ln1, ln2, ln3, ln4, ln5, ln6, ln7, ln8, ln9, ln10, List.getElem?_cons_zero, List.getElem?_cons_succ, List.set_cons_zero, List.set_cons_succ, List.length_cons, List.length_nil, List.cons_append, List.nil_append, List.append_nil, Nat.reduceAdd, true_and, decide_true, decide_false, if_true, Bool.false_eq_true, if_false, Bool.not_true, Bool.not_false, rd_forE, rd_m1, rd_isS, rd_anyS, rd_joinI, rd_sumZ, rd_never, rd_lcZ, rd_min1, rd_sum1, rd_all1, rd_any1, rd_tup1, rd_gnR, rd_gnT, rd_gnL, rd_gLoc, rd_gCap, rd_gC, rd_gI, rd_int2b, rd_int1, rd_dget, rd_dput, rd_dnewT, rd_dnewK, rd_truT, rd_forR, rd_for3, rd_lc2, rd_rng2, rd_forET, rd_par, rd_forES, rd_xfld, rd_raiseI, rd_isS, rd_forS, rd_lcS, rd_rep, rd_mkI, rd_mkX, rd_strX]
  have sA := sH.trans (s4.trans s5)
  refine ⟨a, dx, _, .int n, rfl, sA _ _ ha, sA _ _ hd, rfl, ?_⟩
  simp only [rd_seq, rd_next, rd_drop, rd_ret, rd_retN, rd_ifS, rd_asg, rd_gName, rd_gNil, rd_gCons, rd_gTup, rd_gSub, rd_aug, rd_var, rd_C, rd_op, rd_un, rd_nil, rd_cons, rd_tup, rd_lst, rd_call, rd_cb, rd_test, rd_B, rd_and, rd_or, rd_not, rd_andV, rd_orV, rd_notV, rd_ifE, rd_bm0, rd_bm, rd_rv, rd_sl, rd_nopart, rd_part, rd_rI, rd_rI0, rd_rU, rd_ipI, rd_eqI, rd_neI, rd_eqB, rd_neB, rd_eqS, rd_neS, rd_ixU, rd_setU, rd_truL, rd_for1, rd_for2, rd_forL, rd_forT, rd_lc1, rd_lcL, rd_lcT, rd_yes, rd_wipe0, rd_wipe1, rd_rng1, rd_ref1, rd_cxK, rd_cons1, rd_one, at0, at1, at2, at3, at4, ix5_1, ix5_2, ix5_3, upd_upd, rd_bool, rd_some, rd_isv_int_int, rd_isv_int_bool, rd_isv_int_str, rd_isv_int_tuple, rd_isv_int_list, rd_isv_bl_int, rd_isv_bl_bool, rd_isv_bl_str, rd_isv_bl_tuple, rd_isv_bl_list, rd_isv_str_int, rd_isv_str_bool, rd_isv_str_str, rd_isv_str_tuple, rd_isv_str_list, rd_ml0, rd_ml, ln0, ln1, ln2, ln3, ln4, ln5, ln6, ln7, ln8, ln9, ln10, List.getElem?_cons_zero, List.getElem?_cons_succ, List.set_cons_zero, List.set_cons_succ, List.length_cons, List.length_nil, List.cons_append, List.nil_append, List.append_nil, Nat.reduceAdd, true_and, decide_true, decide_false, if_true, Bool.false_eq_true, if_false, Bool.not_true, Bool.not_false, rd_forE, rd_m1, rd_isS, rd_anyS, rd_joinI, rd_sumZ, rd_never, rd_lcZ, rd_min1, rd_sum1, rd_all1, rd_any1, rd_tup1, rd_gnR, rd_gnT, rd_gnL, rd_gLoc, rd_gCap, rd_gC, rd_gI, rd_int2b, rd_int1, rd_dget, rd_dput, rd_dnewT, rd_dnewK, rd_truT, rd_forR, rd_for3, rd_lc2, rd_rng2, rd_forET, rd_par, rd_forES, rd_xfld, rd_raiseI, rd_isS, rd_forS, rd_lcS, rd_rep, rd_mkI, rd_mkX, rd_strX]
  refine ⟨a, dx, _, .int n, rfl, sA _ _ ha, sA _ _ hd, rfl, fun p6 hp6 => ?_⟩
  exact q p6 _ (sA.trans (same_new hp6 _)) upd_same
end
structure KdH (K : PySem.W.Frag) (mg : Str → Option Value) (NH JE : Addr) : Prop where
  ve : mg "ValueError" = none
  ex : ∃ NA NP NT NW : Addr, mg "NoAsk" = some (.ref NA) ∧ mg "NoHeaps" = some (.ref NH) ∧ mg "NoPlace" = some (.ref NP) ∧ mg "NoTree" = some (.ref NT) ∧ mg "NoWord" = some (.ref NW) ∧ mg "JoinError" = some (.ref JE) ∧
    PySem.W.kitOne K (.ref NH) (.ref NA) = some false ∧ PySem.W.kitOne K (.ref NH) (.ref NH) = some true ∧ PySem.W.kitOne K (.ref NH) (.ref NP) = some false ∧ PySem.W.kitOne K (.ref NH) (.ref NT) = some false ∧ PySem.W.kitOne K (.ref NH) (.ref NW) = some false ∧
    PySem.W.kitOne K (.ref NH) (.ref JE) = some true ∧ PySem.W.kitOne K (.ref NH) (.type "ValueError") = some true
  xf : XFacts K NH
  f0 : IFacts K NH JE "place"
def spKindH (NH : Addr) : Sp := fun vs H Q _ => ∃ (a dx : Addr) (n : Int), vs = [.ref a] ∧ H a = some (exD (.ref NH) (some dx) a) ∧ H dx = some (.xd [("place", .int n)]) ∧ ∀ (l : Addr) H', Same H H' → H' l = some (.tup [.str "heaps", .int n]) → Q (.ref l) H'
section
variable {P : Program} {w : World} {K : PySem.W.Frag} {mg : Str → Option Value} {base : Heap} {f NH JE : Addr} {fd : FuncData}
theorem ok_kindH (F : Fun K "_law_kind" "_law_kind" s_law_kind f fd) (T : Bt mg) (C : KdH K mg NH JE) : FnOk P w K mg base CX0 1 f fd ["caught"] (spKindH NH) := by
  obtain ⟨NA, NP, NT, NW, gA, gH, gP, gT, gW, gJ, kA, kH, kP, kT, kW, kJ, kV⟩ := C.ex
  refine F.ok sc_law_kind (fun vs H Q E h => ?_) (fun cdv A outer s H vs Q E hr h => ?_)
  · obtain ⟨a, dx, n, rfl, _⟩ := h
    rfl
  obtain ⟨a, dx, n, rfl, ha, hd, q⟩ := h
  have XF := C.xf
  have F0 := C.f0
  refine ⟨_, (pss_cons (ps_set (i := 1) sc_law_kind.nd rfl (by first | exact Or.inl rfl | exact Or.inr rfl) (pe_lst (pa_cons (pe_callB call_isxD (by rfl) T.isinstance (by decide +kernel) (pa_cons (pv 0) (pa_cons (pe_glob (v := .ref NA) (by rfl) gA rfl) pa_nil))) (pa_cons (pe_callB call_isxD (by rfl) T.isinstance (by decide +kernel) (pa_cons (pv 0) (pa_cons (pe_glob (v := .ref NH) (by rfl) gH rfl) pa_nil))) (pa_cons (pe_callB call_isxD (by rfl) T.isinstance (by decide +kernel) (pa_cons (pv 0) (pa_cons (pe_glob (v := .ref NP) (by rfl) gP rfl) pa_nil))) pa_nil)))))
    (pss_cons (ps_set (i := 1) sc_law_kind.nd rfl (by first | exact Or.inl rfl | exact Or.inr rfl) (pe_op op_cat (pv 1) (pe_lst (pa_cons (pe_callB call_isxD (by rfl) T.isinstance (by decide +kernel) (pa_cons (pv 0) (pa_cons (pe_glob (v := .ref NT) (by rfl) gT rfl) pa_nil))) (pa_cons (pe_callB call_isxD (by rfl) T.isinstance (by decide +kernel) (pa_cons (pv 0) (pa_cons (pe_glob (v := .ref NW) (by rfl) gW rfl) pa_nil))) pa_nil)))))
    (pss_cons (ps_if (PW.pt (pw_or (pt_not (pt_val (pe_callB call_isxD (by rfl) T.isinstance (by decide +kernel) (pa_cons (pv 0) (pa_cons (pe_glob (v := .ref JE) (by rfl) gJ rfl) pa_nil))))) (pw_or (pt_not (pt_val (pe_callB call_isxD (by rfl) T.isinstance (by decide +kernel) (pa_cons (pv 0) (pa_cons (pe_bltn (v := .ty "ValueError") (by rfl) C.ve (by decide +kernel) rfl) pa_nil))))) (pw_or1 (pt_cmpR op_ne (pe_bm PySem.F.plainAttrs_list PySem.F.slot_list_count PySem.F.type_list_count mt_count (pv 1) (pa_cons pe_bl pa_nil)) pe_int (nomark _)))))) (pss_one (ps_ret (pe_tup (pa_cons pe_str pa_nil)))) pss_nil)
    (pss_cons (ps_set (i := 2) sc_law_kind.nd rfl (by first | exact Or.inl rfl | exact Or.inr rfl) (pe_ix ix_H (pe_lst (pa_cons pe_str (pa_cons pe_str (pa_cons pe_str (pa_cons pe_str (pa_cons pe_str pa_nil)))))) (pe_bm PySem.F.plainAttrs_list PySem.F.slot_list_index PySem.F.type_list_index mt_index (pv 1) (pa_cons pe_bl pa_nil)) (fun _ _ => rfl)))
    (pss_cons (ps_if (pt_cmpR op_in_seq (pv 2) (pe_tup (pa_cons pe_str (pa_cons pe_str pa_nil))) (by rfl)) (pss_cons (ps_if (pt_val (pe_callB call_isv (by rfl) T.isinstance (by decide +kernel) (pa_cons (pe_xfld F0 XF (pv 0)) (pa_cons (pe_bltn (v := .ty "bool") (by rfl) T.bool_ (by decide +kernel) rfl) pa_nil)))) (pss_one (ps_ret (pe_tup (pa_cons pe_str pa_nil)))) pss_nil)
    (pss_one (ps_ret (pe_tup (pa_cons (pv 2) (pa_cons (pe_xfld F0 XF (pv 0)) pa_nil)))))) pss_nil)
    (pss_one (ps_ret (pe_tup (pa_cons (pv 2) pa_nil))))))))), ?_⟩
  rw [show start ["caught", "kinds", "kind"] [V.ref a] = [some (V.ref a), none, none] from rfl]
  simp only [rd_seq, rd_next, rd_drop, rd_ret, rd_retN, rd_ifS, rd_asg, rd_gName, rd_gNil, rd_gCons, rd_gTup, rd_gSub, rd_aug, rd_var, rd_C, rd_op, rd_un, rd_nil, rd_cons, rd_tup, rd_lst, rd_call, rd_cb, rd_test, rd_B, rd_and, rd_or, rd_not, rd_andV, rd_orV, rd_notV, rd_ifE, rd_bm0, rd_bm, rd_rv, rd_sl, rd_nopart, rd_part, rd_rI, rd_rI0, rd_rU, rd_ipI, rd_eqI, rd_neI, rd_eqB, rd_neB, rd_eqS, rd_neS, rd_ixU, rd_setU, rd_truL, rd_for1, rd_for2, rd_forL, rd_forT, rd_lc1, rd_lcL, rd_lcT, rd_yes, rd_wipe0, rd_wipe1, rd_rng1, rd_ref1, rd_cxK, rd_cons1, rd_one, at0, at1, at2, at3, at4, ix5_1, ix5_2, ix5_3, upd_upd, rd_bool, rd_some, rd_isv_int_int, rd_isv_int_bool, rd_isv_int_str, rd_isv_int_tuple, rd_isv_int_list, rd_isv_bl_int, rd_isv_bl_bool, rd_isv_bl_str, rd_isv_bl_tuple, rd_isv_bl_list, rd_isv_str_int, rd_isv_str_bool, rd_isv_str_str, rd_isv_str_tuple, rd_isv_str_list, rd_ml0, rd_ml, ln0, ln1, ln2, ln3, ln4, ln5, ln6, ln7, ln8, ln9, ln10, List.getElem?_cons_zero, List.getElem?_cons_succ, List.set_cons_zero, List.set_cons_succ, List.length_cons, List.length_nil, List.cons_append, List.nil_append, List.append_nil, Nat.reduceAdd, true_and, decide_true, decide_false, if_true, Bool.false_eq_true, if_false, Bool.not_true, Bool.not_false, rd_forE, rd_m1, rd_isS, rd_anyS, rd_joinI, rd_sumZ, rd_never, rd_lcZ, rd_min1, rd_sum1, rd_all1, rd_any1, rd_tup1, rd_gnR, rd_gnT, rd_gnL, rd_gLoc, rd_gCap, rd_gC, rd_gI, rd_int2b, rd_int1, rd_dget, rd_dput, rd_dnewT, rd_dnewK, rd_truT, rd_forR, rd_for3, rd_lc2, rd_rng2, rd_forET, rd_par, rd_forES, rd_xfld, rd_raiseI, rd_isS, rd_forS, rd_lcS, rd_rep, rd_mkI, rd_mkX, rd_strX]
  refine isxD ha XF rfl kA (isxD ha XF rfl kH (isxD ha XF rfl kP fun p1 hp1 => ?_))
  have s1 := same_new hp1 (.lst [.bl false, .bl true, .bl false])
  have e1 := upd_same (H := H) (a := p1) (o := .lst [.bl false, .bl true, .bl false])
  generalize upd H p1 (.lst [.bl false, .bl true, .bl false]) = H1 at *
  refine isxD (s1 _ _ ha) XF rfl kT (isxD (s1 _ _ ha) XF rfl kW fun p2 hp2 => ?_)
  have s2 := same_new hp2 (.lst [.bl false, .bl false])
  have e2 := upd_same (H := H1) (a := p2) (o := .lst [.bl false, .bl false])
  generalize upd H1 p2 (.lst [.bl false, .bl false]) = H2 at *
  rw [rd_cat (s2 _ _ e1) e2]
  refine ⟨by decide, fun p3 hp3 => ?_⟩
  have s3 := same_new hp3 (.lst ([V.bl false, .bl true, .bl false] ++ [.bl false, .bl false]))
  have e3 := upd_same (H := H2) (a := p3) (o := .lst ([V.bl false, .bl true, .bl false] ++ [.bl false, .bl false]))
  generalize upd H2 p3 (.lst ([V.bl false, .bl true, .bl false] ++ [.bl false, .bl false])) = H3 at *
  have e3 : H3 p3 = some (.lst [.bl false, .bl true, .bl false, .bl false, .bl false]) := e3
  have sH := s1.trans (s2.trans s3)
  refine isxD (sH _ _ ha) XF rfl kJ ⟨true, rfl, ?_⟩
  simp only [rd_seq, rd_next, rd_drop, rd_ret, rd_retN, rd_ifS, rd_asg, rd_gName, rd_gNil, rd_gCons, rd_gTup, rd_gSub, rd_aug, rd_var, rd_C, rd_op, rd_un, rd_nil, rd_cons, rd_tup, rd_lst, rd_call, rd_cb, rd_test, rd_B, rd_and, rd_or, rd_not, rd_andV, rd_orV, rd_notV, rd_ifE, rd_bm0, rd_bm, rd_rv, rd_sl, rd_nopart, rd_part, rd_rI, rd_rI0, rd_rU, rd_ipI, rd_eqI, rd_neI, rd_eqB, rd_neB, rd_eqS, rd_neS, rd_ixU, rd_setU, rd_truL, rd_for1, rd_for2, rd_forL, rd_forT, rd_lc1, rd_lcL, rd_lcT, rd_yes, rd_wipe0, rd_wipe1, rd_rng1, rd_ref1, rd_cxK, rd_cons1, rd_one, at0, at1, at2, at3, at4, ix5_1, ix5_2, ix5_3, upd_upd, rd_bool, rd_some, rd_isv_int_int, rd_isv_int_bool, rd_isv_int_str, rd_isv_int_tuple, rd_isv_int_list, rd_isv_bl_int, rd_isv_bl_bool, rd_isv_bl_str, rd_isv_bl_tuple, rd_isv_bl_list, rd_isv_str_int, rd_isv_str_bool, rd_isv_str_str, rd_isv_str_tuple, rd_isv_str_list, rd_ml0, rd_ml, ln0, ln1, ln2, ln3, ln4, ln5, ln6, ln7, ln8, ln9, ln10, List.getElem?_cons_zero, List.getElem?_cons_succ, List.set_cons_zero, List.set_cons_succ, List.length_cons, List.length_nil, List.cons_append, List.nil_append, List.append_nil, Nat.reduceAdd, true_and, decide_true, decide_false, if_true, Bool.false_eq_true, if_false, Bool.not_true, Bool.not_false, rd_forE, rd_m1, rd_isS, rd_anyS, rd_joinI, rd_sumZ, rd_never, rd_lcZ, rd_min1, rd_sum1, rd_all1, rd_any1, rd_tup1, rd_gnR, rd_gnT, rd_gnL, rd_gLoc, rd_gCap, rd_gC, rd_gI, rd_int2b, rd_int1, rd_dget, rd_dput, rd_dnewT, rd_dnewK, rd_truT, rd_forR, rd_for3, rd_lc2, rd_rng2, rd_forET, rd_par, rd_forES, rd_xfld, rd_raiseI, rd_isS, rd_forS, rd_lcS, rd_rep, rd_mkI, rd_mkX, rd_strX]
  refine isxD (sH _ _ ha) XF rfl kV ⟨true, rfl, ?_⟩
  simp only [rd_seq, rd_next, rd_drop, rd_ret, rd_retN, rd_ifS, rd_asg, rd_gName, rd_gNil, rd_gCons, rd_gTup, rd_gSub, rd_aug, rd_var, rd_C, rd_op, rd_un, rd_nil, rd_cons, rd_tup, rd_lst, rd_call, rd_cb, rd_test, rd_B, rd_and, rd_or, rd_not, rd_andV, rd_orV, rd_notV, rd_ifE, rd_bm0, rd_bm, rd_rv, rd_sl, rd_nopart, rd_part, rd_rI, rd_rI0, rd_rU, rd_ipI, rd_eqI, rd_neI, rd_eqB, rd_neB, rd_eqS, rd_neS, rd_ixU, rd_setU, rd_truL, rd_for1, rd_for2, rd_forL, rd_forT, rd_lc1, rd_lcL, rd_lcT, rd_yes, rd_wipe0, rd_wipe1, rd_rng1, rd_ref1, rd_cxK, rd_cons1, rd_one, at0, at1, at2, at3, at4, ix5_1, ix5_2, ix5_3, upd_upd, rd_bool, rd_some, rd_isv_int_int, rd_isv_int_bool, rd_isv_int_str, rd_isv_int_tuple, rd_isv_int_list, rd_isv_bl_int, rd_isv_bl_bool, rd_isv_bl_str, rd_isv_bl_tuple, rd_isv_bl_list, rd_isv_str_int, rd_isv_str_bool, rd_isv_str_str, rd_isv_str_tuple, rd_isv_str_list, rd_ml0, rd_ml, ln0, ln1, ln2, ln3, ln4, ln5, ln6, ln7, ln8, ln9, ln10, List.getElem?_cons_zero, List.getElem?_cons_succ, List.set_cons_zero, List.set_cons_succ, List.length_cons, List.length_nil, List.cons_append, List.nil_append, List.append_nil, Nat.reduceAdd, true_and, decide_true, decide_false, if_true, Bool.false_eq_true, if_false, Bool.not_true, Bool.not_false, rd_forE, rd_m1, rd_isS, rd_anyS, rd_joinI, rd_sumZ, rd_never, rd_lcZ, rd_min1, rd_sum1, rd_all1, rd_any1, rd_tup1, rd_gnR, rd_gnT, rd_gnL, rd_gLoc, rd_gCap, rd_gC, rd_gI, rd_int2b, rd_int1, rd_dget, rd_dput, rd_dnewT, rd_dnewK, rd_truT, rd_forR, rd_for3, rd_lc2, rd_rng2, rd_forET, rd_par, rd_forES, rd_xfld, rd_raiseI, rd_isS, rd_forS, rd_lcS, rd_rep, rd_mkI, rd_mkX, rd_strX, L3.rd_tyL e3]
  refine ⟨p3, _, _, rfl, rfl, SqL.of e3, rfl, rfl, ?_⟩
  simp only [show List.countP (fun z => eqV z (V.bl true)) [V.bl false, .bl true, .bl false, .bl false, .bl false] = 1 from rfl, show ((1 : Nat) : Int) = 1 from rfl, rd_seq, rd_next, rd_drop, rd_ret, rd_retN, rd_ifS, rd_asg, rd_gName, rd_gNil, rd_gCons, rd_gTup, rd_gSub, rd_aug, rd_var, rd_C, rd_op, rd_un, rd_nil, rd_cons, rd_tup, rd_lst, rd_call, rd_cb, rd_test, rd_B, rd_and, rd_or, rd_not, rd_andV, rd_orV, rd_notV, rd_ifE, rd_bm0, rd_bm, rd_rv, rd_sl, rd_nopart, rd_part, rd_rI, rd_rI0, rd_rU, rd_ipI, rd_eqI, rd_neI, rd_eqB, rd_neB, rd_eqS, rd_neS, rd_ixU, rd_setU, rd_truL, rd_for1, rd_for2, rd_forL, rd_forT, rd_lc1, rd_lcL, rd_lcT, rd_yes, rd_wipe0, rd_wipe1, rd_rng1, rd_ref1, rd_cxK, rd_cons1, rd_one, at0, at1, at2, at3, at4, ix5_1, ix5_2, ix5_3, upd_upd, rd_bool, rd_some, rd_isv_int_int, rd_isv_int_bool, rd_isv_int_str, rd_isv_int_tuple, rd_isv_int_list, rd_isv_bl_int, rd_isv_bl_bool, rd_isv_bl_str, rd_isv_bl_tuple, rd_isv_bl_list, rd_isv_str_int, rd_isv_str_bool, rd_isv_str_str, rd_isv_str_tuple, rd_isv_str_list, rd_ml0, rd_ml, ln0, ln1, ln2, ln3, ln4, ln5, ln6, ln7, ln8, ln9, ln10, List.getElem?_cons_zero, List.getElem?_cons_succ, List.set_cons_zero, List.set_cons_succ, List.length_cons, List.length_nil, List.cons_append, List.nil_append, List.append_nil, Nat.reduceAdd, true_and, decide_true, decide_false, if_true, Bool.false_eq_true, if_false, Bool.not_true, Bool.not_false, rd_forE, rd_m1, rd_isS, rd_anyS, rd_joinI, rd_sumZ, rd_never, rd_lcZ, rd_min1, rd_sum1, rd_all1, rd_any1, rd_tup1, rd_gnR, rd_gnT, rd_gnL, rd_gLoc, rd_gCap, rd_gC, rd_gI, rd_int2b, rd_int1, rd_dget, rd_dput, rd_dnewT, rd_dnewK, rd_truT, rd_forR, rd_for3, rd_lc2, rd_rng2, rd_forET, rd_par, rd_forES, rd_xfld, rd_raiseI, rd_isS, rd_forS, rd_lcS, rd_rep, rd_mkI, rd_mkX, rd_strX, decide_true, Bool.not_true]
  intro p4 hp4
  have s4 := same_new hp4 (.lst [V.str (Str.ofString "ask"), V.str (Str.ofString "heaps"), V.str (Str.ofString "place"), V.str (Str.ofString "tree"), V.str (Str.ofString "word")])
  have e4 := upd_same (H := H3) (a := p4) (o := .lst [V.str (Str.ofString "ask"), V.str (Str.ofString "heaps"), V.str (Str.ofString "place"), V.str (Str.ofString "tree"), V.str (Str.ofString "word")])
  generalize upd H3 p4 (.lst [V.str (Str.ofString "ask"), V.str (Str.ofString "heaps"), V.str (Str.ofString "place"), V.str (Str.ofString "tree"), V.str (Str.ofString "word")]) = H4 at *
  simp only [L3.rd_tyL (s4 _ _ e3), true_and]
  refine ⟨p3, _, _, 1, .bl true, rfl, rfl, SqL.of (s4 _ _ e3), rfl, rfl, rfl, rfl, fun m z' hm hz => ?_, ?_⟩
  · match m, hm with
    | 0, _ => cases hz; rfl
  simp only [rd_ixH e4, show ((1 : Nat) : Int) = 1 from rfl, rd_seq, rd_next, rd_drop, rd_ret, rd_retN, rd_ifS, rd_asg, rd_gName, rd_gNil, rd_gCons, rd_gTup, rd_gSub, rd_aug, rd_var, rd_C, rd_op, rd_un, rd_nil, rd_cons, rd_tup, rd_lst, rd_call, rd_cb, rd_test, rd_B, rd_and, rd_or, rd_not, rd_andV, rd_orV, rd_notV, rd_ifE, rd_bm0, rd_bm, rd_rv, rd_sl, rd_nopart, rd_part, rd_rI, rd_rI0, rd_rU, rd_ipI, rd_eqI, rd_neI, rd_eqB, rd_neB, rd_eqS, rd_neS, rd_ixU, rd_setU, rd_truL, rd_for1, rd_for2, rd_forL, rd_forT, rd_lc1, rd_lcL, rd_lcT, rd_yes, rd_wipe0, rd_wipe1, rd_rng1, rd_ref1, rd_cxK, rd_cons1, rd_one, at0, at1, at2, at3, at4, ix5_1, ix5_2, ix5_3, upd_upd, rd_bool, rd_some, rd_isv_int_int, rd_isv_int_bool, rd_isv_int_str, rd_isv_int_tuple, rd_isv_int_list, rd_isv_bl_int, rd_isv_bl_bool, rd_isv_bl_str, rd_isv_bl_tuple, rd_isv_bl_list, rd_isv_str_int, rd_isv_str_bool, rd_isv_str_str, rd_isv_str_tuple, rd_isv_str_list, rd_ml0, rd_ml, ln0, ln1, ln2, ln3, ln4, ln5, ln6, ln7, ln8, ln9, ln10, List.getElem?_cons_zero, List.getElem?_cons_succ, List.set_cons_zero, List.set_cons_succ, List.length_cons, List.length_nil, List.cons_append, List.nil_append, List.append_nil, Nat.reduceAdd, true_and, decide_true, decide_false, if_true, Bool.false_eq_true, if_false, Bool.not_true, Bool.not_false, rd_forE, rd_m1, rd_isS, rd_anyS, rd_joinI, rd_sumZ, rd_never, rd_lcZ, rd_min1, rd_sum1, rd_all1, rd_any1, rd_tup1, rd_gnR, rd_gnT, rd_gnL, rd_gLoc, rd_gCap, rd_gC, rd_gI, rd_int2b, rd_int1, rd_dget, rd_dput, rd_dnewT, rd_dnewK, rd_truT, rd_forR, rd_for3, rd_lc2, rd_rng2, rd_forET, rd_par, rd_forES, rd_xfld, rd_raiseI, rd_isS, rd_forS, rd_lcS, rd_rep, rd_mkI, rd_mkX, rd_strX]
  intro p5 hp5
  have s5 := same_new hp5 (.tup [V.str (Str.ofString "heaps"), V.str (Str.ofString "word")])
  refine ⟨p5, _, rfl, .inr (SqT.of upd_same), rfl, rfl, ?_⟩
  refine ⟨true, by decide, ?_⟩
  simp only [rd_seq, rd_next, rd_drop, rd_ret, rd_retN, rd_ifS, rd_asg, rd_gName, rd_gNil, rd_gCons, rd_gTup, rd_gSub, rd_aug, rd_var, rd_C, rd_op, rd_un, rd_nil, rd_cons, rd_tup, rd_lst, rd_call, rd_cb, rd_test, rd_B, rd_and, rd_or, rd_not, rd_andV, rd_orV, rd_notV, rd_ifE, rd_bm0, rd_bm, rd_rv, rd_sl, rd_nopart, rd_part, rd_rI, rd_rI0, rd_rU, rd_ipI, rd_eqI, rd_neI, rd_eqB, rd_neB, rd_eqS, rd_neS, rd_ixU, rd_setU, rd_truL, rd_for1, rd_for2, rd_forL, rd_forT, rd_lc1, rd_lcL, rd_lcT, rd_yes, rd_wipe0, rd_wipe1, rd_rng1, rd_ref1, rd_cxK, rd_cons1, rd_one, at0, at1, at2, at3, at4, ix5_1, ix5_2, ix5_3, upd_upd, rd_bool, rd_some, rd_isv_int_int, rd_isv_int_bool, rd_isv_int_str, rd_isv_int_tuple, rd_isv_int_list, rd_isv_bl_int, rd_isv_bl_bool, rd_isv_bl_str, rd_isv_bl_tuple, rd_isv_bl_list, rd_isv_str_int, rd_isv_str_bool, rd_isv_str_str, rd_isv_str_tuple, rd_isv_str_list, rd_ml0, rd_ml, ln0, ln1, ln2, ln3, ln4, ln5, ln6, ln7, ln8, ln9, ln10, List.getElem?_cons_zero, List.getElem?_cons_succ, List.set_cons_zero, List.set_cons_succ, List.length_cons, List.length_nil, List.cons_append, List.nil_append, List.append_nil, Nat.reduceAdd, true_and, decide_true, decide_false, if_true, Bool.false_eq_true, if_false, Bool.not_true, Bool.not_false, rd_forE, rd_m1, rd_isS, rd_anyS, rd_joinI, rd_sumZ, rd_never, rd_lcZ, rd_min1, rd_sum1, rd_all1, rd_any1, rd_tup1, rd_gnR, rd_gnT, rd_gnL, rd_gLoc, rd_gCap, rd_gC, rd_gI, rd_int2b, rd_int1, rd_dget, rd_dput, rd_dnewT, rd_dnewK, rd_truT, rd_forR, rd_for3, rd_lc2, rd_rng2, rd_forET, rd_par, rd_forES, rd_xfld, rd_raiseI, rd_isS, rd_forS, rd_lcS, rd_rep, rd_mkI, rd_mkX, rd_strX]
  have sA := sH.trans (s4.trans s5)
  refine ⟨a, dx, _, .int n, rfl, sA _ _ ha, sA _ _ hd, rfl, ?_⟩
  simp only [rd_seq, rd_next, rd_drop, rd_ret, rd_retN, rd_ifS, rd_asg, rd_gName, rd_gNil, rd_gCons, rd_gTup, rd_gSub, rd_aug, rd_var, rd_C, rd_op, rd_un, rd_nil, rd_cons, rd_tup, rd_lst, rd_call, rd_cb, rd_test, rd_B, rd_and, rd_or, rd_not, rd_andV, rd_orV, rd_notV, rd_ifE, rd_bm0, rd_bm, rd_rv, rd_sl, rd_nopart, rd_part, rd_rI, rd_rI0, rd_rU, rd_ipI, rd_eqI, rd_neI, rd_eqB, rd_neB, rd_eqS, rd_neS, rd_ixU, rd_setU, rd_truL, rd_for1, rd_for2, rd_forL, rd_forT, rd_lc1, rd_lcL, rd_lcT, rd_yes, rd_wipe0, rd_wipe1, rd_rng1, rd_ref1, rd_cxK, rd_cons1, rd_one, at0, at1, at2, at3, at4, ix5_1, ix5_2, ix5_3, upd_upd, rd_bool, rd_some, rd_isv_int_int, rd_isv_int_bool, rd_isv_int_str, rd_isv_int_tuple, rd_isv_int_list, rd_isv_bl_int, rd_isv_bl_bool, rd_isv_bl_str, rd_isv_bl_tuple, rd_isv_bl_list, rd_isv_str_int, rd_isv_str_bool, rd_isv_str_str, rd_isv_str_tuple, rd_isv_str_list, rd_ml0, rd_ml, ln0, ln1, ln2, ln3, ln4, ln5, ln6, ln7, ln8, ln9, ln10, List.getElem?_cons_zero, List.getElem?_cons_succ, List.set_cons_zero, List.set_cons_succ, List.length_cons, List.length_nil, List.cons_append, List.nil_append, List.append_nil, Nat.reduceAdd, true_and, decide_true, decide_false, if_true, Bool.false_eq_true, if_false, Bool.not_true, Bool.not_false, rd_forE, rd_m1, rd_isS, rd_anyS, rd_joinI, rd_sumZ, rd_never, rd_lcZ, rd_min1, rd_sum1, rd_all1, rd_any1, rd_tup1, rd_gnR, rd_gnT, rd_gnL, rd_gLoc, rd_gCap, rd_gC, rd_gI, rd_int2b, rd_int1, rd_dget, rd_dput, rd_dnewT, rd_dnewK, rd_truT, rd_forR, rd_for3, rd_lc2, rd_rng2, rd_forET, rd_par, rd_forES, rd_xfld, rd_raiseI, rd_isS, rd_forS, rd_lcS, rd_rep, rd_mkI, rd_mkX, rd_strX]
  refine ⟨a, dx, _, .int n, rfl, sA _ _ ha, sA _ _ hd, rfl, fun p6 hp6 => ?_⟩
  exact q p6 _ (sA.trans (same_new hp6 _)) upd_same
end
def orSp (a b : Sp) : Sp := fun vs H Q E => a vs H Q E ∨ b vs H Q E
theorem fn_or {P : Program} {w : World} {K : PySem.W.Frag} {mg : Str → Option Value} {base : Heap} {CX : CXT} {k : Nat} {f : Addr} {fd : FuncData} {ps : List Str} {a b : Sp} (x : FnOk P w K mg base CX k f fd ps a) (y : FnOk P w K mg base CX k f fd ps b) : FnOk P w K mg base CX k f fd ps (orSp a b) :=
  ⟨fun vs H Q E h => h.elim (x.len vs H Q E) (y.len vs H Q E), fun A outer s H args us vs Q E hr e bt r h => h.elim (x.run A outer s H args us vs Q E hr e bt r) (y.run A outer s H args us vs Q E hr e bt r)⟩
end Q
set_option Elab.async false
set_option linter.all false
set_option maxRecDepth 100000
set_option maxHeartbeats 4000000
namespace Q
open PySem L2 L3 L4 Dm Tx Bn TL
abbrev s_law_sign : Stmt := top 17
theorem sc_law_sign : FnScope ["deck", "signs"] ["deck"] (defScope s_law_sign) := ⟨rfl, rfl, rfl, by decide +kernel, rfl, by decide +kernel, by decide +kernel⟩
abbrev s_law_due : Stmt := top 19
theorem sc_law_due : FnScope ["text", "found", "place", "word", "number", "figure"] ["text"] (defScope s_law_due) := ⟨rfl, rfl, rfl, by decide +kernel, rfl, by decide +kernel, by decide +kernel⟩
abbrev s_law_is_beyond : Stmt := top 20
theorem sc_law_is_beyond : FnScope ["text", "word", "sign"] ["text"] (defScope s_law_is_beyond) := ⟨rfl, rfl, rfl, by decide +kernel, rfl, by decide +kernel, by decide +kernel⟩
def spSign : Sp := fun vs H Q _ => ∃ (D : Addr) (c : Nat), vs = [.ref D] ∧ Dk H D c ∧ c < 2 ^ 45 ∧ ∀ (y : Str) H', y.length = 1 → Kp D H H' → Dk H' D (c + 3) → Q (.str y) H'
def Due (H : Hp) (x : Str) (l : Addr) : Prop := ((∀ z ∈ wds x, wn z = true) ∧ H l = some (.tup ((vls (wds x)).map V.int))) ∨ ∃ (i : Nat) (z : Str), (wds x)[i]? = some z ∧ wn z = false ∧ (∀ j y, j < i → (wds x)[j]? = some y → wn y = true) ∧ H l = some (.tup [.str "heaps", .int i])
def spDue : Sp := fun vs H Q _ => ∃ x : Str, vs = [.str x] ∧ x.length ≤ 20000 ∧ ∀ (l : Addr) H', Same H H' → Due H' x l → Q (.ref l) H'
def spBey : Sp := fun vs H Q _ => ∃ x : Str, vs = [.str x] ∧ x.length ≤ 20000 ∧ (∀ H', Same H H' → Q (.bl true) H') ∧ ((∀ z ∈ Txt.split x bl, wn z = true → z.length ≤ 12) → ∀ H', Same H H' → Q (.bl false) H')
theorem cut1 (z : Str) : tl (cutS z none (some 1)) = (tl z).take 1 := by
  show (((z.cps.toList.drop (HT.sIx z.length 0 none)).take (HT.sIx z.length z.length (some 1) - HT.sIx z.length 0 none)).toArray).toList = z.cps.toList.take 1
  rw [HT.sIx_none, show (some (1 : Int)) = some ((1 : Nat) : Int) from rfl, HT.sIx_nat, List.drop_zero, Nat.sub_zero]
  have hl : z.length = z.cps.toList.length := by simp [Str.length]
  rcases Nat.le_total 1 z.length with h | h
  · rw [Nat.min_eq_left h]
  · rw [Nat.min_eq_right h, hl, List.take_of_length_le (Nat.le_refl _), List.take_of_length_le (by omega)]
theorem cut0 (z : Str) : cutS z none (some 1) = "0" ↔ (tl z).head? = some 48 := by
  constructor
  · intro h
    have := congrArg tl h
    rw [cut1, tl_0] at this
    cases e : tl z with
    | nil => rw [e] at this; simp at this
    | cons a r => rw [e] at this; simp at this; rw [this]; rfl
  · intro h
    apply tl_inj
    rw [cut1, tl_0]
    cases e : tl z with
    | nil => rw [e] at h; cases h
    | cons a r => rw [e] at h; simp at h; rw [h]; rfl
section
variable {P : Program} {w : World} {K : PySem.W.Frag} {mg : Str → Option Value} {base : Heap} {f : Addr} {fd : FuncData}
theorem ok_sign (F : Fun K "_law_sign" "_law_sign" s_law_sign f fd) (T : Bt mg) (D_law_next : Def P w K mg base 2 "_law_next" ["deck", "many"] spNext) : FnOk P w K mg base CX0 3 f fd ["deck"] spSign := by
  refine F.ok sc_law_sign (fun vs H Q E h => ?_) (fun cdv A outer s H vs Q E hr h => ?_)
  · obtain ⟨D, c, rfl, _⟩ := h
    rfl
  obtain ⟨D, c, rfl, hD, hc, q⟩ := h
  refine ⟨_, (pss_cons (ps_set (i := 1) sc_law_sign.nd rfl (by first | exact Or.inl rfl | exact Or.inr rfl) pe_str)
    (pss_one (ps_ret (pe_ix ix_H (pe_lst (pa_cons (pe_ix ix_str (pv 1) (pe_callD D_law_next (hr.mono (by omega)) (by rfl) (pa_cons (pv 0) (pa_cons (pe_callB call_len_str (by rfl) T.len (by decide +kernel) (pa_cons (pv 1) pa_nil)) pa_nil))) (fun _ _ => rfl)) (pa_cons (pe_ix ix_str pe_str (pe_callD D_law_next (hr.mono (by omega)) (by rfl) (pa_cons (pv 0) (pa_cons pe_int pa_nil))) (fun _ _ => rfl)) pa_nil))) (pe_callD D_law_next (hr.mono (by omega)) (by rfl) (pa_cons (pv 0) (pa_cons pe_int pa_nil))) (fun _ _ => rfl))))), ?_⟩
  rw [show start ["deck", "signs"] [V.ref D] = [some (V.ref D), none] from rfl]
  simp only [rd_seq, rd_next, rd_drop, rd_ret, rd_retN, rd_ifS, rd_asg, rd_gName, rd_gNil, rd_gCons, rd_gTup, rd_gSub, rd_aug, rd_var, rd_C, rd_op, rd_un, rd_nil, rd_cons, rd_tup, rd_lst, rd_call, rd_cb, rd_test, rd_B, rd_and, rd_or, rd_not, rd_andV, rd_orV, rd_notV, rd_ifE, rd_bm0, rd_bm, rd_rv, rd_sl, rd_nopart, rd_part, rd_rI, rd_rI0, rd_rU, rd_ipI, rd_eqI, rd_neI, rd_eqB, rd_neB, rd_eqS, rd_neS, rd_ixU, rd_setU, rd_truL, rd_for1, rd_for2, rd_forL, rd_forT, rd_lc1, rd_lcL, rd_lcT, rd_yes, rd_wipe0, rd_wipe1, rd_rng1, rd_ref1, rd_cxK, rd_cons1, rd_one, at0, at1, at2, at3, at4, ix5_1, ix5_2, ix5_3, upd_upd, rd_bool, rd_some, rd_isv_int_int, rd_isv_int_bool, rd_isv_int_str, rd_isv_int_tuple, rd_isv_int_list, rd_isv_bl_int, rd_isv_bl_bool, rd_isv_bl_str, rd_isv_bl_tuple, rd_isv_bl_list, rd_isv_str_int, rd_isv_str_bool, rd_isv_str_str, rd_isv_str_tuple, rd_isv_str_list, rd_ml0, rd_ml, ln0, ln1, ln2, ln3, ln4, ln5, ln6, ln7, ln8, ln9, ln10, List.getElem?_cons_zero, List.getElem?_cons_succ, List.set_cons_zero, List.set_cons_succ, List.length_cons, List.length_nil, List.cons_append, List.nil_append, List.append_nil, Nat.reduceAdd, true_and, decide_true, decide_false, if_true, Bool.false_eq_true, if_false, Bool.not_true, Bool.not_false, rd_forE, rd_m1, rd_isS, rd_anyS, rd_joinI, rd_sumZ, rd_never, rd_lcZ, rd_min1, rd_sum1, rd_all1, rd_any1, rd_tup1, rd_gnR, rd_gnT, rd_gnL, rd_gLoc, rd_gCap, rd_gC, rd_gI, rd_int2b, rd_int1, rd_dget, rd_dput, rd_dnewT, rd_dnewK, rd_truT, rd_forR, rd_for3, rd_lc2, rd_rng2, rd_forET, rd_par, rd_forES, rd_xfld, rd_raiseI, rd_isS, rd_forS, rd_lcS, rd_rep, rd_mkI, rd_mkX, rd_strX]
  have sl : (25000 : Nat) ≤ sizeLine := by decide
  have hs0 : (Str.ofString " !\"#$&'()*+,-./0123456789:;<=>?@ABCDEFGHIJKLMNOPQRSTUVWXYZ[\\]^_`abcdefghijklmnopqrstuvwxyz{|}~\n").length = 95 := by decide +kernel
  generalize hsg : Str.ofString " !\"#$&'()*+,-./0123456789:;<=>?@ABCDEFGHIJKLMNOPQRSTUVWXYZ[\\]^_`abcdefghijklmnopqrstuvwxyz{|}~\n" = sg at *
  refine ⟨sg, rfl, by omega, D, _, _, rfl, hD, by omega, by omega, by omega, fun r1 H1 x1 y1 k1 d1 => ?_⟩
  obtain ⟨cs, hcs, _⟩ := atI_in (xs := sg.cps.toList) x1 (by have : sg.cps.toList.length = sg.length := by simp [Str.length]
                                                             omega)
  refine ⟨sg, r1, cs, rfl, rfl, by omega, hcs, D, 12, _, rfl, d1, by omega, by decide, by decide, fun r2 H2 x2 y2 k2 d2 => ?_⟩
  have l12 : (Str.ofString "0123456789 -").cps.toList.length = 12 := by decide +kernel
  obtain ⟨c2, hc2, _⟩ := atI_in (xs := (Str.ofString "0123456789 -").cps.toList) x2 (by omega)
  refine ⟨_, r2, c2, rfl, rfl, by decide, hc2, fun p hp => ?_⟩
  have sp := same_new hp (.lst [V.str ⟨#[cs]⟩, V.str ⟨#[c2]⟩])
  have ep := upd_same (H := H2) (a := p) (o := .lst [V.str ⟨#[cs]⟩, V.str ⟨#[c2]⟩])
  refine ⟨D, 2, _, rfl, d2.same sp, by omega, by decide, by decide, fun r3 H3 x3 y3 k3 d3 => ?_⟩
  have e3 := k3.keep p _ ep (d2.nd hp)
  dsimp only
  rw [rd_ixH e3]
  obtain ⟨v, hv, hm⟩ := atI_in (xs := [V.str ⟨#[cs]⟩, V.str ⟨#[c2]⟩]) x3 (by simpa using y3)
  refine ⟨v, hv, ?_⟩
  have kk := ((k1.trans k2).trans (same_kp sp)).trans k3
  simp only [List.mem_cons, List.not_mem_nil, or_false] at hm
  rcases hm with rfl | rfl
  · exact q _ _ rfl kk d3
  · exact q _ _ rfl kk d3
theorem ok_due (F : Fun K "_law_due" "_law_due" s_law_due f fd) (T : Bt mg) : FnOk P w K mg base CX0 1 f fd ["text"] spDue := by
  refine F.ok sc_law_due (fun vs H Q E h => ?_) (fun cdv A outer s H vs Q E hr h => ?_)
  · obtain ⟨x, rfl, _⟩ := h
    rfl
  obtain ⟨x, rfl, hx, q⟩ := h
  refine ⟨_, (pss_cons (ps_set (i := 1) sc_law_due.nd rfl (by first | exact Or.inl rfl | exact Or.inr rfl) (pe_lst pa_nil))
    (pss_cons (ps_if (pt_cmpR op_eq (pv 0) pe_str (nomark _)) (pss_one (ps_ret (pe_tup pa_nil))) pss_nil)
    (pss_cons (ps_for PassesOwn.never rfl (pi_enum (by rfl) T.enumerate (pa_cons (pe_split (pv 0) pe_str) pa_nil)) (pg_tupH (n := 2) rfl (pgs_cons (pg_name (i := 2) sc_law_due.nd rfl (by first | exact Or.inl rfl | exact Or.inr rfl)) (pgs_cons (pg_name (i := 3) sc_law_due.nd rfl (by first | exact Or.inl rfl | exact Or.inr rfl)) pgs_nil))) (pss_cons (ps_set (i := 4) sc_law_due.nd rfl (by first | exact Or.inl rfl | exact Or.inr rfl) pe_int)
    (pss_cons (ps_for PassesOwn.never rfl (pi_str (pv 3)) (pg_name (i := 5) sc_law_due.nd rfl (by first | exact Or.inl rfl | exact Or.inr rfl)) (pss_cons (ps_if (pt_cmpR op_notIn_sign (pv 5) pe_str (by rfl)) (pss_one (ps_ret (pe_tup (pa_cons pe_str (pa_cons (pv 2) pa_nil))))) pss_nil)
    (pss_one (ps_set (i := 4) sc_law_due.nd rfl (by first | exact Or.inl rfl | exact Or.inr rfl) (pe_op op_add (pe_op op_mul (pv 4) pe_int) (pe_m1 PySem.F.slot_str_find PySem.F.type_str_find mt_find pe_str (pv 5)))))))
    (pss_cons (ps_if (PW.pt (pw_or (pt_cmpR op_eq (pv 3) pe_str (nomark _)) (pw_or1 (PW.pt (pw_and (pt_cmpR op_eq (pe_slice sl_str (pv 3) po_none (po_some pe_int)) pe_str (nomark _)) (pw_and1 (pt_cmpR op_gt (pe_callB call_len_str (by rfl) T.len (by decide +kernel) (pa_cons (pv 3) pa_nil)) pe_int (nomark _)))))))) (pss_one (ps_ret (pe_tup (pa_cons pe_str (pa_cons (pv 2) pa_nil))))) pss_nil)
    (pss_one (ps_expr (pe_ml PySem.F.slot_list_append PySem.F.type_list_append mt_append (pv 1) (pa_cons (pv 4) pa_nil))))))))
    (pss_one (ps_ret (pe_callTy call_tupL (by rfl) T.tuple_ (by decide +kernel) (pa_cons (pv 1) pa_nil))))))), ?_⟩
  rw [show start ["text", "found", "place", "word", "number", "figure"] [V.str x] = [some (V.str x), none, none, none, none, none] from rfl]
  simp only [rd_seq, rd_next, rd_drop, rd_ret, rd_retN, rd_ifS, rd_asg, rd_gName, rd_gNil, rd_gCons, rd_gTup, rd_gSub, rd_aug, rd_var, rd_C, rd_op, rd_un, rd_nil, rd_cons, rd_tup, rd_lst, rd_call, rd_cb, rd_test, rd_B, rd_and, rd_or, rd_not, rd_andV, rd_orV, rd_notV, rd_ifE, rd_bm0, rd_bm, rd_rv, rd_sl, rd_nopart, rd_part, rd_rI, rd_rI0, rd_rU, rd_ipI, rd_eqI, rd_neI, rd_eqB, rd_neB, rd_eqS, rd_neS, rd_ixU, rd_setU, rd_truL, rd_for1, rd_for2, rd_forL, rd_forT, rd_lc1, rd_lcL, rd_lcT, rd_yes, rd_wipe0, rd_wipe1, rd_rng1, rd_ref1, rd_cxK, rd_cons1, rd_one, at0, at1, at2, at3, at4, ix5_1, ix5_2, ix5_3, upd_upd, rd_bool, rd_some, rd_isv_int_int, rd_isv_int_bool, rd_isv_int_str, rd_isv_int_tuple, rd_isv_int_list, rd_isv_bl_int, rd_isv_bl_bool, rd_isv_bl_str, rd_isv_bl_tuple, rd_isv_bl_list, rd_isv_str_int, rd_isv_str_bool, rd_isv_str_str, rd_isv_str_tuple, rd_isv_str_list, rd_ml0, rd_ml, ln0, ln1, ln2, ln3, ln4, ln5, ln6, ln7, ln8, ln9, ln10, List.getElem?_cons_zero, List.getElem?_cons_succ, List.set_cons_zero, List.set_cons_succ, List.length_cons, List.length_nil, List.cons_append, List.nil_append, List.append_nil, Nat.reduceAdd, true_and, decide_true, decide_false, if_true, Bool.false_eq_true, if_false, Bool.not_true, Bool.not_false, rd_forE, rd_m1, rd_isS, rd_anyS, rd_joinI, rd_sumZ, rd_never, rd_lcZ, rd_min1, rd_sum1, rd_all1, rd_any1, rd_tup1, rd_gnR, rd_gnT, rd_gnL, rd_gLoc, rd_gCap, rd_gC, rd_gI, rd_int2b, rd_int1, rd_dget, rd_dput, rd_dnewT, rd_dnewK, rd_truT, rd_forR, rd_for3, rd_lc2, rd_rng2, rd_forET, rd_par, rd_forES, rd_xfld, rd_raiseI, rd_isS, rd_forS, rd_lcS, rd_rep, rd_mkI, rd_mkX, rd_strX]
  have sl : (25000 : Nat) ≤ sizeLine := by decide
  intro p hp
  have sp := same_new hp (.lst [])
  by_cases hne : x = ""
  · rw [if_pos (decide_eq_true hne)]
    have e : wds x = [] := by unfold wds; rw [if_pos hne]
    intro l hl
    exact q l _ (sp.trans (same_new hl _)) (.inl ⟨fun z hz => absurd hz (by rw [e]; simp), by rw [upd_same, e]; rfl⟩)
  rw [if_neg (by rw [decide_eq_false hne]; decide)]
  have ew : wds x = Txt.split x bl := by unfold wds; rw [if_neg hne]
  have hlen := split_len x
  have hmem := split_mem x
  refine ⟨_, _, rfl, rfl, by decide +kernel, by omega, ?_⟩
  rw [show Txt.split x (Str.ofString " ") = wds x from ew.symm]
  rw [← ew] at hlen hmem
  intro l hl
  have s2 := same_new hl (.lst ((wds x).map V.str))
  have hpl : l ≠ p := fun e => by rw [e, upd_same] at hl; cases hl
  refine ⟨l, _, rfl, SqL.of upd_same, ?_⟩
  refine forW_enum (xs := (wds x).map V.str) (fun i σ G => ∃ b2 b3 b4 b5, σ = [some (.str x), some (.ref p), b2, b3, b4, b5] ∧ G p = some (.lst ((vls ((wds x).take i)).map V.int)) ∧ G l = some (.lst ((wds x).map V.str)) ∧ Same H G ∧ ∀ j y, j < i → (wds x)[j]? = some y → wn y = true) ⟨_, _, _, _, rfl, s2 _ _ upd_same, upd_same, sp.trans s2, fun j y h => absurd h (Nat.not_lt_zero _)⟩ (fun i σ G _ h => by obtain ⟨_, _, _, _, _, _, h, _⟩ := h; exact h) ?_ ?_
  · rintro i v σ G T0 hv ⟨b2, b3, b4, b5, rfl, gp, gl, sg, hok⟩ hT0
    rw [List.getElem?_map] at hv
    obtain ⟨z, hz, rfl⟩ := Option.map_eq_some_iff.mp hv
    have hlt : i < (wds x).length := (List.getElem?_eq_some_iff.mp hz).1
    have hzl := hmem z (List.mem_of_getElem? hz)
    have sT := same_new hT0 (.tup [.int (i : Nat), .str z])
    have sg1 := sg.trans sT
    have gp1 := sT _ _ gp
    have gl1 := sT _ _ gl
    simp only [rd_gTupH upd_same, rd_seq, rd_next, rd_drop, rd_ret, rd_retN, rd_ifS, rd_asg, rd_gName, rd_gNil, rd_gCons, rd_gTup, rd_gSub, rd_aug, rd_var, rd_C, rd_op, rd_un, rd_nil, rd_cons, rd_tup, rd_lst, rd_call, rd_cb, rd_test, rd_B, rd_and, rd_or, rd_not, rd_andV, rd_orV, rd_notV, rd_ifE, rd_bm0, rd_bm, rd_rv, rd_sl, rd_nopart, rd_part, rd_rI, rd_rI0, rd_rU, rd_ipI, rd_eqI, rd_neI, rd_eqB, rd_neB, rd_eqS, rd_neS, rd_ixU, rd_setU, rd_truL, rd_for1, rd_for2, rd_forL, rd_forT, rd_lc1, rd_lcL, rd_lcT, rd_yes, rd_wipe0, rd_wipe1, rd_rng1, rd_ref1, rd_cxK, rd_cons1, rd_one, at0, at1, at2, at3, at4, ix5_1, ix5_2, ix5_3, upd_upd, rd_bool, rd_some, rd_isv_int_int, rd_isv_int_bool, rd_isv_int_str, rd_isv_int_tuple, rd_isv_int_list, rd_isv_bl_int, rd_isv_bl_bool, rd_isv_bl_str, rd_isv_bl_tuple, rd_isv_bl_list, rd_isv_str_int, rd_isv_str_bool, rd_isv_str_str, rd_isv_str_tuple, rd_isv_str_list, rd_ml0, rd_ml, ln0, ln1, ln2, ln3, ln4, ln5, ln6, ln7, ln8, ln9, ln10, List.getElem?_cons_zero, List.getElem?_cons_succ, List.set_cons_zero, List.set_cons_succ, List.length_cons, List.length_nil, List.cons_append, List.nil_append, List.append_nil, Nat.reduceAdd, true_and, decide_true, decide_false, if_true, Bool.false_eq_true, if_false, Bool.not_true, Bool.not_false, rd_forE, rd_m1, rd_isS, rd_anyS, rd_joinI, rd_sumZ, rd_never, rd_lcZ, rd_min1, rd_sum1, rd_all1, rd_any1, rd_tup1, rd_gnR, rd_gnT, rd_gnL, rd_gLoc, rd_gCap, rd_gC, rd_gI, rd_int2b, rd_int1, rd_dget, rd_dput, rd_dnewT, rd_dnewK, rd_truT, rd_forR, rd_for3, rd_lc2, rd_rng2, rd_forET, rd_par, rd_forES, rd_xfld, rd_raiseI, rd_isS, rd_forS, rd_lcS, rd_rep, rd_mkI, rd_mkX, rd_strX]
    generalize upd G T0 (.tup [.int (i : Nat), .str z]) = G1 at *
    have bad : wn z = false → ∀ (t0 : Addr), G1 t0 = none → Q (.ref t0) (upd G1 t0 (.tup [.str (Str.ofString "heaps"), .int (i : Nat)])) := fun hw t0 ht0 => q t0 _ (sg1.trans (same_new ht0 _)) (.inr ⟨i, z, hz, hw, hok, upd_same⟩)
    have nodg : ∀ c, c ∈ tl z → ¬ c ∈ tl figs → wn z = false := fun c hc hn => by
      cases hw : wn z with
      | false => rfl
      | true =>
        have := ((wn_iff z).mp hw).2.1 c hc
        exact absurd ((in_figs c).mpr this) hn
    refine ⟨z, rfl, ?_⟩
    refine forW_str (fun k σ G2 => ∃ b5, σ = [some (.str x), some (.ref p), some (.int (i : Nat)), some (.str z), some (.int ((vl ((tl z).take k) : Nat) : Int)), b5] ∧ G2 = G1 ∧ dgs ((tl z).take k)) ⟨_, rfl, rfl, fun c hc => absurd hc (by simp)⟩ ?_ ?_
    · rintro k c σ G2 hc ⟨b5, rfl, rfl, hd⟩
      have hcl : (tl z)[k]? = some c := by show z.cps.toList[k]? = _; rw [Array.getElem?_toList]; exact hc
      simp only [rd_seq, rd_next, rd_drop, rd_ret, rd_retN, rd_ifS, rd_asg, rd_gName, rd_gNil, rd_gCons, rd_gTup, rd_gSub, rd_aug, rd_var, rd_C, rd_op, rd_un, rd_nil, rd_cons, rd_tup, rd_lst, rd_call, rd_cb, rd_test, rd_B, rd_and, rd_or, rd_not, rd_andV, rd_orV, rd_notV, rd_ifE, rd_bm0, rd_bm, rd_rv, rd_sl, rd_nopart, rd_part, rd_rI, rd_rI0, rd_rU, rd_ipI, rd_eqI, rd_neI, rd_eqB, rd_neB, rd_eqS, rd_neS, rd_ixU, rd_setU, rd_truL, rd_for1, rd_for2, rd_forL, rd_forT, rd_lc1, rd_lcL, rd_lcT, rd_yes, rd_wipe0, rd_wipe1, rd_rng1, rd_ref1, rd_cxK, rd_cons1, rd_one, at0, at1, at2, at3, at4, ix5_1, ix5_2, ix5_3, upd_upd, rd_bool, rd_some, rd_isv_int_int, rd_isv_int_bool, rd_isv_int_str, rd_isv_int_tuple, rd_isv_int_list, rd_isv_bl_int, rd_isv_bl_bool, rd_isv_bl_str, rd_isv_bl_tuple, rd_isv_bl_list, rd_isv_str_int, rd_isv_str_bool, rd_isv_str_str, rd_isv_str_tuple, rd_isv_str_list, rd_ml0, rd_ml, ln0, ln1, ln2, ln3, ln4, ln5, ln6, ln7, ln8, ln9, ln10, List.getElem?_cons_zero, List.getElem?_cons_succ, List.set_cons_zero, List.set_cons_succ, List.length_cons, List.length_nil, List.cons_append, List.nil_append, List.append_nil, Nat.reduceAdd, true_and, decide_true, decide_false, if_true, Bool.false_eq_true, if_false, Bool.not_true, Bool.not_false, rd_forE, rd_m1, rd_isS, rd_anyS, rd_joinI, rd_sumZ, rd_never, rd_lcZ, rd_min1, rd_sum1, rd_all1, rd_any1, rd_tup1, rd_gnR, rd_gnT, rd_gnL, rd_gLoc, rd_gCap, rd_gC, rd_gI, rd_int2b, rd_int1, rd_dget, rd_dput, rd_dnewT, rd_dnewK, rd_truT, rd_forR, rd_for3, rd_lc2, rd_rng2, rd_forET, rd_par, rd_forES, rd_xfld, rd_raiseI, rd_isS, rd_forS, rd_lcS, rd_rep, rd_mkI, rd_mkX, rd_strX]
      refine ⟨c, _, rfl, rfl, ite2 (fun hn => ?_) fun hy => ?_⟩
      · have hn : ¬ c ∈ tl figs := by simpa using hn
        exact bad (nodg c (List.mem_of_getElem? hcl) hn)
      · have hy : c ∈ tl figs := by simpa using hy
        refine ⟨.inr ⟨by decide, by decide⟩, _, _, rfl, rfl, ?_⟩
        rw [show Txt.find (Str.ofString "0123456789") ⟨#[c]⟩ = ((c - 48 : Nat) : Int) from find_fig c hy]
        have ev : ((vl ((tl z).take (k + 1)) : Nat) : Int) = ((vl ((tl z).take k) : Nat) : Int) * 10 + ((c - 48 : Nat) : Int) := by
          rw [List.take_succ, hcl]
          show ((vl ((tl z).take k ++ [c]) : Nat) : Int) = _
          rw [vl_snoc]; omega
        rw [← ev]
        refine ⟨_, rfl, fun c' hc' => ?_⟩
        · rw [List.take_succ, hcl] at hc'
          rcases List.mem_append.mp hc' with e | e
          · exact hd c' e
          · have e : c' = c := by simpa using e
            rw [e]; exact (in_figs c).mp hy
    · rintro σ G2 ⟨b5, rfl, rfl, hd⟩
      have hall : (tl z).take z.cps.size = tl z := List.take_of_length_le (by show z.cps.toList.length ≤ _; simp)
      rw [hall] at hd ⊢
      simp only [rd_seq, rd_next, rd_drop, rd_ret, rd_retN, rd_ifS, rd_asg, rd_gName, rd_gNil, rd_gCons, rd_gTup, rd_gSub, rd_aug, rd_var, rd_C, rd_op, rd_un, rd_nil, rd_cons, rd_tup, rd_lst, rd_call, rd_cb, rd_test, rd_B, rd_and, rd_or, rd_not, rd_andV, rd_orV, rd_notV, rd_ifE, rd_bm0, rd_bm, rd_rv, rd_sl, rd_nopart, rd_part, rd_rI, rd_rI0, rd_rU, rd_ipI, rd_eqI, rd_neI, rd_eqB, rd_neB, rd_eqS, rd_neS, rd_ixU, rd_setU, rd_truL, rd_for1, rd_for2, rd_forL, rd_forT, rd_lc1, rd_lcL, rd_lcT, rd_yes, rd_wipe0, rd_wipe1, rd_rng1, rd_ref1, rd_cxK, rd_cons1, rd_one, at0, at1, at2, at3, at4, ix5_1, ix5_2, ix5_3, upd_upd, rd_bool, rd_some, rd_isv_int_int, rd_isv_int_bool, rd_isv_int_str, rd_isv_int_tuple, rd_isv_int_list, rd_isv_bl_int, rd_isv_bl_bool, rd_isv_bl_str, rd_isv_bl_tuple, rd_isv_bl_list, rd_isv_str_int, rd_isv_str_bool, rd_isv_str_str, rd_isv_str_tuple, rd_isv_str_list, rd_ml0, rd_ml, ln0, ln1, ln2, ln3, ln4, ln5, ln6, ln7, ln8, ln9, ln10, List.getElem?_cons_zero, List.getElem?_cons_succ, List.set_cons_zero, List.set_cons_succ, List.length_cons, List.length_nil, List.cons_append, List.nil_append, List.append_nil, Nat.reduceAdd, true_and, decide_true, decide_false, if_true, Bool.false_eq_true, if_false, Bool.not_true, Bool.not_false, rd_forE, rd_m1, rd_isS, rd_anyS, rd_joinI, rd_sumZ, rd_never, rd_lcZ, rd_min1, rd_sum1, rd_all1, rd_any1, rd_tup1, rd_gnR, rd_gnT, rd_gnL, rd_gLoc, rd_gCap, rd_gC, rd_gI, rd_int2b, rd_int1, rd_dget, rd_dput, rd_dnewT, rd_dnewK, rd_truT, rd_forR, rd_for3, rd_lc2, rd_rng2, rd_forET, rd_par, rd_forES, rd_xfld, rd_raiseI, rd_isS, rd_forS, rd_lcS, rd_rep, rd_mkI, rd_mkX, rd_strX]
      have ze : z = "" ↔ tl z = [] := ⟨fun h => by rw [h, tl_e], fun h => tl_inj (by rw [h, tl_e])⟩
      have hzt : z.length = (tl z).length := len_tl z
      have good : wn z = true → rAppend (.ref p) [.int ((vl (tl z) : Nat) : Int)] G2 fun _ H1 => ∃ b2 b3 b4 b5', [some (V.str x), some (V.ref p), some (V.int (i : Nat)), some (V.str z), some (V.int ((vl (tl z) : Nat) : Int)), b5] = [some (V.str x), some (V.ref p), b2, b3, b4, b5'] ∧ H1 p = some (.lst ((vls ((wds x).take (i + 1))).map V.int)) ∧ H1 l = some (.lst ((wds x).map V.str)) ∧ Same H H1 ∧ ∀ j y, j < i + 1 → (wds x)[j]? = some y → wn y = true := fun hw => by
        rw [rd_append gp1]
        refine ⟨small100k (by unfold vls; rw [List.length_map, List.length_map, List.length_take]; omega), _, _, _, _, rfl, ?_, upd_at hpl gl1, same_own sg1 hp _, fun j y hj hy => ?_⟩
        · rw [upd_same, List.take_succ, hz]
          unfold vls
          simp
        · by_cases e : j = i
          · subst e; rw [hz] at hy; cases hy; exact hw
          · exact hok j y (by omega) hy
      refine ite2 (fun c1 => ?_) fun c1 => ?_
      · have c1 : z = "" := of_decide_eq_true c1
        exact bad (by rw [c1]; rfl)
      · have c1 : ¬ z = "" := fun e => c1 (decide_eq_true e)
        have hne2 : tl z ≠ [] := fun e => c1 (ze.mpr e)
        refine ⟨z, rfl, by omega, ?_⟩
        simp only [rd_seq, rd_next, rd_drop, rd_ret, rd_retN, rd_ifS, rd_asg, rd_gName, rd_gNil, rd_gCons, rd_gTup, rd_gSub, rd_aug, rd_var, rd_C, rd_op, rd_un, rd_nil, rd_cons, rd_tup, rd_lst, rd_call, rd_cb, rd_test, rd_B, rd_and, rd_or, rd_not, rd_andV, rd_orV, rd_notV, rd_ifE, rd_bm0, rd_bm, rd_rv, rd_sl, rd_nopart, rd_part, rd_rI, rd_rI0, rd_rU, rd_ipI, rd_eqI, rd_neI, rd_eqB, rd_neB, rd_eqS, rd_neS, rd_ixU, rd_setU, rd_truL, rd_for1, rd_for2, rd_forL, rd_forT, rd_lc1, rd_lcL, rd_lcT, rd_yes, rd_wipe0, rd_wipe1, rd_rng1, rd_ref1, rd_cxK, rd_cons1, rd_one, at0, at1, at2, at3, at4, ix5_1, ix5_2, ix5_3, upd_upd, rd_bool, rd_some, rd_isv_int_int, rd_isv_int_bool, rd_isv_int_str, rd_isv_int_tuple, rd_isv_int_list, rd_isv_bl_int, rd_isv_bl_bool, rd_isv_bl_str, rd_isv_bl_tuple, rd_isv_bl_list, rd_isv_str_int, rd_isv_str_bool, rd_isv_str_str, rd_isv_str_tuple, rd_isv_str_list, rd_ml0, rd_ml, ln0, ln1, ln2, ln3, ln4, ln5, ln6, ln7, ln8, ln9, ln10, List.getElem?_cons_zero, List.getElem?_cons_succ, List.set_cons_zero, List.set_cons_succ, List.length_cons, List.length_nil, List.cons_append, List.nil_append, List.append_nil, Nat.reduceAdd, true_and, decide_true, decide_false, if_true, Bool.false_eq_true, if_false, Bool.not_true, Bool.not_false, rd_forE, rd_m1, rd_isS, rd_anyS, rd_joinI, rd_sumZ, rd_never, rd_lcZ, rd_min1, rd_sum1, rd_all1, rd_any1, rd_tup1, rd_gnR, rd_gnT, rd_gnL, rd_gLoc, rd_gCap, rd_gC, rd_gI, rd_int2b, rd_int1, rd_dget, rd_dput, rd_dnewT, rd_dnewK, rd_truT, rd_forR, rd_for3, rd_lc2, rd_rng2, rd_forET, rd_par, rd_forES, rd_xfld, rd_raiseI, rd_isS, rd_forS, rd_lcS, rd_rep, rd_mkI, rd_mkX, rd_strX]
        refine ite2 (fun c2 => ?_) fun c2 => ?_
        · have c2 := (cut0 z).mp (of_decide_eq_true c2)
          refine ⟨z, rfl, by omega, ite2 (fun c3 => ?_) fun c3 => ?_⟩
          · have c3 : (1 : Int) < (z.length : Nat) := of_decide_eq_true c3
            refine bad (Bool.eq_false_iff.mpr fun hw => ?_)
            rcases ((wn_iff z).mp hw).2.2 with e | e
            · exact e c2
            · omega
          · have c3 : ¬ (1 : Int) < (z.length : Nat) := fun h => c3 (decide_eq_true h)
            have h1 : 1 ≤ (tl z).length := by
              cases e : tl z with
              | nil => exact absurd e hne2
              | cons a r => simp
            exact ⟨⟨p, _, rfl, gp1⟩, good ((wn_iff z).mpr ⟨hne2, hd, .inr (by omega)⟩)⟩
        · have c2 : ¬ (tl z).head? = some 48 := fun e => c2 (decide_eq_true ((cut0 z).mpr e))
          exact ⟨⟨p, _, rfl, gp1⟩, good ((wn_iff z).mpr ⟨hne2, hd, .inl c2⟩)⟩
  · rintro σ G ⟨b2, b3, b4, b5, rfl, gp, gl, sg, hok⟩
    simp only [rd_seq, rd_next, rd_drop, rd_ret, rd_retN, rd_ifS, rd_asg, rd_gName, rd_gNil, rd_gCons, rd_gTup, rd_gSub, rd_aug, rd_var, rd_C, rd_op, rd_un, rd_nil, rd_cons, rd_tup, rd_lst, rd_call, rd_cb, rd_test, rd_B, rd_and, rd_or, rd_not, rd_andV, rd_orV, rd_notV, rd_ifE, rd_bm0, rd_bm, rd_rv, rd_sl, rd_nopart, rd_part, rd_rI, rd_rI0, rd_rU, rd_ipI, rd_eqI, rd_neI, rd_eqB, rd_neB, rd_eqS, rd_neS, rd_ixU, rd_setU, rd_truL, rd_for1, rd_for2, rd_forL, rd_forT, rd_lc1, rd_lcL, rd_lcT, rd_yes, rd_wipe0, rd_wipe1, rd_rng1, rd_ref1, rd_cxK, rd_cons1, rd_one, at0, at1, at2, at3, at4, ix5_1, ix5_2, ix5_3, upd_upd, rd_bool, rd_some, rd_isv_int_int, rd_isv_int_bool, rd_isv_int_str, rd_isv_int_tuple, rd_isv_int_list, rd_isv_bl_int, rd_isv_bl_bool, rd_isv_bl_str, rd_isv_bl_tuple, rd_isv_bl_list, rd_isv_str_int, rd_isv_str_bool, rd_isv_str_str, rd_isv_str_tuple, rd_isv_str_list, rd_ml0, rd_ml, ln0, ln1, ln2, ln3, ln4, ln5, ln6, ln7, ln8, ln9, ln10, List.getElem?_cons_zero, List.getElem?_cons_succ, List.set_cons_zero, List.set_cons_succ, List.length_cons, List.length_nil, List.cons_append, List.nil_append, List.append_nil, Nat.reduceAdd, true_and, decide_true, decide_false, if_true, Bool.false_eq_true, if_false, Bool.not_true, Bool.not_false, rd_forE, rd_m1, rd_isS, rd_anyS, rd_joinI, rd_sumZ, rd_never, rd_lcZ, rd_min1, rd_sum1, rd_all1, rd_any1, rd_tup1, rd_gnR, rd_gnT, rd_gnL, rd_gLoc, rd_gCap, rd_gC, rd_gI, rd_int2b, rd_int1, rd_dget, rd_dput, rd_dnewT, rd_dnewK, rd_truT, rd_forR, rd_for3, rd_lc2, rd_rng2, rd_forET, rd_par, rd_forES, rd_xfld, rd_raiseI, rd_isS, rd_forS, rd_lcS, rd_rep, rd_mkI, rd_mkX, rd_strX, rd_tupL gp]
    intro t ht
    refine q t _ (sg.trans (same_new ht _)) (.inl ⟨fun z hz => ?_, ?_⟩)
    · obtain ⟨j, hj⟩ := List.mem_iff_getElem?.mp hz
      exact hok j z (by rw [List.length_map]; exact (List.getElem?_eq_some_iff.mp hj).1) hj
    · rw [upd_same, List.length_map, List.take_length]
theorem ok_bey (F : Fun K "_law_is_beyond" "_law_is_beyond" s_law_is_beyond f fd) (T : Bt mg) : FnOk P w K mg base CX0 1 f fd ["text"] spBey := by
  refine F.ok sc_law_is_beyond (fun vs H Q E h => ?_) (fun cdv A outer s H vs Q E hr h => ?_)
  · obtain ⟨x, rfl, _⟩ := h
    rfl
  obtain ⟨x, rfl, hx, qt, qf⟩ := h
  refine ⟨_, (pss_cons (ps_for PassesOwn.never rfl (pi_list (pe_split (pv 0) pe_str)) (pg_name (i := 1) sc_law_is_beyond.nd rfl (by first | exact Or.inl rfl | exact Or.inr rfl)) (pss_one (ps_if (PW.pt (pw_and (pt_cmpR op_gt (pe_callB call_len_str (by rfl) T.len (by decide +kernel) (pa_cons (pv 1) pa_nil)) pe_int (nomark _)) (pw_and1 (pt_cmpR (op_eqNil hr.units) (pe_lc (own := [("sign", 2)]) (g := gName 2) (by rfl) sc_law_is_beyond.nd (pi_str (pv 1)) (blkOk_by (own := [("sign", 2)]) (N := ["text", "word", "sign"]) (sc := defScope s_law_is_beyond) (by decide +kernel)) (fun _ _ _ _ _ => pg_name (i := 2) sc_law_is_beyond.nd rfl (Or.inl rfl)) (fun _ _ _ _ _ => (pts_one (pt_cmpR op_notIn_sign (pv 2) pe_str (by rfl)))) (fun _ _ _ _ _ => (pv 2))) (pe_lst pa_nil) (nomark _))))) (pss_one (ps_ret pe_bl)) pss_nil)))
    (pss_one (ps_ret pe_bl))), ?_⟩
  rw [show start ["text", "word", "sign"] [V.str x] = [some (V.str x), none, none] from rfl]
  simp only [rd_seq, rd_next, rd_drop, rd_ret, rd_retN, rd_ifS, rd_asg, rd_gName, rd_gNil, rd_gCons, rd_gTup, rd_gSub, rd_aug, rd_var, rd_C, rd_op, rd_un, rd_nil, rd_cons, rd_tup, rd_lst, rd_call, rd_cb, rd_test, rd_B, rd_and, rd_or, rd_not, rd_andV, rd_orV, rd_notV, rd_ifE, rd_bm0, rd_bm, rd_rv, rd_sl, rd_nopart, rd_part, rd_rI, rd_rI0, rd_rU, rd_ipI, rd_eqI, rd_neI, rd_eqB, rd_neB, rd_eqS, rd_neS, rd_ixU, rd_setU, rd_truL, rd_for1, rd_for2, rd_forL, rd_forT, rd_lc1, rd_lcL, rd_lcT, rd_yes, rd_wipe0, rd_wipe1, rd_rng1, rd_ref1, rd_cxK, rd_cons1, rd_one, at0, at1, at2, at3, at4, ix5_1, ix5_2, ix5_3, upd_upd, rd_bool, rd_some, rd_isv_int_int, rd_isv_int_bool, rd_isv_int_str, rd_isv_int_tuple, rd_isv_int_list, rd_isv_bl_int, rd_isv_bl_bool, rd_isv_bl_str, rd_isv_bl_tuple, rd_isv_bl_list, rd_isv_str_int, rd_isv_str_bool, rd_isv_str_str, rd_isv_str_tuple, rd_isv_str_list, rd_ml0, rd_ml, ln0, ln1, ln2, ln3, ln4, ln5, ln6, ln7, ln8, ln9, ln10, List.getElem?_cons_zero, List.getElem?_cons_succ, List.set_cons_zero, List.set_cons_succ, List.length_cons, List.length_nil, List.cons_append, List.nil_append, List.append_nil, Nat.reduceAdd, true_and, decide_true, decide_false, if_true, Bool.false_eq_true, if_false, Bool.not_true, Bool.not_false, rd_forE, rd_m1, rd_isS, rd_anyS, rd_joinI, rd_sumZ, rd_never, rd_lcZ, rd_min1, rd_sum1, rd_all1, rd_any1, rd_tup1, rd_gnR, rd_gnT, rd_gnL, rd_gLoc, rd_gCap, rd_gC, rd_gI, rd_int2b, rd_int1, rd_dget, rd_dput, rd_dnewT, rd_dnewK, rd_truT, rd_forR, rd_for3, rd_lc2, rd_rng2, rd_forET, rd_par, rd_forES, rd_xfld, rd_raiseI, rd_isS, rd_forS, rd_lcS, rd_rep, rd_mkI, rd_mkX, rd_strX]
  have sl : (25000 : Nat) ≤ sizeLine := by decide
  have hmem := split_mem x
  refine ⟨_, _, rfl, rfl, by decide +kernel, by omega, fun l hl => ?_⟩
  rw [show Txt.split x (Str.ofString " ") = Txt.split x bl from rfl]
  generalize Txt.split x bl = ws at *
  have sl2 := same_new hl (.lst (ws.map V.str))
  refine ⟨l, rfl, ⟨_, SqL.of upd_same⟩, ?_⟩
  refine forW_list (xs := ws.map V.str) (fun i σ G => ∃ b1 b2, σ = [some (.str x), b1, b2] ∧ G l = some (.lst (ws.map V.str)) ∧ Same H G ∧ ∀ j y, j < i → ws[j]? = some y → wn y = true → y.length ≤ 12) ⟨_, _, rfl, upd_same, sl2, fun j y h => absurd h (Nat.not_lt_zero _)⟩ (fun i σ G _ h => by obtain ⟨_, _, _, h, _⟩ := h; exact h) ?_ ?_
  · rintro i v σ G hv ⟨b1, b2, rfl, gl, sg, hok⟩
    rw [List.getElem?_map] at hv
    obtain ⟨z, hz, rfl⟩ := Option.map_eq_some_iff.mp hv
    have hzl := hmem z (List.mem_of_getElem? hz)
    have on : (wn z = true → z.length ≤ 12) → ∀ j y, j < i + 1 → ws[j]? = some y → wn y = true → y.length ≤ 12 := fun h j y hj hy hw => by
      by_cases e : j = i
      · subst e; rw [hz] at hy; cases hy; exact h hw
      · exact hok j y (by omega) hy hw
    simp only [rd_seq, rd_next, rd_drop, rd_ret, rd_retN, rd_ifS, rd_asg, rd_gName, rd_gNil, rd_gCons, rd_gTup, rd_gSub, rd_aug, rd_var, rd_C, rd_op, rd_un, rd_nil, rd_cons, rd_tup, rd_lst, rd_call, rd_cb, rd_test, rd_B, rd_and, rd_or, rd_not, rd_andV, rd_orV, rd_notV, rd_ifE, rd_bm0, rd_bm, rd_rv, rd_sl, rd_nopart, rd_part, rd_rI, rd_rI0, rd_rU, rd_ipI, rd_eqI, rd_neI, rd_eqB, rd_neB, rd_eqS, rd_neS, rd_ixU, rd_setU, rd_truL, rd_for1, rd_for2, rd_forL, rd_forT, rd_lc1, rd_lcL, rd_lcT, rd_yes, rd_wipe0, rd_wipe1, rd_rng1, rd_ref1, rd_cxK, rd_cons1, rd_one, at0, at1, at2, at3, at4, ix5_1, ix5_2, ix5_3, upd_upd, rd_bool, rd_some, rd_isv_int_int, rd_isv_int_bool, rd_isv_int_str, rd_isv_int_tuple, rd_isv_int_list, rd_isv_bl_int, rd_isv_bl_bool, rd_isv_bl_str, rd_isv_bl_tuple, rd_isv_bl_list, rd_isv_str_int, rd_isv_str_bool, rd_isv_str_str, rd_isv_str_tuple, rd_isv_str_list, rd_ml0, rd_ml, ln0, ln1, ln2, ln3, ln4, ln5, ln6, ln7, ln8, ln9, ln10, List.getElem?_cons_zero, List.getElem?_cons_succ, List.set_cons_zero, List.set_cons_succ, List.length_cons, List.length_nil, List.cons_append, List.nil_append, List.append_nil, Nat.reduceAdd, true_and, decide_true, decide_false, if_true, Bool.false_eq_true, if_false, Bool.not_true, Bool.not_false, rd_forE, rd_m1, rd_isS, rd_anyS, rd_joinI, rd_sumZ, rd_never, rd_lcZ, rd_min1, rd_sum1, rd_all1, rd_any1, rd_tup1, rd_gnR, rd_gnT, rd_gnL, rd_gLoc, rd_gCap, rd_gC, rd_gI, rd_int2b, rd_int1, rd_dget, rd_dput, rd_dnewT, rd_dnewK, rd_truT, rd_forR, rd_for3, rd_lc2, rd_rng2, rd_forET, rd_par, rd_forES, rd_xfld, rd_raiseI, rd_isS, rd_forS, rd_lcS, rd_rep, rd_mkI, rd_mkX, rd_strX]
    refine ⟨z, rfl, by omega, ite2 (fun c1 => ?_) fun c1 => ?_⟩
    · have c1 : (12 : Int) < (z.length : Nat) := of_decide_eq_true c1
      refine ⟨z, rfl, fun N hN => ?_⟩
      have sN := same_new hN (.lst [])
      refine lcW_str (fun k G2 => ∃ ys : List V, Same G G2 ∧ G2 N = some (.lst ys) ∧ ys.length ≤ k ∧ (ys ≠ [] → wn z = false)) ⟨[], sN, upd_same, Nat.le_refl _, fun h => absurd rfl h⟩ ?_ ?_
      · rintro k c G2 hc ⟨ys, s2, g2, h2, h3⟩
        have hk : k < z.cps.size := (Array.getElem?_eq_some_iff.mp hc).1
        have hkz : z.cps.size = z.length := rfl
        have hcl : (tl z)[k]? = some c := by show z.cps.toList[k]? = _; rw [Array.getElem?_toList]; exact hc
        rw [List.map_cons, List.map_nil]
        simp only [rd_seq, rd_next, rd_drop, rd_ret, rd_retN, rd_ifS, rd_asg, rd_gName, rd_gNil, rd_gCons, rd_gTup, rd_gSub, rd_aug, rd_var, rd_C, rd_op, rd_un, rd_nil, rd_cons, rd_tup, rd_lst, rd_call, rd_cb, rd_test, rd_B, rd_and, rd_or, rd_not, rd_andV, rd_orV, rd_notV, rd_ifE, rd_bm0, rd_bm, rd_rv, rd_sl, rd_nopart, rd_part, rd_rI, rd_rI0, rd_rU, rd_ipI, rd_eqI, rd_neI, rd_eqB, rd_neB, rd_eqS, rd_neS, rd_ixU, rd_setU, rd_truL, rd_for1, rd_for2, rd_forL, rd_forT, rd_lc1, rd_lcL, rd_lcT, rd_yes, rd_wipe0, rd_wipe1, rd_rng1, rd_ref1, rd_cxK, rd_cons1, rd_one, at0, at1, at2, at3, at4, ix5_1, ix5_2, ix5_3, upd_upd, rd_bool, rd_some, rd_isv_int_int, rd_isv_int_bool, rd_isv_int_str, rd_isv_int_tuple, rd_isv_int_list, rd_isv_bl_int, rd_isv_bl_bool, rd_isv_bl_str, rd_isv_bl_tuple, rd_isv_bl_list, rd_isv_str_int, rd_isv_str_bool, rd_isv_str_str, rd_isv_str_tuple, rd_isv_str_list, rd_ml0, rd_ml, ln0, ln1, ln2, ln3, ln4, ln5, ln6, ln7, ln8, ln9, ln10, List.getElem?_cons_zero, List.getElem?_cons_succ, List.set_cons_zero, List.set_cons_succ, List.length_cons, List.length_nil, List.cons_append, List.nil_append, List.append_nil, Nat.reduceAdd, true_and, decide_true, decide_false, if_true, Bool.false_eq_true, if_false, Bool.not_true, Bool.not_false, rd_forE, rd_m1, rd_isS, rd_anyS, rd_joinI, rd_sumZ, rd_never, rd_lcZ, rd_min1, rd_sum1, rd_all1, rd_any1, rd_tup1, rd_gnR, rd_gnT, rd_gnL, rd_gLoc, rd_gCap, rd_gC, rd_gI, rd_int2b, rd_int1, rd_dget, rd_dput, rd_dnewT, rd_dnewK, rd_truT, rd_forR, rd_for3, rd_lc2, rd_rng2, rd_forET, rd_par, rd_forES, rd_xfld, rd_raiseI, rd_isS, rd_forS, rd_lcS, rd_rep, rd_mkI, rd_mkX, rd_strX]
        refine ⟨c, _, rfl, rfl, ite2 (fun hn => ?_) fun hy => ?_⟩
        · exact ⟨ys, g2, by omega, ys ++ [_], same_own s2 hN _, upd_same, by simp; omega, fun _ => by
            have hn : ¬ c ∈ tl figs := by simpa using hn
            refine Bool.eq_false_iff.mpr fun hw => hn ((in_figs c).mpr (((wn_iff z).mp hw).2.1 c (List.mem_of_getElem? hcl)))⟩
        · exact ⟨ys, s2, g2, by omega, h3⟩
      · rintro G2 ⟨ys, s2, g2, h2, h3⟩ pe hpe
        have se := same_new hpe (.lst [])
        refine ⟨N, pe, ys, rfl, rfl, SqL.of (se _ _ g2), SqL.of upd_same, _, rfl, ?_⟩
        have sA := sg.trans (s2.trans se)
        cases hys : ys.isEmpty with
        | true =>
          rw [if_pos rfl]
          exact qt _ sA
        | false =>
          rw [if_neg (by decide)]
          refine ⟨_, _, rfl, se _ _ (s2 _ _ gl), sA, on fun hw => ?_⟩
          rw [h3 (fun e => by rw [e] at hys; cases hys)] at hw
          cases hw
    · have c1 : ¬ (12 : Int) < (z.length : Nat) := fun h => c1 (decide_eq_true h)
      exact ⟨_, _, rfl, gl, sg, on fun _ => by omega⟩
  · rintro σ G ⟨b1, b2, rfl, gl, sg, hok⟩
    simp only [rd_seq, rd_next, rd_drop, rd_ret, rd_retN, rd_ifS, rd_asg, rd_gName, rd_gNil, rd_gCons, rd_gTup, rd_gSub, rd_aug, rd_var, rd_C, rd_op, rd_un, rd_nil, rd_cons, rd_tup, rd_lst, rd_call, rd_cb, rd_test, rd_B, rd_and, rd_or, rd_not, rd_andV, rd_orV, rd_notV, rd_ifE, rd_bm0, rd_bm, rd_rv, rd_sl, rd_nopart, rd_part, rd_rI, rd_rI0, rd_rU, rd_ipI, rd_eqI, rd_neI, rd_eqB, rd_neB, rd_eqS, rd_neS, rd_ixU, rd_setU, rd_truL, rd_for1, rd_for2, rd_forL, rd_forT, rd_lc1, rd_lcL, rd_lcT, rd_yes, rd_wipe0, rd_wipe1, rd_rng1, rd_ref1, rd_cxK, rd_cons1, rd_one, at0, at1, at2, at3, at4, ix5_1, ix5_2, ix5_3, upd_upd, rd_bool, rd_some, rd_isv_int_int, rd_isv_int_bool, rd_isv_int_str, rd_isv_int_tuple, rd_isv_int_list, rd_isv_bl_int, rd_isv_bl_bool, rd_isv_bl_str, rd_isv_bl_tuple, rd_isv_bl_list, rd_isv_str_int, rd_isv_str_bool, rd_isv_str_str, rd_isv_str_tuple, rd_isv_str_list, rd_ml0, rd_ml, ln0, ln1, ln2, ln3, ln4, ln5, ln6, ln7, ln8, ln9, ln10, List.getElem?_cons_zero, List.getElem?_cons_succ, List.set_cons_zero, List.set_cons_succ, List.length_cons, List.length_nil, List.cons_append, List.nil_append, List.append_nil, Nat.reduceAdd, true_and, decide_true, decide_false, if_true, Bool.false_eq_true, if_false, Bool.not_true, Bool.not_false, rd_forE, rd_m1, rd_isS, rd_anyS, rd_joinI, rd_sumZ, rd_never, rd_lcZ, rd_min1, rd_sum1, rd_all1, rd_any1, rd_tup1, rd_gnR, rd_gnT, rd_gnL, rd_gLoc, rd_gCap, rd_gC, rd_gI, rd_int2b, rd_int1, rd_dget, rd_dput, rd_dnewT, rd_dnewK, rd_truT, rd_forR, rd_for3, rd_lc2, rd_rng2, rd_forET, rd_par, rd_forES, rd_xfld, rd_raiseI, rd_isS, rd_forS, rd_lcS, rd_rep, rd_mkI, rd_mkX, rd_strX]
    refine qf (fun z hz hw => ?_) _ sg
    obtain ⟨j, hj⟩ := List.mem_iff_getElem?.mp hz
    exact hok j z (by rw [List.length_map]; exact (List.getElem?_eq_some_iff.mp hj).1) hj hw
end
end Q
set_option Elab.async false
set_option linter.all false
set_option maxRecDepth 100000
set_option maxHeartbeats 4000000
namespace Q
open PySem L2 L3 L4 Dm Tx Bn TL
abbrev s_law_right : Stmt := top 21
theorem sc_law_right : FnScope ["text", "due", "refused", "again", "found", "caught", "e"] ["text"] (defScope s_law_right) := ⟨rfl, rfl, rfl, by decide +kernel, rfl, by decide +kernel, by decide +kernel⟩
theorem Due.same {H H' : Hp} {x : Str} {l : Addr} (h : Due H x l) (s : Fg H H') : Due H' x l := by
  rcases h with ⟨h1, h2⟩ | ⟨i, z, h1, h2, h3, h4⟩
  · exact .inl ⟨h1, s.tp _ _ h2⟩
  · exact .inr ⟨i, z, h1, h2, h3, s.tp _ _ h4⟩
theorem eq_str1 {K : PySem.W.Frag} {H : Hp} {l a : Addr} {z : Str} {Q : VK} (hz : PyData.strOk z = true) (h : H l = some (.tup [.str z])) (h' : H a = some (.tup [.str z])) (q : Q (.bl true) H) : rEqD K (.ref l) (.ref a) H Q :=
  eq_strs (zs := [z]) (fun y hy => by rw [List.mem_singleton] at hy; subst hy; exact hz) h h' q
def spRight (P1 : Addr) : Sp := fun vs H Q _ => ∃ x : Str, vs = [.str x] ∧ Tb P1 H ∧ x.length ≤ 20000 ∧ ∀ H', Fg H H' → Q (.bl true) H'
section
variable {P : Program} {w : World} {K : PySem.W.Frag} {mg : Str → Option Value} {base : Heap} {f NH JE P1 NW : Addr} {fd : FuncData}
theorem ok_right (F : Fun K "_law_right" "_law_right" s_law_right f fd) (T : Bt mg) (gJoinError : mg "JoinError" = some (.ref JE)) (hit : PySem.W.exmOne K (.ref NH) (.ref JE) = some true) (D_law_kind : Def P w K mg base 1 "_law_kind" ["caught"] (orSp (spKindH NH) (spKindW NW))) (Dread_heaps : DefX P w K mg base 3 "read_heaps" ["text"] (spRead NH P1)) (D_law_due : Def P w K mg base 1 "_law_due" ["text"] spDue) (D_law_is_beyond : Def P w K mg base 1 "_law_is_beyond" ["text"] spBey) : FnOk P w K mg base CX0 4 f fd ["text"] (spRight P1) := by
  refine F.ok sc_law_right (fun vs H Q E h => ?_) (fun cdv A outer s H vs Q E hr h => ?_)
  · obtain ⟨x, rfl, _⟩ := h
    rfl
  obtain ⟨x, rfl, hT, hx, q⟩ := h
  refine ⟨_, (pss_cons (ps_set (i := 1) sc_law_right.nd rfl (by first | exact Or.inl rfl | exact Or.inr rfl) (pe_callD D_law_due (hr.mono (by omega)) (by rfl) (pa_cons (pv 0) pa_nil)))
    (pss_cons (ps_set (i := 2) sc_law_right.nd rfl (by first | exact Or.inl rfl | exact Or.inr rfl) (pe_cmpR (op_eqD hr.units) (pe_slice sl_tupA (pv 1) po_none (po_some pe_int)) (pe_tup (pa_cons pe_str pa_nil)) (nomark _)))
    (pss_cons (ps_if (PW.pt (pw_or (pt_val (pe_callD D_law_is_beyond (hr.mono (by omega)) (by rfl) (pa_cons (pv 0) pa_nil))) (pw_or1 (pt_cmpR op_gt (pe_callB call_lenH (by rfl) T.len (by decide +kernel) (pa_cons (pe_split (pv 0) pe_str) pa_nil)) pe_int (nomark _))))) (pss_one (ps_ret pe_bl)) pss_nil)
    (pss_cons (ps_for PassesOwn.never rfl (pi_range1 (by rfl) T.range (pa_cons pe_int pa_nil)) (pg_name (i := 3) sc_law_right.nd rfl (by first | exact Or.inl rfl | exact Or.inr rfl)) (pss_cons (ps_set (i := 4) sc_law_right.nd rfl (by first | exact Or.inl rfl | exact Or.inr rfl) pe_non)
    (pss_cons (ps_set (i := 5) sc_law_right.nd rfl (by first | exact Or.inl rfl | exact Or.inr rfl) pe_non)
    (pss_cons (ps_tryAs (ie := 6) rfl rfl (by rfl) gJoinError sc_law_right.nd rfl rfl (fun pn xe Ex hx => (pss_one (ps_set (i := 4) sc_law_right.nd rfl (by first | exact Or.inl rfl | exact Or.inr rfl) (pe_callX hx Dread_heaps (hr.mono (by omega)) (by rfl) (pa_cons (pv 0) pa_nil))))) (fun _ => (pss_one (ps_set (i := 5) sc_law_right.nd rfl (by first | exact Or.inl rfl | exact Or.inr rfl) (pv 6)))))
    (pss_cons (ps_if (PW.pt (pw_and (pt_val (pv 2)) (pw_and1 (PW.pt (pw_or (pt_cmpR op_isN (pv 5) pe_non (nomark _)) (pw_or1 (pt_cmpR (op_neD hr.units) (pe_callD D_law_kind (hr.mono (by omega)) (by rfl) (pa_cons (pv 5) pa_nil)) (pv 1) (nomark _)))))))) (pss_one (ps_ret pe_bl)) pss_nil)
    (pss_one (ps_if (PW.pt (pw_and (pt_not (pt_val (pv 2))) (pw_and1 (PW.pt (pw_or (pt_not (pt_val (pe_callB call_isv (by rfl) T.isinstance (by decide +kernel) (pa_cons (pv 4) (pa_cons (pe_bltn (v := .ty "tuple") (by rfl) T.tuple_ (by decide +kernel) rfl) pa_nil))))) (pw_or1 (pt_cmpR (op_neD hr.units) (pv 4) (pv 1) (nomark _)))))))) (pss_one (ps_ret pe_bl)) pss_nil)))))))
    (pss_one (ps_ret pe_bl)))))), ?_⟩
  rw [show start ["text", "due", "refused", "again", "found", "caught", "e"] [V.str x] = [some (V.str x), none, none, none, none, none, none] from rfl]
  simp only [rd_seq, rd_next, rd_drop, rd_ret, rd_retN, rd_ifS, rd_asg, rd_gName, rd_gNil, rd_gCons, rd_gTup, rd_gSub, rd_aug, rd_var, rd_C, rd_op, rd_un, rd_nil, rd_cons, rd_tup, rd_lst, rd_call, rd_cb, rd_test, rd_B, rd_and, rd_or, rd_not, rd_andV, rd_orV, rd_notV, rd_ifE, rd_bm0, rd_bm, rd_rv, rd_sl, rd_nopart, rd_part, rd_rI, rd_rI0, rd_rU, rd_ipI, rd_eqI, rd_neI, rd_eqB, rd_neB, rd_eqS, rd_neS, rd_ixU, rd_setU, rd_truL, rd_for1, rd_for2, rd_forL, rd_forT, rd_lc1, rd_lcL, rd_lcT, rd_yes, rd_wipe0, rd_wipe1, rd_rng1, rd_ref1, rd_cxK, rd_cons1, rd_one, at0, at1, at2, at3, at4, ix5_1, ix5_2, ix5_3, upd_upd, rd_bool, rd_some, rd_isv_int_int, rd_isv_int_bool, rd_isv_int_str, rd_isv_int_tuple, rd_isv_int_list, rd_isv_bl_int, rd_isv_bl_bool, rd_isv_bl_str, rd_isv_bl_tuple, rd_isv_bl_list, rd_isv_str_int, rd_isv_str_bool, rd_isv_str_str, rd_isv_str_tuple, rd_isv_str_list, rd_ml0, rd_ml, ln0, ln1, ln2, ln3, ln4, ln5, ln6, ln7, ln8, ln9, ln10, List.getElem?_cons_zero, List.getElem?_cons_succ, List.set_cons_zero, List.set_cons_succ, List.length_cons, List.length_nil, List.cons_append, List.nil_append, List.append_nil, Nat.reduceAdd, true_and, decide_true, decide_false, if_true, Bool.false_eq_true, if_false, Bool.not_true, Bool.not_false, rd_forE, rd_m1, rd_isS, rd_anyS, rd_joinI, rd_sumZ, rd_never, rd_lcZ, rd_min1, rd_sum1, rd_all1, rd_any1, rd_tup1, rd_gnR, rd_gnT, rd_gnL, rd_gLoc, rd_gCap, rd_gC, rd_gI, rd_int2b, rd_int1, rd_dget, rd_dput, rd_dnewT, rd_dnewK, rd_truT, rd_forR, rd_for3, rd_lc2, rd_rng2, rd_forET, rd_par, rd_forES, rd_xfld, rd_raiseI, rd_isS, rd_forS, rd_lcS, rd_rep, rd_mkI, rd_mkX, rd_strX, rd_tryAs, rd_callX]
  have sl : (25000 : Nat) ≤ sizeLine := by decide
  have hhe : PyData.strOk (Str.ofString "heaps") = true := by decide +kernel
  refine ⟨x, rfl, hx, fun d H1 s1 hd => ?_⟩
  rcases hd with ⟨hg, hd1⟩ | ⟨i0, z, hz, hwz, hb0, hd1⟩
  · refine ⟨d, _, rfl, hd1, fun c H2 s2 hc t2 ht2 => ?_⟩
    rw [cut1_ints] at hc
    have hd2 := hd1
    have s3 := same_new ht2 (.tup [.str (Str.ofString "heaps")])
    refine eq_is hhe (s3 _ _ hc) upd_same ?_
    have sB := s1.trans (s2.trans s3)
    have d3 := (s2.trans s3) _ _ hd2
    generalize upd H2 t2 (.tup [.str (Str.ofString "heaps")]) = G3 at *
    refine ⟨x, rfl, hx, fun G4 s4 => ⟨true, rfl, ?_⟩, fun h12 G4 s4 => ⟨false, rfl, ?_⟩⟩
    · rw [if_pos rfl]
      exact q _ (Fg.of (sB.trans s4))
    rw [if_neg (by decide)]
    refine ⟨_, _, rfl, rfl, by decide +kernel, by omega, fun l hl => ?_⟩
    have s5 := same_new hl (.lst ((Txt.split x (Str.ofString " ")).map V.str))
    simp only [rd_lenH upd_same, rd_seq, rd_next, rd_drop, rd_ret, rd_retN, rd_ifS, rd_asg, rd_gName, rd_gNil, rd_gCons, rd_gTup, rd_gSub, rd_aug, rd_var, rd_C, rd_op, rd_un, rd_nil, rd_cons, rd_tup, rd_lst, rd_call, rd_cb, rd_test, rd_B, rd_and, rd_or, rd_not, rd_andV, rd_orV, rd_notV, rd_ifE, rd_bm0, rd_bm, rd_rv, rd_sl, rd_nopart, rd_part, rd_rI, rd_rI0, rd_rU, rd_ipI, rd_eqI, rd_neI, rd_eqB, rd_neB, rd_eqS, rd_neS, rd_ixU, rd_setU, rd_truL, rd_for1, rd_for2, rd_forL, rd_forT, rd_lc1, rd_lcL, rd_lcT, rd_yes, rd_wipe0, rd_wipe1, rd_rng1, rd_ref1, rd_cxK, rd_cons1, rd_one, at0, at1, at2, at3, at4, ix5_1, ix5_2, ix5_3, upd_upd, rd_bool, rd_some, rd_isv_int_int, rd_isv_int_bool, rd_isv_int_str, rd_isv_int_tuple, rd_isv_int_list, rd_isv_bl_int, rd_isv_bl_bool, rd_isv_bl_str, rd_isv_bl_tuple, rd_isv_bl_list, rd_isv_str_int, rd_isv_str_bool, rd_isv_str_str, rd_isv_str_tuple, rd_isv_str_list, rd_ml0, rd_ml, ln0, ln1, ln2, ln3, ln4, ln5, ln6, ln7, ln8, ln9, ln10, List.getElem?_cons_zero, List.getElem?_cons_succ, List.set_cons_zero, List.set_cons_succ, List.length_cons, List.length_nil, List.cons_append, List.nil_append, List.append_nil, Nat.reduceAdd, true_and, decide_true, decide_false, if_true, Bool.false_eq_true, if_false, Bool.not_true, Bool.not_false, rd_forE, rd_m1, rd_isS, rd_anyS, rd_joinI, rd_sumZ, rd_never, rd_lcZ, rd_min1, rd_sum1, rd_all1, rd_any1, rd_tup1, rd_gnR, rd_gnT, rd_gnL, rd_gLoc, rd_gCap, rd_gC, rd_gI, rd_int2b, rd_int1, rd_dget, rd_dput, rd_dnewT, rd_dnewK, rd_truT, rd_forR, rd_for3, rd_lc2, rd_rng2, rd_forET, rd_par, rd_forES, rd_xfld, rd_raiseI, rd_isS, rd_forS, rd_lcS, rd_rep, rd_mkI, rd_mkX, rd_strX]
    have hsp : Txt.split x (Str.ofString " ") = Txt.split x bl := rfl
    rw [hsp] at s5 ⊢
    have sC := sB.trans (s4.trans s5)
    have d5 := (s4.trans s5) _ _ d3
    generalize upd G4 l (.lst ((Txt.split x bl).map V.str)) = G5 at *
    refine ite2 (fun c => q _ (Fg.of sC)) fun c => ?_
    have c : ¬ (24 : Int) < (((Txt.split x bl).map V.str).length : Nat) := fun h => c (decide_eq_true h)
    rw [List.length_map] at c
    refine ⟨by decide, by decide, ?_⟩
    refine forW_range (fun i σ G => ∃ (a3 a4 a5 a6 : Option V), σ = [some (.str x), some (.ref d), some (.bl false), a3, a4, a5, a6] ∧ Fg H G ∧ G d = some (.tup ((vls (wds x)).map V.int))) ⟨_, _, _, _, rfl, Fg.of sC, d5⟩ ?_ ?_
    · rintro i σ G hi ⟨a3, a4, a5, a6, rfl, fg, gd⟩
      simp only [rd_seq, rd_next, rd_drop, rd_ret, rd_retN, rd_ifS, rd_asg, rd_gName, rd_gNil, rd_gCons, rd_gTup, rd_gSub, rd_aug, rd_var, rd_C, rd_op, rd_un, rd_nil, rd_cons, rd_tup, rd_lst, rd_call, rd_cb, rd_test, rd_B, rd_and, rd_or, rd_not, rd_andV, rd_orV, rd_notV, rd_ifE, rd_bm0, rd_bm, rd_rv, rd_sl, rd_nopart, rd_part, rd_rI, rd_rI0, rd_rU, rd_ipI, rd_eqI, rd_neI, rd_eqB, rd_neB, rd_eqS, rd_neS, rd_ixU, rd_setU, rd_truL, rd_for1, rd_for2, rd_forL, rd_forT, rd_lc1, rd_lcL, rd_lcT, rd_yes, rd_wipe0, rd_wipe1, rd_rng1, rd_ref1, rd_cxK, rd_cons1, rd_one, at0, at1, at2, at3, at4, ix5_1, ix5_2, ix5_3, upd_upd, rd_bool, rd_some, rd_isv_int_int, rd_isv_int_bool, rd_isv_int_str, rd_isv_int_tuple, rd_isv_int_list, rd_isv_bl_int, rd_isv_bl_bool, rd_isv_bl_str, rd_isv_bl_tuple, rd_isv_bl_list, rd_isv_str_int, rd_isv_str_bool, rd_isv_str_str, rd_isv_str_tuple, rd_isv_str_list, rd_ml0, rd_ml, ln0, ln1, ln2, ln3, ln4, ln5, ln6, ln7, ln8, ln9, ln10, List.getElem?_cons_zero, List.getElem?_cons_succ, List.set_cons_zero, List.set_cons_succ, List.length_cons, List.length_nil, List.cons_append, List.nil_append, List.append_nil, Nat.reduceAdd, true_and, decide_true, decide_false, if_true, Bool.false_eq_true, if_false, Bool.not_true, Bool.not_false, rd_forE, rd_m1, rd_isS, rd_anyS, rd_joinI, rd_sumZ, rd_never, rd_lcZ, rd_min1, rd_sum1, rd_all1, rd_any1, rd_tup1, rd_gnR, rd_gnT, rd_gnL, rd_gLoc, rd_gCap, rd_gC, rd_gI, rd_int2b, rd_int1, rd_dget, rd_dput, rd_dnewT, rd_dnewK, rd_truT, rd_forR, rd_for3, rd_lc2, rd_rng2, rd_forET, rd_par, rd_forES, rd_xfld, rd_raiseI, rd_isS, rd_forS, rd_lcS, rd_rep, rd_mkI, rd_mkX, rd_strX, rd_tryAs, rd_callX]
      refine ⟨x, rfl, fg.tb _ hT, hx, by omega, h12, fun hall t G1 f1 ht => ?_, fun j y hy hw hbef G1 dx f1 hdx => ⟨hit, fun a ha => ?_⟩⟩
      · simp only [rd_seq, rd_next, rd_drop, rd_ret, rd_retN, rd_ifS, rd_asg, rd_gName, rd_gNil, rd_gCons, rd_gTup, rd_gSub, rd_aug, rd_var, rd_C, rd_op, rd_un, rd_nil, rd_cons, rd_tup, rd_lst, rd_call, rd_cb, rd_test, rd_B, rd_and, rd_or, rd_not, rd_andV, rd_orV, rd_notV, rd_ifE, rd_bm0, rd_bm, rd_rv, rd_sl, rd_nopart, rd_part, rd_rI, rd_rI0, rd_rU, rd_ipI, rd_eqI, rd_neI, rd_eqB, rd_neB, rd_eqS, rd_neS, rd_ixU, rd_setU, rd_truL, rd_for1, rd_for2, rd_forL, rd_forT, rd_lc1, rd_lcL, rd_lcT, rd_yes, rd_wipe0, rd_wipe1, rd_rng1, rd_ref1, rd_cxK, rd_cons1, rd_one, at0, at1, at2, at3, at4, ix5_1, ix5_2, ix5_3, upd_upd, rd_bool, rd_some, rd_isv_int_int, rd_isv_int_bool, rd_isv_int_str, rd_isv_int_tuple, rd_isv_int_list, rd_isv_bl_int, rd_isv_bl_bool, rd_isv_bl_str, rd_isv_bl_tuple, rd_isv_bl_list, rd_isv_str_int, rd_isv_str_bool, rd_isv_str_str, rd_isv_str_tuple, rd_isv_str_list, rd_ml0, rd_ml, ln0, ln1, ln2, ln3, ln4, ln5, ln6, ln7, ln8, ln9, ln10, List.getElem?_cons_zero, List.getElem?_cons_succ, List.set_cons_zero, List.set_cons_succ, List.length_cons, List.length_nil, List.cons_append, List.nil_append, List.append_nil, Nat.reduceAdd, true_and, decide_true, decide_false, if_true, Bool.false_eq_true, if_false, Bool.not_true, Bool.not_false, rd_forE, rd_m1, rd_isS, rd_anyS, rd_joinI, rd_sumZ, rd_never, rd_lcZ, rd_min1, rd_sum1, rd_all1, rd_any1, rd_tup1, rd_gnR, rd_gnT, rd_gnL, rd_gLoc, rd_gCap, rd_gC, rd_gI, rd_int2b, rd_int1, rd_dget, rd_dput, rd_dnewT, rd_dnewK, rd_truT, rd_forR, rd_for3, rd_lc2, rd_rng2, rd_forET, rd_par, rd_forES, rd_xfld, rd_raiseI, rd_isS, rd_forS, rd_lcS, rd_rep, rd_mkI, rd_mkX, rd_strX, rd_isv_tup_tuple ht]
        refine ne_ints ht (f1.tp _ _ gd) ⟨false, rfl, ?_⟩
        exact ⟨_, _, _, _, rfl, fg.trans f1, f1.tp _ _ gd⟩
      · rw [hg y (List.mem_of_getElem? hy)] at hw
        cases hw
    · rintro σ G ⟨a3, a4, a5, a6, rfl, fg, gd⟩
      simp only [rd_seq, rd_next, rd_drop, rd_ret, rd_retN, rd_ifS, rd_asg, rd_gName, rd_gNil, rd_gCons, rd_gTup, rd_gSub, rd_aug, rd_var, rd_C, rd_op, rd_un, rd_nil, rd_cons, rd_tup, rd_lst, rd_call, rd_cb, rd_test, rd_B, rd_and, rd_or, rd_not, rd_andV, rd_orV, rd_notV, rd_ifE, rd_bm0, rd_bm, rd_rv, rd_sl, rd_nopart, rd_part, rd_rI, rd_rI0, rd_rU, rd_ipI, rd_eqI, rd_neI, rd_eqB, rd_neB, rd_eqS, rd_neS, rd_ixU, rd_setU, rd_truL, rd_for1, rd_for2, rd_forL, rd_forT, rd_lc1, rd_lcL, rd_lcT, rd_yes, rd_wipe0, rd_wipe1, rd_rng1, rd_ref1, rd_cxK, rd_cons1, rd_one, at0, at1, at2, at3, at4, ix5_1, ix5_2, ix5_3, upd_upd, rd_bool, rd_some, rd_isv_int_int, rd_isv_int_bool, rd_isv_int_str, rd_isv_int_tuple, rd_isv_int_list, rd_isv_bl_int, rd_isv_bl_bool, rd_isv_bl_str, rd_isv_bl_tuple, rd_isv_bl_list, rd_isv_str_int, rd_isv_str_bool, rd_isv_str_str, rd_isv_str_tuple, rd_isv_str_list, rd_ml0, rd_ml, ln0, ln1, ln2, ln3, ln4, ln5, ln6, ln7, ln8, ln9, ln10, List.getElem?_cons_zero, List.getElem?_cons_succ, List.set_cons_zero, List.set_cons_succ, List.length_cons, List.length_nil, List.cons_append, List.nil_append, List.append_nil, Nat.reduceAdd, true_and, decide_true, decide_false, if_true, Bool.false_eq_true, if_false, Bool.not_true, Bool.not_false, rd_forE, rd_m1, rd_isS, rd_anyS, rd_joinI, rd_sumZ, rd_never, rd_lcZ, rd_min1, rd_sum1, rd_all1, rd_any1, rd_tup1, rd_gnR, rd_gnT, rd_gnL, rd_gLoc, rd_gCap, rd_gC, rd_gI, rd_int2b, rd_int1, rd_dget, rd_dput, rd_dnewT, rd_dnewK, rd_truT, rd_forR, rd_for3, rd_lc2, rd_rng2, rd_forET, rd_par, rd_forES, rd_xfld, rd_raiseI, rd_isS, rd_forS, rd_lcS, rd_rep, rd_mkI, rd_mkX, rd_strX]
      exact q _ fg
  · refine ⟨d, _, rfl, hd1, fun c H2 s2 hc t2 ht2 => ?_⟩
    have hc : H2 c = some (.tup [.str (Str.ofString "heaps")]) := hc
    have hd2 := hd1
    have s3 := same_new ht2 (.tup [.str (Str.ofString "heaps")])
    refine eq_str1 hhe (s3 _ _ hc) upd_same ?_
    have sB := s1.trans (s2.trans s3)
    have d3 := (s2.trans s3) _ _ hd2
    generalize upd H2 t2 (.tup [.str (Str.ofString "heaps")]) = G3 at *
    refine ⟨x, rfl, hx, fun G4 s4 => ⟨true, rfl, ?_⟩, fun h12 G4 s4 => ⟨false, rfl, ?_⟩⟩
    · rw [if_pos rfl]
      exact q _ (Fg.of (sB.trans s4))
    rw [if_neg (by decide)]
    refine ⟨_, _, rfl, rfl, by decide +kernel, by omega, fun l hl => ?_⟩
    have s5 := same_new hl (.lst ((Txt.split x (Str.ofString " ")).map V.str))
    simp only [rd_lenH upd_same, rd_seq, rd_next, rd_drop, rd_ret, rd_retN, rd_ifS, rd_asg, rd_gName, rd_gNil, rd_gCons, rd_gTup, rd_gSub, rd_aug, rd_var, rd_C, rd_op, rd_un, rd_nil, rd_cons, rd_tup, rd_lst, rd_call, rd_cb, rd_test, rd_B, rd_and, rd_or, rd_not, rd_andV, rd_orV, rd_notV, rd_ifE, rd_bm0, rd_bm, rd_rv, rd_sl, rd_nopart, rd_part, rd_rI, rd_rI0, rd_rU, rd_ipI, rd_eqI, rd_neI, rd_eqB, rd_neB, rd_eqS, rd_neS, rd_ixU, rd_setU, rd_truL, rd_for1, rd_for2, rd_forL, rd_forT, rd_lc1, rd_lcL, rd_lcT, rd_yes, rd_wipe0, rd_wipe1, rd_rng1, rd_ref1, rd_cxK, rd_cons1, rd_one, at0, at1, at2, at3, at4, ix5_1, ix5_2, ix5_3, upd_upd, rd_bool, rd_some, rd_isv_int_int, rd_isv_int_bool, rd_isv_int_str, rd_isv_int_tuple, rd_isv_int_list, rd_isv_bl_int, rd_isv_bl_bool, rd_isv_bl_str, rd_isv_bl_tuple, rd_isv_bl_list, rd_isv_str_int, rd_isv_str_bool, rd_isv_str_str, rd_isv_str_tuple, rd_isv_str_list, rd_ml0, rd_ml, ln0, ln1, ln2, ln3, ln4, ln5, ln6, ln7, ln8, ln9, ln10, List.getElem?_cons_zero, List.getElem?_cons_succ, List.set_cons_zero, List.set_cons_succ, List.length_cons, List.length_nil, List.cons_append, List.nil_append, List.append_nil, Nat.reduceAdd, true_and, decide_true, decide_false, if_true, Bool.false_eq_true, if_false, Bool.not_true, Bool.not_false, rd_forE, rd_m1, rd_isS, rd_anyS, rd_joinI, rd_sumZ, rd_never, rd_lcZ, rd_min1, rd_sum1, rd_all1, rd_any1, rd_tup1, rd_gnR, rd_gnT, rd_gnL, rd_gLoc, rd_gCap, rd_gC, rd_gI, rd_int2b, rd_int1, rd_dget, rd_dput, rd_dnewT, rd_dnewK, rd_truT, rd_forR, rd_for3, rd_lc2, rd_rng2, rd_forET, rd_par, rd_forES, rd_xfld, rd_raiseI, rd_isS, rd_forS, rd_lcS, rd_rep, rd_mkI, rd_mkX, rd_strX]
    have hsp : Txt.split x (Str.ofString " ") = Txt.split x bl := rfl
    rw [hsp] at s5 ⊢
    have sC := sB.trans (s4.trans s5)
    have d5 := (s4.trans s5) _ _ d3
    generalize upd G4 l (.lst ((Txt.split x bl).map V.str)) = G5 at *
    refine ite2 (fun c => q _ (Fg.of sC)) fun c => ?_
    have c : ¬ (24 : Int) < (((Txt.split x bl).map V.str).length : Nat) := fun h => c (decide_eq_true h)
    rw [List.length_map] at c
    refine ⟨by decide, by decide, ?_⟩
    refine forW_range (fun i σ G => ∃ (a3 a4 a5 a6 : Option V), σ = [some (.str x), some (.ref d), some (.bl true), a3, a4, a5, a6] ∧ Fg H G ∧ G d = some (.tup [.str (Str.ofString "heaps"), .int (i0 : Nat)])) ⟨_, _, _, _, rfl, Fg.of sC, d5⟩ ?_ ?_
    · rintro i σ G hi ⟨a3, a4, a5, a6, rfl, fg, gd⟩
      simp only [rd_seq, rd_next, rd_drop, rd_ret, rd_retN, rd_ifS, rd_asg, rd_gName, rd_gNil, rd_gCons, rd_gTup, rd_gSub, rd_aug, rd_var, rd_C, rd_op, rd_un, rd_nil, rd_cons, rd_tup, rd_lst, rd_call, rd_cb, rd_test, rd_B, rd_and, rd_or, rd_not, rd_andV, rd_orV, rd_notV, rd_ifE, rd_bm0, rd_bm, rd_rv, rd_sl, rd_nopart, rd_part, rd_rI, rd_rI0, rd_rU, rd_ipI, rd_eqI, rd_neI, rd_eqB, rd_neB, rd_eqS, rd_neS, rd_ixU, rd_setU, rd_truL, rd_for1, rd_for2, rd_forL, rd_forT, rd_lc1, rd_lcL, rd_lcT, rd_yes, rd_wipe0, rd_wipe1, rd_rng1, rd_ref1, rd_cxK, rd_cons1, rd_one, at0, at1, at2, at3, at4, ix5_1, ix5_2, ix5_3, upd_upd, rd_bool, rd_some, rd_isv_int_int, rd_isv_int_bool, rd_isv_int_str, rd_isv_int_tuple, rd_isv_int_list, rd_isv_bl_int, rd_isv_bl_bool, rd_isv_bl_str, rd_isv_bl_tuple, rd_isv_bl_list, rd_isv_str_int, rd_isv_str_bool, rd_isv_str_str, rd_isv_str_tuple, rd_isv_str_list, rd_ml0, rd_ml, ln0, ln1, ln2, ln3, ln4, ln5, ln6, ln7, ln8, ln9, ln10, List.getElem?_cons_zero, List.getElem?_cons_succ, List.set_cons_zero, List.set_cons_succ, List.length_cons, List.length_nil, List.cons_append, List.nil_append, List.append_nil, Nat.reduceAdd, true_and, decide_true, decide_false, if_true, Bool.false_eq_true, if_false, Bool.not_true, Bool.not_false, rd_forE, rd_m1, rd_isS, rd_anyS, rd_joinI, rd_sumZ, rd_never, rd_lcZ, rd_min1, rd_sum1, rd_all1, rd_any1, rd_tup1, rd_gnR, rd_gnT, rd_gnL, rd_gLoc, rd_gCap, rd_gC, rd_gI, rd_int2b, rd_int1, rd_dget, rd_dput, rd_dnewT, rd_dnewK, rd_truT, rd_forR, rd_for3, rd_lc2, rd_rng2, rd_forET, rd_par, rd_forES, rd_xfld, rd_raiseI, rd_isS, rd_forS, rd_lcS, rd_rep, rd_mkI, rd_mkX, rd_strX, rd_tryAs, rd_callX]
      refine ⟨x, rfl, fg.tb _ hT, hx, by omega, h12, fun hall t G1 f1 ht => ?_, fun j y hy hw hbef G1 dx f1 hdx => ⟨hit, fun a ha => ?_⟩⟩
      · have := hall z (List.mem_of_getElem? hz)
        rw [hwz] at this
        cases this
      · have ej : j = i0 := by
          rcases Nat.lt_trichotomy j i0 with e | e | e
          · rw [hb0 j y e hy] at hw; cases hw
          · exact e
          · rw [hbef i0 z e hz] at hwz; cases hwz
        subst ej
        have sx := same_new hdx (.xd [(Str.ofString "place", .int (j : Nat))])
        have sa := same_new ha (exD (.ref NH) (some dx) a)
        have hax := upd_same (H := upd G1 dx (.xd [(Str.ofString "place", .int (j : Nat))])) (a := a) (o := exD (.ref NH) (some dx) a)
        have hxx := sa _ _ (upd_same (H := G1) (a := dx) (o := .xd [(Str.ofString "place", .int (j : Nat))]))
        have sb := sx.trans sa
        have gd1 := sb _ _ (f1.tp _ _ gd)
        generalize upd (upd G1 dx (.xd [(Str.ofString "place", .int (j : Nat))])) a (exD (.ref NH) (some dx) a) = G2 at *
        rw [if_neg (by simp)]
        refine .inl ⟨a, dx, j, rfl, hax, hxx, fun l5 G5 sg5 h5 => ?_⟩
        refine ne_sn hhe h5 (sg5 _ _ gd1) ⟨false, rfl, ?_⟩
        exact ⟨_, _, _, _, rfl, fg.trans (f1.trans (Fg.of (sb.trans sg5))), sg5 _ _ gd1⟩
    · rintro σ G ⟨a3, a4, a5, a6, rfl, fg, gd⟩
      simp only [rd_seq, rd_next, rd_drop, rd_ret, rd_retN, rd_ifS, rd_asg, rd_gName, rd_gNil, rd_gCons, rd_gTup, rd_gSub, rd_aug, rd_var, rd_C, rd_op, rd_un, rd_nil, rd_cons, rd_tup, rd_lst, rd_call, rd_cb, rd_test, rd_B, rd_and, rd_or, rd_not, rd_andV, rd_orV, rd_notV, rd_ifE, rd_bm0, rd_bm, rd_rv, rd_sl, rd_nopart, rd_part, rd_rI, rd_rI0, rd_rU, rd_ipI, rd_eqI, rd_neI, rd_eqB, rd_neB, rd_eqS, rd_neS, rd_ixU, rd_setU, rd_truL, rd_for1, rd_for2, rd_forL, rd_forT, rd_lc1, rd_lcL, rd_lcT, rd_yes, rd_wipe0, rd_wipe1, rd_rng1, rd_ref1, rd_cxK, rd_cons1, rd_one, at0, at1, at2, at3, at4, ix5_1, ix5_2, ix5_3, upd_upd, rd_bool, rd_some, rd_isv_int_int, rd_isv_int_bool, rd_isv_int_str, rd_isv_int_tuple, rd_isv_int_list, rd_isv_bl_int, rd_isv_bl_bool, rd_isv_bl_str, rd_isv_bl_tuple, rd_isv_bl_list, rd_isv_str_int, rd_isv_str_bool, rd_isv_str_str, rd_isv_str_tuple, rd_isv_str_list, rd_ml0, rd_ml, ln0, ln1, ln2, ln3, ln4, ln5, ln6, ln7, ln8, ln9, ln10, List.getElem?_cons_zero, List.getElem?_cons_succ, List.set_cons_zero, List.set_cons_succ, List.length_cons, List.length_nil, List.cons_append, List.nil_append, List.append_nil, Nat.reduceAdd, true_and, decide_true, decide_false, if_true, Bool.false_eq_true, if_false, Bool.not_true, Bool.not_false, rd_forE, rd_m1, rd_isS, rd_anyS, rd_joinI, rd_sumZ, rd_never, rd_lcZ, rd_min1, rd_sum1, rd_all1, rd_any1, rd_tup1, rd_gnR, rd_gnT, rd_gnL, rd_gLoc, rd_gCap, rd_gC, rd_gI, rd_int2b, rd_int1, rd_dget, rd_dput, rd_dnewT, rd_dnewK, rd_truT, rd_forR, rd_for3, rd_lc2, rd_rng2, rd_forET, rd_par, rd_forES, rd_xfld, rd_raiseI, rd_isS, rd_forS, rd_lcS, rd_rep, rd_mkI, rd_mkX, rd_strX]
      exact q _ fg
end
end Q
set_option Elab.async false
set_option linter.all false
set_option maxRecDepth 100000
set_option maxHeartbeats 4000000
namespace Q
open PySem L2 L3 L4 Dm Tx Bn TL
abbrev s_law_spoilt : Stmt := top 18
theorem sc_law_spoilt : FnScope ["deck", "text", "k", "at", "way", "sign", "words", "place", "some", "word"] ["deck", "text"] (defScope s_law_spoilt) := ⟨rfl, rfl, rfl, by decide +kernel, rfl, by decide +kernel, by decide +kernel⟩
def spSpoilt : Sp := fun vs H Q _ => ∃ (D : Addr) (x : Str) (c : Nat), vs = [.ref D, .str x] ∧ Dk H D c ∧ c < 2 ^ 40 ∧ x.length ≤ 400 ∧ ∀ (y : Str) H', y.length ≤ 4000 → Kp D H H' → Dk H' D (c + 40) → Q (.str y) H'
section
variable {X : Cx} {es : List Expr} {t : TA}
theorem pa_s1 {a0 j0 p0} (hr : PA X es t) : PA X (.Constant (.str a0) j0 p0 :: es) (tCons (tC (.str a0)) t) := @pa_cons _ _ _ _ _ pe_str hr rfl
theorem pa_s2 {a0 j0 p0 a1 j1 p1} (hr : PA X es t) : PA X (.Constant (.str a0) j0 p0 :: .Constant (.str a1) j1 p1 :: es) (tCons (tC (.str a0)) (tCons (tC (.str a1)) t)) := (@pa_s1 _ _ _ _ _ _ (@pa_s1 _ _ _ _ _ _ hr))
theorem pa_s4 {a0 j0 p0 a1 j1 p1 a2 j2 p2 a3 j3 p3} (hr : PA X es t) : PA X (.Constant (.str a0) j0 p0 :: .Constant (.str a1) j1 p1 :: .Constant (.str a2) j2 p2 :: .Constant (.str a3) j3 p3 :: es) (tCons (tC (.str a0)) (tCons (tC (.str a1)) (tCons (tC (.str a2)) (tCons (tC (.str a3)) t)))) := (@pa_s2 _ _ _ _ _ _ _ _ _ (@pa_s2 _ _ _ _ _ _ _ _ _ hr))
theorem pa_s5 {a0 j0 p0 a1 j1 p1 a2 j2 p2 a3 j3 p3 a4 j4 p4} (hr : PA X es t) : PA X (.Constant (.str a0) j0 p0 :: .Constant (.str a1) j1 p1 :: .Constant (.str a2) j2 p2 :: .Constant (.str a3) j3 p3 :: .Constant (.str a4) j4 p4 :: es) (tCons (tC (.str a0)) (tCons (tC (.str a1)) (tCons (tC (.str a2)) (tCons (tC (.str a3)) (tCons (tC (.str a4)) t))))) := (@pa_s4 _ _ _ _ _ _ _ _ _ _ _ _ _ _ _ (@pa_s1 _ _ _ _ _ _ hr))
theorem pa_s11 {a0 j0 p0 a1 j1 p1 a2 j2 p2 a3 j3 p3 a4 j4 p4 a5 j5 p5 a6 j6 p6 a7 j7 p7 a8 j8 p8 a9 j9 p9 a10 j10 p10} (hr : PA X es t) : PA X (.Constant (.str a0) j0 p0 :: .Constant (.str a1) j1 p1 :: .Constant (.str a2) j2 p2 :: .Constant (.str a3) j3 p3 :: .Constant (.str a4) j4 p4 :: .Constant (.str a5) j5 p5 :: .Constant (.str a6) j6 p6 :: .Constant (.str a7) j7 p7 :: .Constant (.str a8) j8 p8 :: .Constant (.str a9) j9 p9 :: .Constant (.str a10) j10 p10 :: es) (tCons (tC (.str a0)) (tCons (tC (.str a1)) (tCons (tC (.str a2)) (tCons (tC (.str a3)) (tCons (tC (.str a4)) (tCons (tC (.str a5)) (tCons (tC (.str a6)) (tCons (tC (.str a7)) (tCons (tC (.str a8)) (tCons (tC (.str a9)) (tCons (tC (.str a10)) t))))))))))) := (@pa_s5 _ _ _ _ _ _ _ _ _ _ _ _ _ _ _ _ _ _ (@pa_s5 _ _ _ _ _ _ _ _ _ _ _ _ _ _ _ _ _ _ (@pa_s1 _ _ _ _ _ _ hr)))
end
theorem cutV_map (ws : List Str) (lo hi : Option Int) : cutV (ws.map V.str) lo hi = ((ws.drop (HT.sIx ws.length 0 lo)).take (HT.sIx ws.length ws.length hi - HT.sIx ws.length 0 lo)).map V.str := by
  unfold cutV
  rw [List.length_map, List.map_take, List.map_drop]
theorem sum_app (a b : List Str) : ((a ++ b).map (·.length)).sum = (a.map (·.length)).sum + (b.map (·.length)).sum := by
  rw [List.map_append, List.sum_append]
theorem cut_to (ws : List Str) (p : Nat) (h : p < ws.length) : cutV (ws.map V.str) none (some (p : Int)) = (ws.take p).map V.str := by
  rw [cutV_map, HT.sIx_none, HT.sIx_nat, Nat.min_eq_left (by omega), List.drop_zero, Nat.sub_zero]
theorem cut_on (ws : List Str) (p : Nat) (h : p ≤ ws.length) : cutV (ws.map V.str) (some (p : Int)) none = (ws.drop p).map V.str := by
  rw [cutV_map, HT.sIx_none, HT.sIx_nat, Nat.min_eq_left h, List.take_of_length_le (by rw [List.length_drop]; exact Nat.le_refl _)]
section
variable {P : Program} {w : World} {K : PySem.W.Frag} {mg : Str → Option Value} {base : Heap} {f : Addr} {fd : FuncData}
theorem ok_spoilt (F : Fun K "_law_spoilt" "_law_spoilt" s_law_spoilt f fd) (T : Bt mg) (D_law_next : Def P w K mg base 2 "_law_next" ["deck", "many"] spNext) (D_law_sign : Def P w K mg base 3 "_law_sign" ["deck"] spSign) : FnOk P w K mg base CX0 4 f fd ["deck", "text"] spSpoilt := by
  refine F.ok sc_law_spoilt (fun vs H Q E h => ?_) (fun cdv A outer s H vs Q E hr h => ?_)
  · obtain ⟨D, x, c, rfl, _⟩ := h
    rfl
  obtain ⟨D, x, c, rfl, hD, hc, hx, q⟩ := h
  refine ⟨_, (pss_cons (ps_for PassesOwn.never rfl (pi_range1 (by rfl) T.range (pa_cons (pe_op op_add pe_int (pe_callD D_law_next (hr.mono (by omega)) (by rfl) (pa_cons (pv 0) (pa_cons pe_int pa_nil)))) pa_nil)) (pg_name (i := 2) sc_law_spoilt.nd rfl (by first | exact Or.inl rfl | exact Or.inr rfl)) (pss_cons (ps_set (i := 3) sc_law_spoilt.nd rfl (by first | exact Or.inl rfl | exact Or.inr rfl) (pe_ix ix_H (pe_lst (pa_cons (pe_callD D_law_next (hr.mono (by omega)) (by rfl) (pa_cons (pv 0) (pa_cons (pe_op op_add (pe_callB call_len_str (by rfl) T.len (by decide +kernel) (pa_cons (pv 1) pa_nil)) pe_int) pa_nil))) (pa_cons (pe_callB (call_max2 rfl) (by rfl) T.max (by decide +kernel) (pa_cons pe_int (pa_cons (pe_op op_sub (pe_callB call_len_str (by rfl) T.len (by decide +kernel) (pa_cons (pv 1) pa_nil)) pe_int) pa_nil))) (pa_cons pe_int pa_nil)))) (pe_callD D_law_next (hr.mono (by omega)) (by rfl) (pa_cons (pv 0) (pa_cons pe_int pa_nil))) (fun _ _ => rfl)))
    (pss_cons (ps_set (i := 4) sc_law_spoilt.nd rfl (by first | exact Or.inl rfl | exact Or.inr rfl) (pe_callD D_law_next (hr.mono (by omega)) (by rfl) (pa_cons (pv 0) (pa_cons pe_int pa_nil))))
    (pss_cons (ps_set (i := 5) sc_law_spoilt.nd rfl (by first | exact Or.inl rfl | exact Or.inr rfl) (pe_callD D_law_sign (hr.mono (by omega)) (by rfl) (pa_cons (pv 0) pa_nil)))
    (pss_cons (ps_set (i := 6) sc_law_spoilt.nd rfl (by first | exact Or.inl rfl | exact Or.inr rfl) (pe_split (pv 1) pe_str))
    (pss_cons (ps_set (i := 7) sc_law_spoilt.nd rfl (by first | exact Or.inl rfl | exact Or.inr rfl) (pe_ix ix_H (pe_lst (pa_cons (pe_callD D_law_next (hr.mono (by omega)) (by rfl) (pa_cons (pv 0) (pa_cons (pe_callB call_lenH (by rfl) T.len (by decide +kernel) (pa_cons (pv 6) pa_nil)) pa_nil))) (pa_cons (pe_op op_sub (pe_callB call_lenH (by rfl) T.len (by decide +kernel) (pa_cons (pv 6) pa_nil)) pe_int) pa_nil))) (pe_callD D_law_next (hr.mono (by omega)) (by rfl) (pa_cons (pv 0) (pa_cons pe_int pa_nil))) (fun _ _ => rfl)))
    (@pss_cons _ _ _ _ _ (@ps_set _ _ 8 _ _ _ _ sc_law_spoilt.nd rfl (by first | exact Or.inl rfl | exact Or.inr rfl) (@pe_lst _ _ _ _ (@pa_s11 _ _ _ _ _ _ _ _ _ _ _ _ _ _ _ _ _ _ _ _ _ _ _ _ _ _ _ _ _ _ _ _ _ _ _ _ (pa_cons (pe_ix ix_H (pv 6) pe_int (fun _ _ => rfl)) (pa_cons (pe_ix ix_H (pv 6) (pe_un un_neg pe_int) (fun _ _ => rfl)) pa_nil)))) (by rfl) (by first | exact Or.inl rfl | exact Or.inr rfl))
    (pss_cons (ps_set (i := 9) sc_law_spoilt.nd rfl (by first | exact Or.inl rfl | exact Or.inr rfl) (pe_ix ix_H (pv 8) (pe_callD D_law_next (hr.mono (by omega)) (by rfl) (pa_cons (pv 0) (pa_cons pe_int pa_nil))) (fun _ _ => rfl)))
    (pss_one (ps_if (pt_cmpR op_lt (pv 4) pe_int (nomark _)) (pss_one (ps_set (i := 1) sc_law_spoilt.nd rfl (by first | exact Or.inl rfl | exact Or.inr rfl) (pe_ix ix_H (pe_lst (pa_cons (pe_op op_add_str (pe_op op_add_str (pe_slice sl_str (pv 1) po_none (po_some (pv 3))) (pv 5)) (pe_slice sl_str (pv 1) (po_some (pv 3)) po_none)) (pa_cons (pe_op op_add_str (pe_op op_add_str (pe_slice sl_str (pv 1) po_none (po_some (pv 3))) (pv 5)) (pe_slice sl_str (pv 1) (po_some (pe_op op_add (pv 3) pe_int)) po_none)) (pa_cons (pe_op op_add_str (pe_slice sl_str (pv 1) po_none (po_some (pv 3))) (pe_slice sl_str (pv 1) (po_some (pe_op op_add (pv 3) pe_int)) po_none)) pa_nil)))) (pv 4) (fun _ _ => rfl)))) (pss_cons (ps_set (i := 6) sc_law_spoilt.nd rfl (by first | exact Or.inl rfl | exact Or.inr rfl) (pe_ix ix_H (pe_lst (pa_cons (pe_op op_cat (pe_slice sl_list (pv 6) po_none (po_some (pv 7))) (pe_slice sl_list (pv 6) (po_some (pe_op op_add (pv 7) pe_int)) po_none)) (pa_cons (pe_op op_cat (pe_op op_cat (pe_slice sl_list (pv 6) po_none (po_some (pv 7))) (pe_lst (pa_cons (pv 9) pa_nil))) (pe_slice sl_list (pv 6) (po_some (pv 7)) po_none)) pa_nil))) (pe_callD D_law_next (hr.mono (by omega)) (by rfl) (pa_cons (pv 0) (pa_cons pe_int pa_nil))) (fun _ _ => rfl)))
    (pss_one (ps_set (i := 1) sc_law_spoilt.nd rfl (by first | exact Or.inl rfl | exact Or.inr rfl) (pe_join pe_str (pv 6)))))))))))))))
    (pss_one (ps_ret (pv 1)))), ?_⟩
  rw [show start ["deck", "text", "k", "at", "way", "sign", "words", "place", "some", "word"] [V.ref D, V.str x] = [some (V.ref D), some (V.str x), none, none, none, none, none, none, none, none] from rfl]
  simp only [rd_seq, rd_next, rd_drop, rd_ret, rd_retN, rd_ifS, rd_asg, rd_gName, rd_gNil, rd_gCons, rd_gTup, rd_gSub, rd_aug, rd_var, rd_C, rd_op, rd_un, rd_nil, rd_cons, rd_tup, rd_lst, rd_call, rd_cb, rd_test, rd_B, rd_and, rd_or, rd_not, rd_andV, rd_orV, rd_notV, rd_ifE, rd_bm0, rd_bm, rd_rv, rd_sl, rd_nopart, rd_part, rd_rI, rd_rI0, rd_rU, rd_ipI, rd_eqI, rd_neI, rd_eqB, rd_neB, rd_eqS, rd_neS, rd_ixU, rd_setU, rd_truL, rd_for1, rd_for2, rd_forL, rd_forT, rd_lc1, rd_lcL, rd_lcT, rd_yes, rd_wipe0, rd_wipe1, rd_rng1, rd_ref1, rd_cxK, rd_cons1, rd_one, at0, at1, at2, at3, at4, ix5_1, ix5_2, ix5_3, upd_upd, rd_bool, rd_some, rd_isv_int_int, rd_isv_int_bool, rd_isv_int_str, rd_isv_int_tuple, rd_isv_int_list, rd_isv_bl_int, rd_isv_bl_bool, rd_isv_bl_str, rd_isv_bl_tuple, rd_isv_bl_list, rd_isv_str_int, rd_isv_str_bool, rd_isv_str_str, rd_isv_str_tuple, rd_isv_str_list, rd_ml0, rd_ml, ln0, ln1, ln2, ln3, ln4, ln5, ln6, ln7, ln8, ln9, ln10, List.getElem?_cons_zero, List.getElem?_cons_succ, List.set_cons_zero, List.set_cons_succ, List.length_cons, List.length_nil, List.cons_append, List.nil_append, List.append_nil, Nat.reduceAdd, true_and, decide_true, decide_false, if_true, Bool.false_eq_true, if_false, Bool.not_true, Bool.not_false, rd_forE, rd_m1, rd_isS, rd_anyS, rd_joinI, rd_sumZ, rd_never, rd_lcZ, rd_min1, rd_sum1, rd_all1, rd_any1, rd_tup1, rd_gnR, rd_gnT, rd_gnL, rd_gLoc, rd_gCap, rd_gC, rd_gI, rd_int2b, rd_int1, rd_dget, rd_dput, rd_dnewT, rd_dnewK, rd_truT, rd_forR, rd_for3, rd_lc2, rd_rng2, rd_forET, rd_par, rd_forES, rd_xfld, rd_raiseI, rd_isS, rd_forS, rd_lcS, rd_rep, rd_mkI, rd_mkX, rd_strX]
  have sl : (50000 : Nat) ≤ sizeLine := by decide
  refine ⟨D, 3, c, rfl, hD, by omega, by decide, by decide, fun r0 H0 x0 y0 k0 d0 => ?_⟩
  simp only [rd_seq, rd_next, rd_drop, rd_ret, rd_retN, rd_ifS, rd_asg, rd_gName, rd_gNil, rd_gCons, rd_gTup, rd_gSub, rd_aug, rd_var, rd_C, rd_op, rd_un, rd_nil, rd_cons, rd_tup, rd_lst, rd_call, rd_cb, rd_test, rd_B, rd_and, rd_or, rd_not, rd_andV, rd_orV, rd_notV, rd_ifE, rd_bm0, rd_bm, rd_rv, rd_sl, rd_nopart, rd_part, rd_rI, rd_rI0, rd_rU, rd_ipI, rd_eqI, rd_neI, rd_eqB, rd_neB, rd_eqS, rd_neS, rd_ixU, rd_setU, rd_truL, rd_for1, rd_for2, rd_forL, rd_forT, rd_lc1, rd_lcL, rd_lcT, rd_yes, rd_wipe0, rd_wipe1, rd_rng1, rd_ref1, rd_cxK, rd_cons1, rd_one, at0, at1, at2, at3, at4, ix5_1, ix5_2, ix5_3, upd_upd, rd_bool, rd_some, rd_isv_int_int, rd_isv_int_bool, rd_isv_int_str, rd_isv_int_tuple, rd_isv_int_list, rd_isv_bl_int, rd_isv_bl_bool, rd_isv_bl_str, rd_isv_bl_tuple, rd_isv_bl_list, rd_isv_str_int, rd_isv_str_bool, rd_isv_str_str, rd_isv_str_tuple, rd_isv_str_list, rd_ml0, rd_ml, ln0, ln1, ln2, ln3, ln4, ln5, ln6, ln7, ln8, ln9, ln10, List.getElem?_cons_zero, List.getElem?_cons_succ, List.set_cons_zero, List.set_cons_succ, List.length_cons, List.length_nil, List.cons_append, List.nil_append, List.append_nil, Nat.reduceAdd, true_and, decide_true, decide_false, if_true, Bool.false_eq_true, if_false, Bool.not_true, Bool.not_false, rd_forE, rd_m1, rd_isS, rd_anyS, rd_joinI, rd_sumZ, rd_never, rd_lcZ, rd_min1, rd_sum1, rd_all1, rd_any1, rd_tup1, rd_gnR, rd_gnT, rd_gnL, rd_gLoc, rd_gCap, rd_gC, rd_gI, rd_int2b, rd_int1, rd_dget, rd_dput, rd_dnewT, rd_dnewK, rd_truT, rd_forR, rd_for3, rd_lc2, rd_rng2, rd_forET, rd_par, rd_forES, rd_xfld, rd_raiseI, rd_isS, rd_forS, rd_lcS, rd_rep, rd_mkI, rd_mkX, rd_strX]
  refine ⟨by omega, by omega, ?_⟩
  refine forW_range (fun j σ G => ∃ (z : Str) (b2 b3 b4 b5 b6 b7 b8 b9 : Option V), σ = [some (.ref D), some (.str z), b2, b3, b4, b5, b6, b7, b8, b9] ∧ z.length + 10 ≤ 410 * 2 ^ j ∧ Kp D H G ∧ Dk G D (c + 1 + 12 * j)) ⟨x, _, _, _, _, _, _, _, _, rfl, by simp; omega, k0, d0⟩ ?_ ?_
  · rintro j σ G hj ⟨z, b2, b3, b4, b5, b6, b7, b8, b9, rfl, hz, kG, dG⟩
    have hj3 : j < 3 := by omega
    have hp2 : 2 ^ j ≤ 4 := by
      have : j = 0 ∨ j = 1 ∨ j = 2 := by omega
      rcases this with rfl | rfl | rfl <;> decide
    have hz1 : z.length ≤ 2000 := by omega
    rw [rd_gName, rd_seq]
    simp only [rd_next, rd_drop, rd_ret, rd_retN, rd_ifS, rd_asg, rd_gName, rd_gNil, rd_gCons, rd_gTup, rd_gSub, rd_aug, rd_var, rd_C, rd_op, rd_un, rd_nil, rd_cons, rd_tup, rd_lst, rd_call, rd_cb, rd_test, rd_B, rd_and, rd_or, rd_not, rd_andV, rd_orV, rd_notV, rd_ifE, rd_bm0, rd_bm, rd_rv, rd_sl, rd_nopart, rd_part, rd_rI, rd_rI0, rd_rU, rd_ipI, rd_eqI, rd_neI, rd_eqB, rd_neB, rd_eqS, rd_neS, rd_ixU, rd_setU, rd_truL, rd_for1, rd_for2, rd_forL, rd_forT, rd_lc1, rd_lcL, rd_lcT, rd_yes, rd_wipe0, rd_wipe1, rd_rng1, rd_ref1, rd_cxK, rd_cons1, rd_one, at0, at1, at2, at3, at4, ix5_1, ix5_2, ix5_3, upd_upd, rd_bool, rd_some, rd_isv_int_int, rd_isv_int_bool, rd_isv_int_str, rd_isv_int_tuple, rd_isv_int_list, rd_isv_bl_int, rd_isv_bl_bool, rd_isv_bl_str, rd_isv_bl_tuple, rd_isv_bl_list, rd_isv_str_int, rd_isv_str_bool, rd_isv_str_str, rd_isv_str_tuple, rd_isv_str_list, rd_ml0, rd_ml, ln0, ln1, ln2, ln3, ln4, ln5, ln6, ln7, ln8, ln9, ln10, List.getElem?_cons_zero, List.getElem?_cons_succ, List.set_cons_zero, List.set_cons_succ, List.length_cons, List.length_nil, List.cons_append, List.nil_append, List.append_nil, Nat.reduceAdd, true_and, decide_true, decide_false, if_true, Bool.false_eq_true, if_false, Bool.not_true, Bool.not_false, rd_forE, rd_m1, rd_isS, rd_anyS, rd_joinI, rd_sumZ, rd_never, rd_lcZ, rd_min1, rd_sum1, rd_all1, rd_any1, rd_tup1, rd_gnR, rd_gnT, rd_gnL, rd_gLoc, rd_gCap, rd_gC, rd_gI, rd_int2b, rd_int1, rd_dget, rd_dput, rd_dnewT, rd_dnewK, rd_truT, rd_forR, rd_for3, rd_lc2, rd_rng2, rd_forET, rd_par, rd_forES, rd_xfld, rd_raiseI, rd_isS, rd_forS, rd_lcS, rd_rep, rd_mkI, rd_mkX, rd_strX]
    refine ⟨z, rfl, by omega, D, _, _, rfl, dG, by omega, by omega, by omega, fun r1 G1 x1 y1 k1 d1 => ?_⟩
    refine ⟨z, rfl, by omega, fun p1 hp1 => ?_⟩
    have s1 := same_new hp1 (.lst [V.int r1, V.int (if (z.length : Int) - 1 > 0 then (z.length : Int) - 1 else 0), V.int 0])
    have e1 := upd_same (H := G1) (a := p1) (o := .lst [V.int r1, V.int (if (z.length : Int) - 1 > 0 then (z.length : Int) - 1 else 0), V.int 0])
    refine ⟨D, 3, _, rfl, d1.same s1, by omega, by decide, by decide, fun r2 G2 x2 y2 k2 d2 => ?_⟩
    have e2 := k2.keep p1 _ e1 (d1.nd hp1)
    have kA := ((kG.trans k1).trans (same_kp s1)).trans k2
    dsimp only
    rw [rd_ixH e2]
    obtain ⟨va, hva, hma⟩ := atI_in (xs := [V.int r1, V.int (if (z.length : Int) - 1 > 0 then (z.length : Int) - 1 else 0), V.int 0]) x2 (by simpa using y2)
    obtain ⟨ia, rfl⟩ : ∃ i : Int, va = .int i := by
      simp only [List.mem_cons, List.not_mem_nil, or_false] at hma
      rcases hma with rfl | rfl | rfl <;> exact ⟨_, rfl⟩
    refine ⟨_, hva, ?_⟩
    clear hva hma e2 e1 s1 hp1 k1 k2 d1 kG dG
    rw [rd_seq]
    simp only [rd_next, rd_drop, rd_ret, rd_retN, rd_ifS, rd_asg, rd_gName, rd_gNil, rd_gCons, rd_gTup, rd_gSub, rd_aug, rd_var, rd_C, rd_op, rd_un, rd_nil, rd_cons, rd_tup, rd_lst, rd_call, rd_cb, rd_test, rd_B, rd_and, rd_or, rd_not, rd_andV, rd_orV, rd_notV, rd_ifE, rd_bm0, rd_bm, rd_rv, rd_sl, rd_nopart, rd_part, rd_rI, rd_rI0, rd_rU, rd_ipI, rd_eqI, rd_neI, rd_eqB, rd_neB, rd_eqS, rd_neS, rd_ixU, rd_setU, rd_truL, rd_for1, rd_for2, rd_forL, rd_forT, rd_lc1, rd_lcL, rd_lcT, rd_yes, rd_wipe0, rd_wipe1, rd_rng1, rd_ref1, rd_cxK, rd_cons1, rd_one, at0, at1, at2, at3, at4, ix5_1, ix5_2, ix5_3, upd_upd, rd_bool, rd_some, rd_isv_int_int, rd_isv_int_bool, rd_isv_int_str, rd_isv_int_tuple, rd_isv_int_list, rd_isv_bl_int, rd_isv_bl_bool, rd_isv_bl_str, rd_isv_bl_tuple, rd_isv_bl_list, rd_isv_str_int, rd_isv_str_bool, rd_isv_str_str, rd_isv_str_tuple, rd_isv_str_list, rd_ml0, rd_ml, ln0, ln1, ln2, ln3, ln4, ln5, ln6, ln7, ln8, ln9, ln10, List.getElem?_cons_zero, List.getElem?_cons_succ, List.set_cons_zero, List.set_cons_succ, List.length_cons, List.length_nil, List.cons_append, List.nil_append, List.append_nil, Nat.reduceAdd, true_and, decide_true, decide_false, if_true, Bool.false_eq_true, if_false, Bool.not_true, Bool.not_false, rd_forE, rd_m1, rd_isS, rd_anyS, rd_joinI, rd_sumZ, rd_never, rd_lcZ, rd_min1, rd_sum1, rd_all1, rd_any1, rd_tup1, rd_gnR, rd_gnT, rd_gnL, rd_gLoc, rd_gCap, rd_gC, rd_gI, rd_int2b, rd_int1, rd_dget, rd_dput, rd_dnewT, rd_dnewK, rd_truT, rd_forR, rd_for3, rd_lc2, rd_rng2, rd_forET, rd_par, rd_forES, rd_xfld, rd_raiseI, rd_isS, rd_forS, rd_lcS, rd_rep, rd_mkI, rd_mkX, rd_strX]
    refine ⟨D, 4, _, rfl, d2, by omega, by decide, by decide, fun r3 G3 x3 y3 k3 d3 => ?_⟩
    have kB := kA.trans k3
    dsimp only
    rw [rd_seq]
    simp only [rd_next, rd_drop, rd_ret, rd_retN, rd_ifS, rd_asg, rd_gName, rd_gNil, rd_gCons, rd_gTup, rd_gSub, rd_aug, rd_var, rd_C, rd_op, rd_un, rd_nil, rd_cons, rd_tup, rd_lst, rd_call, rd_cb, rd_test, rd_B, rd_and, rd_or, rd_not, rd_andV, rd_orV, rd_notV, rd_ifE, rd_bm0, rd_bm, rd_rv, rd_sl, rd_nopart, rd_part, rd_rI, rd_rI0, rd_rU, rd_ipI, rd_eqI, rd_neI, rd_eqB, rd_neB, rd_eqS, rd_neS, rd_ixU, rd_setU, rd_truL, rd_for1, rd_for2, rd_forL, rd_forT, rd_lc1, rd_lcL, rd_lcT, rd_yes, rd_wipe0, rd_wipe1, rd_rng1, rd_ref1, rd_cxK, rd_cons1, rd_one, at0, at1, at2, at3, at4, ix5_1, ix5_2, ix5_3, upd_upd, rd_bool, rd_some, rd_isv_int_int, rd_isv_int_bool, rd_isv_int_str, rd_isv_int_tuple, rd_isv_int_list, rd_isv_bl_int, rd_isv_bl_bool, rd_isv_bl_str, rd_isv_bl_tuple, rd_isv_bl_list, rd_isv_str_int, rd_isv_str_bool, rd_isv_str_str, rd_isv_str_tuple, rd_isv_str_list, rd_ml0, rd_ml, ln0, ln1, ln2, ln3, ln4, ln5, ln6, ln7, ln8, ln9, ln10, List.getElem?_cons_zero, List.getElem?_cons_succ, List.set_cons_zero, List.set_cons_succ, List.length_cons, List.length_nil, List.cons_append, List.nil_append, List.append_nil, Nat.reduceAdd, true_and, decide_true, decide_false, if_true, Bool.false_eq_true, if_false, Bool.not_true, Bool.not_false, rd_forE, rd_m1, rd_isS, rd_anyS, rd_joinI, rd_sumZ, rd_never, rd_lcZ, rd_min1, rd_sum1, rd_all1, rd_any1, rd_tup1, rd_gnR, rd_gnT, rd_gnL, rd_gLoc, rd_gCap, rd_gC, rd_gI, rd_int2b, rd_int1, rd_dget, rd_dput, rd_dnewT, rd_dnewK, rd_truT, rd_forR, rd_for3, rd_lc2, rd_rng2, rd_forET, rd_par, rd_forES, rd_xfld, rd_raiseI, rd_isS, rd_forS, rd_lcS, rd_rep, rd_mkI, rd_mkX, rd_strX]
    refine ⟨D, _, rfl, d3, by omega, fun sg G4 hsg k4 d4 => ?_⟩
    have kC := kB.trans k4
    dsimp only
    rw [rd_seq]
    simp only [rd_next, rd_drop, rd_ret, rd_retN, rd_ifS, rd_asg, rd_gName, rd_gNil, rd_gCons, rd_gTup, rd_gSub, rd_aug, rd_var, rd_C, rd_op, rd_un, rd_nil, rd_cons, rd_tup, rd_lst, rd_call, rd_cb, rd_test, rd_B, rd_and, rd_or, rd_not, rd_andV, rd_orV, rd_notV, rd_ifE, rd_bm0, rd_bm, rd_rv, rd_sl, rd_nopart, rd_part, rd_rI, rd_rI0, rd_rU, rd_ipI, rd_eqI, rd_neI, rd_eqB, rd_neB, rd_eqS, rd_neS, rd_ixU, rd_setU, rd_truL, rd_for1, rd_for2, rd_forL, rd_forT, rd_lc1, rd_lcL, rd_lcT, rd_yes, rd_wipe0, rd_wipe1, rd_rng1, rd_ref1, rd_cxK, rd_cons1, rd_one, at0, at1, at2, at3, at4, ix5_1, ix5_2, ix5_3, upd_upd, rd_bool, rd_some, rd_isv_int_int, rd_isv_int_bool, rd_isv_int_str, rd_isv_int_tuple, rd_isv_int_list, rd_isv_bl_int, rd_isv_bl_bool, rd_isv_bl_str, rd_isv_bl_tuple, rd_isv_bl_list, rd_isv_str_int, rd_isv_str_bool, rd_isv_str_str, rd_isv_str_tuple, rd_isv_str_list, rd_ml0, rd_ml, ln0, ln1, ln2, ln3, ln4, ln5, ln6, ln7, ln8, ln9, ln10, List.getElem?_cons_zero, List.getElem?_cons_succ, List.set_cons_zero, List.set_cons_succ, List.length_cons, List.length_nil, List.cons_append, List.nil_append, List.append_nil, Nat.reduceAdd, true_and, decide_true, decide_false, if_true, Bool.false_eq_true, if_false, Bool.not_true, Bool.not_false, rd_forE, rd_m1, rd_isS, rd_anyS, rd_joinI, rd_sumZ, rd_never, rd_lcZ, rd_min1, rd_sum1, rd_all1, rd_any1, rd_tup1, rd_gnR, rd_gnT, rd_gnL, rd_gLoc, rd_gCap, rd_gC, rd_gI, rd_int2b, rd_int1, rd_dget, rd_dput, rd_dnewT, rd_dnewK, rd_truT, rd_forR, rd_for3, rd_lc2, rd_rng2, rd_forET, rd_par, rd_forES, rd_xfld, rd_raiseI, rd_isS, rd_forS, rd_lcS, rd_rep, rd_mkI, rd_mkX, rd_strX]
    refine ⟨_, _, rfl, rfl, by decide +kernel, by omega, fun wl hwl => ?_⟩
    rw [show Txt.split z (Str.ofString " ") = Txt.split z bl from rfl]
    have hws := split_sum z
    have hwm := split_mem z
    have hwp := split_pos z
    generalize Txt.split z bl = ws at *
    have s5 := same_new hwl (.lst (ws.map V.str))
    have hw5 := upd_same (H := G4) (a := wl) (o := .lst (ws.map V.str))
    have kD := kC.trans (same_kp s5)
    have d5 := d4.same s5
    have ndw := d4.nd hwl
    generalize upd G4 wl (.lst (ws.map V.str)) = G5 at *
    clear kA kB kC k3 k4 d2 d3 d4 s5 hwl
    dsimp only
    rw [rd_seq]
    simp only [rd_next, rd_drop, rd_ret, rd_retN, rd_ifS, rd_asg, rd_gName, rd_gNil, rd_gCons, rd_gTup, rd_gSub, rd_aug, rd_var, rd_C, rd_op, rd_un, rd_nil, rd_cons, rd_tup, rd_lst, rd_call, rd_cb, rd_test, rd_B, rd_and, rd_or, rd_not, rd_andV, rd_orV, rd_notV, rd_ifE, rd_bm0, rd_bm, rd_rv, rd_sl, rd_nopart, rd_part, rd_rI, rd_rI0, rd_rU, rd_ipI, rd_eqI, rd_neI, rd_eqB, rd_neB, rd_eqS, rd_neS, rd_ixU, rd_setU, rd_truL, rd_for1, rd_for2, rd_forL, rd_forT, rd_lc1, rd_lcL, rd_lcT, rd_yes, rd_wipe0, rd_wipe1, rd_rng1, rd_ref1, rd_cxK, rd_cons1, rd_one, at0, at1, at2, at3, at4, ix5_1, ix5_2, ix5_3, upd_upd, rd_bool, rd_some, rd_isv_int_int, rd_isv_int_bool, rd_isv_int_str, rd_isv_int_tuple, rd_isv_int_list, rd_isv_bl_int, rd_isv_bl_bool, rd_isv_bl_str, rd_isv_bl_tuple, rd_isv_bl_list, rd_isv_str_int, rd_isv_str_bool, rd_isv_str_str, rd_isv_str_tuple, rd_isv_str_list, rd_ml0, rd_ml, ln0, ln1, ln2, ln3, ln4, ln5, ln6, ln7, ln8, ln9, ln10, List.getElem?_cons_zero, List.getElem?_cons_succ, List.set_cons_zero, List.set_cons_succ, List.length_cons, List.length_nil, List.cons_append, List.nil_append, List.append_nil, Nat.reduceAdd, true_and, decide_true, decide_false, if_true, Bool.false_eq_true, if_false, Bool.not_true, Bool.not_false, rd_forE, rd_m1, rd_isS, rd_anyS, rd_joinI, rd_sumZ, rd_never, rd_lcZ, rd_min1, rd_sum1, rd_all1, rd_any1, rd_tup1, rd_gnR, rd_gnT, rd_gnL, rd_gLoc, rd_gCap, rd_gC, rd_gI, rd_int2b, rd_int1, rd_dget, rd_dput, rd_dnewT, rd_dnewK, rd_truT, rd_forR, rd_for3, rd_lc2, rd_rng2, rd_forET, rd_par, rd_forES, rd_xfld, rd_raiseI, rd_isS, rd_forS, rd_lcS, rd_rep, rd_mkI, rd_mkX, rd_strX, rd_lenH hw5, List.length_map]
    refine ⟨D, _, _, rfl, d5, by omega, by omega, by omega, fun r6 G6 x6 y6 k6 d6 => ?_⟩
    have hw6 := k6.keep wl _ hw5 ndw
    dsimp only
    rw [rd_lenH hw6, List.length_map, rd_rI0]
    intro p7 hp7
    have s7 := same_new hp7 (.lst [V.int r6, V.int ((ws.length : Nat) - 1)])
    have e7 := upd_same (H := G6) (a := p7) (o := .lst [V.int r6, V.int ((ws.length : Nat) - 1)])
    refine ⟨D, 2, _, rfl, d6.same s7, by omega, by decide, by decide, fun r8 G8 x8 y8 k8 d8 => ?_⟩
    have e8 := k8.keep p7 _ e7 (d6.nd hp7)
    have hw8 := k8.keep wl _ (s7 _ _ hw6) ndw
    have kE := ((kD.trans k6).trans (same_kp s7)).trans k8
    dsimp only
    rw [rd_ixH e8]
    obtain ⟨vp, hvp, hmp⟩ := atI_in (xs := [V.int r6, V.int ((ws.length : Nat) - 1)]) x8 (by simpa using y8)
    obtain ⟨pl, rfl, hpl⟩ : ∃ i : Nat, vp = .int i ∧ i < ws.length := by
      simp only [List.mem_cons, List.not_mem_nil, or_false] at hmp
      rcases hmp with rfl | rfl
      · exact ⟨r6.toNat, by rw [Int.toNat_of_nonneg x6], by omega⟩
      · exact ⟨ws.length - 1, by congr 1; omega, by omega⟩
    refine ⟨_, hvp, ?_⟩
    clear hvp hmp e8 e7 s7 hp7 k6 k8 d6 d5 kD hw5 hw6
    rw [rd_seq]
    have hv0 : ∃ w0, atI (ws.map V.str) 0 = some (.str w0) ∧ w0.length ≤ z.length := by
      obtain ⟨w0, h0⟩ : ∃ w, ws[0]? = some w := ⟨ws[0], List.getElem?_eq_getElem (by omega)⟩
      exact ⟨w0, atI_nat (j := 0) (by rw [List.getElem?_map, h0]; rfl), hwm w0 (List.mem_of_getElem? h0)⟩
    have hv1 : ∃ w1, atI (ws.map V.str) (-1) = some (.str w1) ∧ w1.length ≤ z.length := by
      obtain ⟨w1, h1⟩ : ∃ w, ws[ws.length - 1]? = some w := ⟨ws[ws.length - 1], List.getElem?_eq_getElem (by omega)⟩
      refine ⟨w1, ?_, hwm w1 (List.mem_of_getElem? h1)⟩
      unfold atI ixN
      rw [List.length_map, if_neg (by omega), if_pos (by omega)]
      show (ws.map V.str)[((ws.length : Int) + -1).toNat]? = _
      rw [show ((ws.length : Int) + -1).toNat = ws.length - 1 by omega, List.getElem?_map, h1]
      rfl
    obtain ⟨w0, hv0, hl0⟩ := hv0
    obtain ⟨w1, hv1, hl1⟩ := hv1
    refine ⟨.ref wl, rfl, ?_⟩
    dsimp only [tC]
    rw [rd_ixH hw8]
    refine ⟨_, hv0, ?_⟩
    refine ⟨.ref wl, rfl, 1, rfl, ?_⟩
    dsimp only
    rw [rd_ixH hw8]
    refine ⟨_, hv1, ?_⟩
    refine ⟨show 13 ≤ sizeLine by decide, fun p9 hp9 => ?_⟩
    obtain ⟨ss, hss, hsm⟩ : ∃ ss : List Str, (V.str (Str.ofString "") :: V.str (Str.ofString "00") :: V.str (Str.ofString "01") :: V.str (Str.ofString "-1") :: V.str (Str.ofString "-0") :: V.str (Str.ofString "+1") :: V.str (Str.ofString "1.0") :: V.str (Str.ofString "1_0") :: V.str (Str.ofString "x") :: V.str (Str.ofString "0x1") :: V.str (Str.ofString "1e3") :: V.str w0 :: V.str w1 :: []) = ss.map V.str ∧ ss.length = 13 ∧ ∀ y ∈ ss, y.length ≤ z.length + 3 :=
      ⟨[Str.ofString "", Str.ofString "00", Str.ofString "01", Str.ofString "-1", Str.ofString "-0", Str.ofString "+1", Str.ofString "1.0", Str.ofString "1_0", Str.ofString "x", Str.ofString "0x1", Str.ofString "1e3", w0, w1], rfl, rfl, fun y hy => by
        simp only [List.mem_cons, List.not_mem_nil, or_false] at hy
        have c3 : ∀ y ∈ [Str.ofString "", Str.ofString "00", Str.ofString "01", Str.ofString "-1", Str.ofString "-0", Str.ofString "+1", Str.ofString "1.0", Str.ofString "1_0", Str.ofString "x", Str.ofString "0x1", Str.ofString "1e3"], y.length ≤ 3 := by decide +kernel
        rcases hy with e | e | e | e | e | e | e | e | e | e | e | e | e
        · have := c3 y (by rw [e]; simp); omega
        · have := c3 y (by rw [e]; simp); omega
        · have := c3 y (by rw [e]; simp); omega
        · have := c3 y (by rw [e]; simp); omega
        · have := c3 y (by rw [e]; simp); omega
        · have := c3 y (by rw [e]; simp); omega
        · have := c3 y (by rw [e]; simp); omega
        · have := c3 y (by rw [e]; simp); omega
        · have := c3 y (by rw [e]; simp); omega
        · have := c3 y (by rw [e]; simp); omega
        · have := c3 y (by rw [e]; simp); omega
        · rw [e]; omega
        · rw [e]; omega⟩
    rw [hss]
    have s9 := same_new hp9 (.lst (ss.map V.str))
    have e9 := upd_same (H := G8) (a := p9) (o := .lst (ss.map V.str))
    have hw9 := s9 _ _ hw8
    have nd9 := d8.nd hp9
    have kF := kE.trans (same_kp s9)
    have d9 := d8.same s9
    generalize upd G8 p9 (.lst (ss.map V.str)) = G9 at *
    clear hss kE s9 hp9 d8 hw8 hv0 hv1
    rw [rd_gName, rd_seq]
    simp only [rd_asg, rd_op, rd_var, rd_call, rd_cons, rd_nil, rd_C, rd_gName, rd_some, List.getElem?_cons_zero, List.getElem?_cons_succ, List.set_cons_zero, List.set_cons_succ, at0, at1, at2, at3, at4, rd_next, rd_drop, rd_ret, rd_retN, rd_ifS, rd_asg, rd_gName, rd_gNil, rd_gCons, rd_gTup, rd_gSub, rd_aug, rd_var, rd_C, rd_op, rd_un, rd_nil, rd_cons, rd_tup, rd_lst, rd_call, rd_cb, rd_test, rd_B, rd_and, rd_or, rd_not, rd_andV, rd_orV, rd_notV, rd_ifE, rd_bm0, rd_bm, rd_rv, rd_sl, rd_nopart, rd_part, rd_rI, rd_rI0, rd_rU, rd_ipI, rd_eqI, rd_neI, rd_eqB, rd_neB, rd_eqS, rd_neS, rd_ixU, rd_setU, rd_truL, rd_for1, rd_for2, rd_forL, rd_forT, rd_lc1, rd_lcL, rd_lcT, rd_yes, rd_wipe0, rd_wipe1, rd_rng1, rd_ref1, rd_cxK, rd_cons1, rd_one, at0, at1, at2, at3, at4, ix5_1, ix5_2, ix5_3, upd_upd, rd_bool, rd_some, rd_isv_int_int, rd_isv_int_bool, rd_isv_int_str, rd_isv_int_tuple, rd_isv_int_list, rd_isv_bl_int, rd_isv_bl_bool, rd_isv_bl_str, rd_isv_bl_tuple, rd_isv_bl_list, rd_isv_str_int, rd_isv_str_bool, rd_isv_str_str, rd_isv_str_tuple, rd_isv_str_list, rd_ml0, rd_ml, ln0, ln1, ln2, ln3, ln4, ln5, ln6, ln7, ln8, ln9, ln10, List.getElem?_cons_zero, List.getElem?_cons_succ, List.set_cons_zero, List.set_cons_succ, List.length_cons, List.length_nil, List.cons_append, List.nil_append, List.append_nil, Nat.reduceAdd, true_and, decide_true, decide_false, if_true, Bool.false_eq_true, if_false, Bool.not_true, Bool.not_false, rd_forE, rd_m1, rd_isS, rd_anyS, rd_joinI, rd_sumZ, rd_never, rd_lcZ, rd_min1, rd_sum1, rd_all1, rd_any1, rd_tup1, rd_gnR, rd_gnT, rd_gnL, rd_gLoc, rd_gCap, rd_gC, rd_gI, rd_int2b, rd_int1, rd_dget, rd_dput, rd_dnewT, rd_dnewK, rd_truT, rd_forR, rd_for3, rd_lc2, rd_rng2, rd_forET, rd_par, rd_forES, rd_xfld, rd_raiseI, rd_isS, rd_forS, rd_lcS, rd_rep, rd_mkI, rd_mkX, rd_strX]
    refine ⟨D, 13, _, rfl, d9, by omega, by decide, by decide, fun ra Ga xa ya ka da => ?_⟩
    have ea := ka.keep p9 _ e9 nd9
    have hwa := ka.keep wl _ hw9 ndw
    have kH := kF.trans ka
    dsimp only
    rw [rd_ixH ea]
    obtain ⟨vw, hvw, hmw⟩ := atI_in (xs := ss.map V.str) xa (by rw [List.length_map, hsm.1]; exact ya)
    obtain ⟨ww, hwwm, rfl⟩ := List.mem_map.mp hmw
    have hww := hsm.2 ww hwwm
    refine ⟨_, hvw, ?_⟩
    clear hvw hmw ea e9 ka d9 kF hw9 hwwm hsm
    have e2j : 410 * 2 ^ (j + 1) = 2 * (410 * 2 ^ j) := by rw [Nat.pow_succ]; omega
    have hcut : ∀ lo hi, (cutS z lo hi).length ≤ z.length := fun lo hi => cutS_length z lo hi
    have h1 := hcut none (some ia)
    have h2 := hcut (some ia) none
    have h3 := hcut (some (ia + 1)) none
    refine ite2 (fun c1 => ?_) fun c1 => ?_
    · have c1 : r3 < 3 := of_decide_eq_true c1
      refine ⟨z, rfl, by omega, _, _, rfl, rfl, by omega, z, rfl, by omega, _, _, rfl, rfl, by rw [len_app]; omega, z, rfl, by omega, _, _, rfl, rfl, by omega, z, rfl, by omega, _, _, rfl, rfl, by rw [len_app]; omega, z, rfl, by omega, z, rfl, by omega, _, _, rfl, rfl, by omega, fun p6 hp6 => ?_⟩
      have s6 := same_new hp6 (.lst [V.str (cutS z none (some ia) ++ sg ++ cutS z (some ia) none), V.str (cutS z none (some ia) ++ sg ++ cutS z (some (ia + 1)) none), V.str (cutS z none (some ia) ++ cutS z (some (ia + 1)) none)])
      obtain ⟨vy, hvy, hmy⟩ := atI_in (xs := [V.str (cutS z none (some ia) ++ sg ++ cutS z (some ia) none), V.str (cutS z none (some ia) ++ sg ++ cutS z (some (ia + 1)) none), V.str (cutS z none (some ia) ++ cutS z (some (ia + 1)) none)]) x3 (by simpa using c1)
      obtain ⟨y, rfl, hy⟩ : ∃ y : Str, vy = .str y ∧ y.length ≤ 2 * z.length + 6 := by
        simp only [List.mem_cons, List.not_mem_nil, or_false] at hmy
        rcases hmy with rfl | rfl | rfl
        · exact ⟨_, rfl, by rw [len_app, len_app]; omega⟩
        · exact ⟨_, rfl, by rw [len_app, len_app]; omega⟩
        · exact ⟨_, rfl, by rw [len_app]; omega⟩
      refine ⟨_, hvy, y, _, _, _, _, _, _, _, _, rfl, by omega, kH.trans (same_kp s6), (da.same s6).mono (by omega)⟩
    · rw [rd_seq]
      simp only [rd_next, rd_drop, rd_ret, rd_retN, rd_ifS, rd_asg, rd_gName, rd_gNil, rd_gCons, rd_gTup, rd_gSub, rd_aug, rd_var, rd_C, rd_op, rd_un, rd_nil, rd_cons, rd_tup, rd_lst, rd_call, rd_cb, rd_test, rd_B, rd_and, rd_or, rd_not, rd_andV, rd_orV, rd_notV, rd_ifE, rd_bm0, rd_bm, rd_rv, rd_sl, rd_nopart, rd_part, rd_rI, rd_rI0, rd_rU, rd_ipI, rd_eqI, rd_neI, rd_eqB, rd_neB, rd_eqS, rd_neS, rd_ixU, rd_setU, rd_truL, rd_for1, rd_for2, rd_forL, rd_forT, rd_lc1, rd_lcL, rd_lcT, rd_yes, rd_wipe0, rd_wipe1, rd_rng1, rd_ref1, rd_cxK, rd_cons1, rd_one, at0, at1, at2, at3, at4, ix5_1, ix5_2, ix5_3, upd_upd, rd_bool, rd_some, rd_isv_int_int, rd_isv_int_bool, rd_isv_int_str, rd_isv_int_tuple, rd_isv_int_list, rd_isv_bl_int, rd_isv_bl_bool, rd_isv_bl_str, rd_isv_bl_tuple, rd_isv_bl_list, rd_isv_str_int, rd_isv_str_bool, rd_isv_str_str, rd_isv_str_tuple, rd_isv_str_list, rd_ml0, rd_ml, ln0, ln1, ln2, ln3, ln4, ln5, ln6, ln7, ln8, ln9, ln10, List.getElem?_cons_zero, List.getElem?_cons_succ, List.set_cons_zero, List.set_cons_succ, List.length_cons, List.length_nil, List.cons_append, List.nil_append, List.append_nil, Nat.reduceAdd, true_and, decide_true, decide_false, if_true, Bool.false_eq_true, if_false, Bool.not_true, Bool.not_false, rd_forE, rd_m1, rd_isS, rd_anyS, rd_joinI, rd_sumZ, rd_never, rd_lcZ, rd_min1, rd_sum1, rd_all1, rd_any1, rd_tup1, rd_gnR, rd_gnT, rd_gnL, rd_gLoc, rd_gCap, rd_gC, rd_gI, rd_int2b, rd_int1, rd_dget, rd_dput, rd_dnewT, rd_dnewK, rd_truT, rd_forR, rd_for3, rd_lc2, rd_rng2, rd_forET, rd_par, rd_forES, rd_xfld, rd_raiseI, rd_isS, rd_forS, rd_lcS, rd_rep, rd_mkI, rd_mkX, rd_strX]
      rw [show ((pl : Int) + 1) = ((pl + 1 : Nat) : Int) by omega]
      have hsum : ∀ n : Nat, ((ws.take n).map (·.length)).sum + ((ws.drop n).map (·.length)).sum = (ws.map (·.length)).sum := fun n => by rw [← sum_app, List.take_append_drop]
      have hdr : ((ws.drop (pl + 1)).map (·.length)).sum ≤ ((ws.drop pl).map (·.length)).sum := by
        have e := congrArg (fun l : List Str => (l.map (·.length)).sum) (List.getElem_cons_drop (h := hpl))
        simp only [List.map_cons, List.sum_cons] at e
        omega
      have hsp := hsum pl
      refine ⟨wl, _, rfl, SqL.of hwa, fun q1 hq1 => ?_⟩
      have t1 := same_new hq1 (.lst (cutV (ws.map V.str) none (some (pl : Int))))
      have l1 := upd_same (H := Ga) (a := q1) (o := .lst (cutV (ws.map V.str) none (some (pl : Int))))
      rw [cut_to ws pl hpl] at t1 l1 ⊢
      have w1 := t1 _ _ hwa
      have k1 := kH.trans (same_kp t1)
      have d1 := da.same t1
      generalize upd Ga q1 (.lst ((ws.take pl).map V.str)) = G1 at *
      refine ⟨wl, _, rfl, SqL.of w1, fun q2 hq2 => ?_⟩
      have t2 := same_new hq2 (.lst (cutV (ws.map V.str) (some ((pl + 1 : Nat) : Int)) none))
      have l2 := upd_same (H := G1) (a := q2) (o := .lst (cutV (ws.map V.str) (some ((pl + 1 : Nat) : Int)) none))
      rw [cut_on ws (pl + 1) hpl] at t2 l2 ⊢
      have l1' := t2 _ _ l1
      have w2 := t2 _ _ w1
      have k2 := k1.trans (same_kp t2)
      have d2 := d1.same t2
      generalize upd G1 q2 (.lst ((ws.drop (pl + 1)).map V.str)) = G2 at *
      dsimp only
      rw [rd_cat l1' l2, ← List.map_append]
      refine ⟨by rw [List.length_map, List.length_map, List.length_take, List.length_drop]; omega, fun q3 hq3 => ?_⟩
      have t3 := same_new hq3 (.lst ((ws.take pl ++ ws.drop (pl + 1)).map V.str))
      have l3 := upd_same (H := G2) (a := q3) (o := .lst ((ws.take pl ++ ws.drop (pl + 1)).map V.str))
      have w3 := t3 _ _ w2
      have k3 := k2.trans (same_kp t3)
      have d3 := d2.same t3
      have nq3 := d2.nd hq3
      generalize upd G2 q3 (.lst ((ws.take pl ++ ws.drop (pl + 1)).map V.str)) = G3 at *
      refine ⟨wl, _, rfl, SqL.of w3, fun q4 hq4 => ?_⟩
      have t4 := same_new hq4 (.lst (cutV (ws.map V.str) none (some (pl : Int))))
      have l4 := upd_same (H := G3) (a := q4) (o := .lst (cutV (ws.map V.str) none (some (pl : Int))))
      rw [cut_to ws pl hpl] at t4 l4 ⊢
      have w4 := t4 _ _ w3
      have l34 := t4 _ _ l3
      have k4 := k3.trans (same_kp t4)
      have d4 := d3.same t4
      generalize upd G3 q4 (.lst ((ws.take pl).map V.str)) = G4 at *
      intro q5 hq5
      have t5 := same_new hq5 (.lst [V.str ww])
      have l5 := upd_same (H := G4) (a := q5) (o := .lst [V.str ww])
      have w5 := t5 _ _ w4
      have l35 := t5 _ _ l34
      have l45 := t5 _ _ l4
      have k5 := k4.trans (same_kp t5)
      have d5 := d4.same t5
      generalize upd G4 q5 (.lst [V.str ww]) = G5 at *
      rw [rd_cat l45 l5, show (ws.take pl).map V.str ++ [V.str ww] = (ws.take pl ++ [ww]).map V.str by simp]
      refine ⟨by rw [List.length_map, List.length_take]; simp; omega, fun q6 hq6 => ?_⟩
      have t6 := same_new hq6 (.lst ((ws.take pl ++ [ww]).map V.str))
      have l6 := upd_same (H := G5) (a := q6) (o := .lst ((ws.take pl ++ [ww]).map V.str))
      have w6 := t6 _ _ w5
      have l36 := t6 _ _ l35
      have k6 := k5.trans (same_kp t6)
      have d6 := d5.same t6
      generalize upd G5 q6 (.lst ((ws.take pl ++ [ww]).map V.str)) = G6 at *
      refine ⟨wl, _, rfl, SqL.of w6, fun q7 hq7 => ?_⟩
      have t7 := same_new hq7 (.lst (cutV (ws.map V.str) (some (pl : Int)) none))
      have l7 := upd_same (H := G6) (a := q7) (o := .lst (cutV (ws.map V.str) (some (pl : Int)) none))
      rw [cut_on ws pl (by omega)] at t7 l7 ⊢
      have l67 := t7 _ _ l6
      have l37 := t7 _ _ l36
      have k7 := k6.trans (same_kp t7)
      have d7 := d6.same t7
      generalize upd G6 q7 (.lst ((ws.drop pl).map V.str)) = G7 at *
      dsimp only
      rw [rd_cat l67 l7, ← List.map_append]
      refine ⟨by rw [List.length_map, List.length_map, List.length_append, List.length_take, List.length_drop]; simp; omega, fun q8 hq8 => ?_⟩
      have t8 := same_new hq8 (.lst ((ws.take pl ++ [ww] ++ ws.drop pl).map V.str))
      have l8 := upd_same (H := G7) (a := q8) (o := .lst ((ws.take pl ++ [ww] ++ ws.drop pl).map V.str))
      have l38 := t8 _ _ l37
      have k8 := k7.trans (same_kp t8)
      have d8 := d7.same t8
      have nq8 := d7.nd hq8
      generalize upd G7 q8 (.lst ((ws.take pl ++ [ww] ++ ws.drop pl).map V.str)) = G8 at *
      intro q9 hq9
      have t9 := same_new hq9 (.lst [V.ref q3, V.ref q8])
      have l9 := upd_same (H := G8) (a := q9) (o := .lst [V.ref q3, V.ref q8])
      have l39 := t9 _ _ l38
      have l89 := t9 _ _ l8
      have k9 := k8.trans (same_kp t9)
      have d9 := d8.same t9
      have n3 := d8.nd hq9
      generalize upd G8 q9 (.lst [V.ref q3, V.ref q8]) = G9 at *
      refine ⟨D, 2, _, rfl, d9, by omega, by decide, by decide, fun rb Gb xb yb kb db => ?_⟩
      have lb := kb.keep q9 _ l9 n3
      have l3b := kb.keep q3 _ l39 nq3
      have l8b := kb.keep q8 _ l89 nq8
      dsimp only
      rw [rd_ixH lb]
      have hb1 : (Str.ofString " ").length = 1 := by decide
      have fin : ∀ (q : Addr) (ys : List Str), Gb q = some (.lst (ys.map V.str)) → (ys.map (·.length)).sum + ys.length ≤ 2 * z.length + 6 → ∃ (a : Str) (p : Addr) (ys : List Str), V.str (Str.ofString " ") = V.str a ∧ [V.ref q] = [V.ref p] ∧ (SqL K Gb p (ys.map V.str) ∨ SqT K Gb p (ys.map V.str)) ∧ (ys.map (·.length)).sum + ys.length * a.length ≤ 16777216 ∧ ∃ z' b2 b3 b4 b5 b6 b7 b8 b9, [some (V.ref D), some (V.str (Txt.join a ys)), some (V.int (0 + (j : Int))), some (V.int ia), some (V.int r3), some (V.str sg), some (V.ref q), some (V.int (pl : Nat)), some (V.ref p9), some (V.str ww)] = [some (V.ref D), some (V.str z'), b2, b3, b4, b5, b6, b7, b8, b9] ∧ z'.length + 10 ≤ 410 * 2 ^ (j + 1) ∧ Kp D H Gb ∧ Dk Gb D (c + 1 + 12 * (j + 1)) := fun q ys hq hl => by
        have hjl : (Txt.join (Str.ofString " ") ys).length ≤ (ys.map (·.length)).sum + ys.length * (Str.ofString " ").length := by
          rw [join_eq]; exact StrLaws.join_length_le _ _
        rw [hb1, Nat.mul_one] at hjl
        exact ⟨_, q, ys, rfl, rfl, .inl (SqL.of hq), by rw [hb1]; omega, _, _, _, _, _, _, _, _, _, rfl, by omega, k9.trans kb, db.mono (by omega)⟩
      obtain ⟨vq, hvq, hmq⟩ := atI_in (xs := [V.ref q3, V.ref q8]) xb (by simpa using yb)
      refine ⟨_, hvq, ?_⟩
      simp only [List.mem_cons, List.not_mem_nil, or_false] at hmq
      have hn1 : ws.length ≤ z.length + 1 := by omega
      rcases hmq with rfl | rfl
      · exact fin q3 _ l3b (by rw [sum_app, List.length_append, List.length_take, List.length_drop]; omega)
      · exact fin q8 _ l8b (by rw [sum_app, sum_app, List.length_append, List.length_append, List.length_take, List.length_drop]; simp only [List.map_cons, List.map_nil, List.sum_cons, List.sum_nil, List.length_cons, List.length_nil]; omega)
  · rintro σ G ⟨z, b2, b3, b4, b5, b6, b7, b8, b9, rfl, hz, kG, dG⟩
    have hjn : (1 + r0).toNat ≤ 3 := by omega
    have hp2 : 2 ^ (1 + r0).toNat ≤ 8 := by
      have : (1 + r0).toNat = 0 ∨ (1 + r0).toNat = 1 ∨ (1 + r0).toNat = 2 ∨ (1 + r0).toNat = 3 := by omega
      rcases this with e | e | e | e <;> rw [e] <;> decide
    simp only [rd_seq, rd_next, rd_drop, rd_ret, rd_retN, rd_ifS, rd_asg, rd_gName, rd_gNil, rd_gCons, rd_gTup, rd_gSub, rd_aug, rd_var, rd_C, rd_op, rd_un, rd_nil, rd_cons, rd_tup, rd_lst, rd_call, rd_cb, rd_test, rd_B, rd_and, rd_or, rd_not, rd_andV, rd_orV, rd_notV, rd_ifE, rd_bm0, rd_bm, rd_rv, rd_sl, rd_nopart, rd_part, rd_rI, rd_rI0, rd_rU, rd_ipI, rd_eqI, rd_neI, rd_eqB, rd_neB, rd_eqS, rd_neS, rd_ixU, rd_setU, rd_truL, rd_for1, rd_for2, rd_forL, rd_forT, rd_lc1, rd_lcL, rd_lcT, rd_yes, rd_wipe0, rd_wipe1, rd_rng1, rd_ref1, rd_cxK, rd_cons1, rd_one, at0, at1, at2, at3, at4, ix5_1, ix5_2, ix5_3, upd_upd, rd_bool, rd_some, rd_isv_int_int, rd_isv_int_bool, rd_isv_int_str, rd_isv_int_tuple, rd_isv_int_list, rd_isv_bl_int, rd_isv_bl_bool, rd_isv_bl_str, rd_isv_bl_tuple, rd_isv_bl_list, rd_isv_str_int, rd_isv_str_bool, rd_isv_str_str, rd_isv_str_tuple, rd_isv_str_list, rd_ml0, rd_ml, ln0, ln1, ln2, ln3, ln4, ln5, ln6, ln7, ln8, ln9, ln10, List.getElem?_cons_zero, List.getElem?_cons_succ, List.set_cons_zero, List.set_cons_succ, List.length_cons, List.length_nil, List.cons_append, List.nil_append, List.append_nil, Nat.reduceAdd, true_and, decide_true, decide_false, if_true, Bool.false_eq_true, if_false, Bool.not_true, Bool.not_false, rd_forE, rd_m1, rd_isS, rd_anyS, rd_joinI, rd_sumZ, rd_never, rd_lcZ, rd_min1, rd_sum1, rd_all1, rd_any1, rd_tup1, rd_gnR, rd_gnT, rd_gnL, rd_gLoc, rd_gCap, rd_gC, rd_gI, rd_int2b, rd_int1, rd_dget, rd_dput, rd_dnewT, rd_dnewK, rd_truT, rd_forR, rd_for3, rd_lc2, rd_rng2, rd_forET, rd_par, rd_forES, rd_xfld, rd_raiseI, rd_isS, rd_forS, rd_lcS, rd_rep, rd_mkI, rd_mkX, rd_strX]
    exact q z _ (by omega) kG (dG.mono (by omega))
end
end Q
set_option Elab.async false
set_option linter.all false
set_option maxRecDepth 100000
set_option maxHeartbeats 4000000
namespace Q
open PySem L2 L3 L4 Dm Tx Bn TL
abbrev slaw : Stmt := top 22
theorem sclaw : FnScope ["script", "deck", "turn", "said", "text", "some", "free", "k", "weight", "odd"] ["script"] (defScope slaw) := ⟨rfl, rfl, rfl, by decide +kernel, rfl, by decide +kernel, by decide +kernel⟩
def spLaw (K : PySem.W.Frag) (P1 : Addr) : Sp := fun vs H Q _ => ∃ (a : Addr) (ns : List Int), vs = [.ref a] ∧ SqL K H a (ns.map V.int) ∧ ns.length ≤ 63 ∧ Tb P1 H ∧ ∀ H', Q (.bl true) H'
theorem dk_fg {H H' : Hp} {D : Addr} {c : Nat} (h : Dk H D c) (g : Fg H H') : Dk H' D c := by
  obtain ⟨a, ns, i, j, k, s, e1, e2, r⟩ := h
  exact ⟨a, ns, i, j, k, s, g.lst e1, g.lst e2, r⟩
structure Kg (D : Addr) (H H' : Hp) : Prop where
  keep : ∀ b o, H b = some o → b ≠ D → (∀ ps, o ≠ .tbl ps) → H' b = some o
  tb : ∀ P, Tb P H → Tb P H'
structure Sg (D : Addr) (H0 G : Hp) (c : Nat) : Prop where
  k : Kg D H0 G
  d : Dk G D c
theorem Kg.trans {D : Addr} {H H1 H2 : Hp} (a : Kg D H H1) (b : Kg D H1 H2) : Kg D H H2 := ⟨fun x o h n t => b.keep x o (a.keep x o h n t) n t, fun P h => b.tb P (a.tb P h)⟩
theorem Kg.fg {D : Addr} {H H' : Hp} (f : Fg H H') : Kg D H H' := ⟨fun b o h _ t => f.keep b o h t, f.tb⟩
theorem Kg.kp {D : Addr} {H H' : Hp} {c : Nat} (d : Dk H D c) (k : Kp D H H') : Kg D H H' := by
  obtain ⟨xs, e⟩ := d.lst
  exact ⟨fun b o h n _ => k.keep b o h n, fun P ⟨ps, q, t⟩ => ⟨ps, k.keep _ _ q (ne_of q e (by intro z; cases z)), t⟩⟩
theorem Kg.tp {D : Addr} {H H' : Hp} {c : Nat} (k : Kg D H H') (d : Dk H D c) : Tp H H' := fun b xs h => by
  obtain ⟨ys, e⟩ := d.lst
  exact k.keep b _ h (ne_of h e (by intro z; cases z)) (fun _ z => by cases z)
theorem Sg.start {D : Addr} {H : Hp} {c : Nat} (d : Dk H D c) : Sg D H H c := ⟨⟨fun _ _ h _ _ => h, fun _ h => h⟩, d⟩
theorem Sg.fg {D : Addr} {H0 G G' : Hp} {c : Nat} (s : Sg D H0 G c) (f : Fg G G') : Sg D H0 G' c := ⟨s.k.trans (Kg.fg f), dk_fg s.d f⟩
theorem Sg.same {D : Addr} {H0 G G' : Hp} {c : Nat} (s : Sg D H0 G c) (f : Same G G') : Sg D H0 G' c := s.fg (Fg.of f)
theorem Sg.next {D : Addr} {H0 G G' : Hp} {c c' : Nat} (s : Sg D H0 G c) (k : Kp D G G') (d : Dk G' D c') : Sg D H0 G' c' := ⟨s.k.trans (Kg.kp s.d k), d⟩
theorem Sg.mono {D : Addr} {H0 G : Hp} {c c' : Nat} (s : Sg D H0 G c) (h : c ≤ c') : Sg D H0 G c' := ⟨s.k, s.d.mono h⟩
theorem tb_lst {P1 B : Addr} {G : Hp} {xs ys : List V} (e : G B = some (.lst xs)) (t : Tb P1 G) : Tb P1 (upd G B (.lst ys)) := by
  obtain ⟨ps, q, r⟩ := t
  exact ⟨ps, by rw [upd_ne (ne_of q e (by intro z; cases z))]; exact q, r⟩
theorem sum_le : ∀ (l : List Str) (b : Nat), (∀ y ∈ l, y.length ≤ b) → (l.map (·.length)).sum ≤ l.length * b
  | [], b, _ => by simp
  | a :: r, b, h => by
    have h1 := h a List.mem_cons_self
    have h2 := sum_le r b fun y hy => h y (List.mem_cons_of_mem _ hy)
    simp only [List.map_cons, List.sum_cons, List.length_cons, Nat.succ_mul]
    omega
def Al (us : List V) : Prop := ∀ u ∈ us, ∃ y : Str, u = .str y ∧ y.length ≤ 15000
theorem Al.app {a b : List V} (h : Al a) (h' : Al b) : Al (a ++ b) := fun u hu => (List.mem_append.mp hu).elim (h u) (h' u)
theorem Al.one {y : Str} (h : y.length ≤ 15000) : Al [.str y] := fun u hu => by rw [List.mem_singleton] at hu; exact ⟨y, hu, h⟩
theorem Al.cons {y : Str} {us : List V} (h : y.length ≤ 15000) (h' : Al us) : Al (.str y :: us) := fun u hu => (List.mem_cons.mp hu).elim (fun e => ⟨y, e, h⟩) (h' u)
theorem Al.nil : Al [] := fun u hu => absurd hu (by simp)
theorem Al.map {ys : List Str} (h : ∀ y ∈ ys, y.length ≤ 15000) : Al (ys.map V.str) := fun u hu => by
  obtain ⟨y, hy, rfl⟩ := List.mem_map.mp hu
  exact ⟨y, rfl, h y hy⟩
theorem join_len (ys : List Str) (b n : Nat) (h : ∀ y ∈ ys, y.length ≤ b) (hn : ys.length ≤ n) (z : Str) (hz : z.length ≤ 1) : (Txt.join z ys).length ≤ n * b + n ∧ (ys.map (·.length)).sum + ys.length * z.length ≤ n * b + n := by
  have h1 := sum_le ys b h
  have h2 : ys.length * b ≤ n * b := Nat.mul_le_mul_right _ hn
  have h3 : ys.length * z.length ≤ n * 1 := Nat.mul_le_mul hn hz
  have h4 : (Txt.join z ys).length ≤ (ys.map (·.length)).sum + ys.length * z.length := by rw [join_eq]; exact StrLaws.join_length_le _ _
  omega
theorem neL_strs {K : PySem.W.Frag} {H : Hp} {l a : Addr} {zs : List Str} {Q : VK} (hz : ∀ z ∈ zs, PyData.strOk z = true) (h : H l = some (.lst (zs.map V.str))) (h' : H a = some (.lst (zs.map V.str))) (q : Q (.bl false) H) : rNeD K (.ref l) (.ref a) H Q := by
  have c1 : (PyData.list (zs.map PyData.str)).canLay0 = true := by unfold PyData.canLay0; exact can_strs zs hz
  have c2 : (PyData.list (zs.map PyData.str)).depth ≤ 64 := by
    unfold PyData.depth
    have := depth_strs zs
    omega
  have c : SeqAt.shaped (.list (zs.map PyData.str)) = true := by unfold SeqAt.shaped; rw [c1, decide_eq_true c2]; rfl
  exact ⟨_, _, Dp.lst (SqL.of h) (dp_strs zs), Dp.lst (SqL.of h') (dp_strs zs), c, c, by rw [SeqAt.eqv_refl _ c1]; exact q⟩
theorem log_small {n : Int} (h0 : 0 ≤ n) (h1 : n < 10 ^ 12) : n.natAbs.log2 < 1920 := by
  by_cases hz : n.natAbs = 0
  · rw [hz]; decide
  · refine (Nat.log2_lt hz).mpr (Nat.lt_of_lt_of_le (show n.natAbs < 2 ^ 40 by omega) (Nat.pow_le_pow_right (by decide) (by decide)))
theorem shown_len2 {ns : List Int} (h : ∀ n ∈ ns, 0 ≤ n ∧ n < 10 ^ 12) (hl : ns.length ≤ 24) : (Txt.join (Str.ofString " ") (ns.map sh)).length ≤ 400 ∧ ((ns.map sh).map (·.length)).sum ≤ 300 := by
  have hs : ((ns.map sh).map (·.length)).sum ≤ ns.length * 12 := by
    clear hl
    induction ns with
    | nil => simp
    | cons n r ih =>
      have h1 := len_sh (h n List.mem_cons_self).1 (h n List.mem_cons_self).2
      have := ih fun m hm => h m (List.mem_cons_of_mem _ hm)
      simp only [List.map_cons, List.sum_cons, List.length_cons, Nat.succ_mul]
      omega
  have hj : (Txt.join (Str.ofString " ") (ns.map sh)).length ≤ ((ns.map sh).map (·.length)).sum + (ns.map sh).length * (Str.ofString " ").length := by
    rw [join_eq]; exact StrLaws.join_length_le _ _
  rw [List.length_map, show (Str.ofString " ").length = 1 from rfl] at hj
  constructor <;> omega
section
variable {P : Program} {w : World} {K : PySem.W.Frag} {mg : Str → Option Value} {base : Heap} {f NA NP NT NH NW fIH fIW P1 : Addr} {fd fdH fdW : FuncData}
theorem ok_law (F : Fun K "law" "law" slaw f fd) (T : Bt mg) (D_law_deck : Def P w K mg base 1 "_law_deck" ["script"] (spDeck K)) (D_law_next : Def P w K mg base 2 "_law_next" ["deck", "many"] spNext)
    (D_law_heaps : Def P w K mg base 3 "_law_heaps" ["deck", "most"] spHeaps) (D_law_sign : Def P w K mg base 3 "_law_sign" ["deck"] spSign) (D_law_spoilt : Def P w K mg base 4 "_law_spoilt" ["deck", "text"] spSpoilt)
    (D_law_kind : Def P w K mg base 1 "_law_kind" ["caught"] (orSp (spKindH NH) (spKindW NW))) (D_law_right : Def P w K mg base 4 "_law_right" ["text"] (spRight P1))
    (OA : PyProof.Rows.OwnCls "NoAsk" NA veMro "ValueError.__new__" mg base) (OP : PyProof.Rows.OwnCls "NoPlace" NP veMro "ValueError.__new__" mg base) (OT : PyProof.Rows.OwnCls "NoTree" NT veMro "ValueError.__new__" mg base)
    (pA : PySem.W.keepIn K (.ref NA) = true) (pP : PySem.W.keepIn K (.ref NP) = true) (pT : PySem.W.keepIn K (.ref NT) = true) (FA : SFacts K NA) (FP : SFacts K NP) (FT : SFacts K NT)
    (OH : OwnI "NoHeaps" NH fIH veMro "ValueError.__new__" mg base) (hfnH : PySem.W.isFn K (.ref fIH) = true) (hkpH : PySem.W.keepIn K (.ref NH) = true) (FIH : FnOk P w K mg base CX0 1 fIH fdH ["self", "place"] (spInit NH "place" okP)) (hbH : Binds K fdH ["self", "place"] [])
    (OW : OwnI "NoWord" NW fIW veMro "ValueError.__new__" mg base) (hfnW : PySem.W.isFn K (.ref fIW) = true) (hkpW : PySem.W.keepIn K (.ref NW) = true) (FIW : FnOk P w K mg base CX0 1 fIW fdW ["self", "place"] (spInit NW "place" okP)) (hbW : Binds K fdW ["self", "place"] []) :
    FnOk P w K mg base CX0 6 f fd ["script"] (spLaw K P1) := by
  refine F.ok sclaw (fun vs H Q E h => ?_) (fun cdv A outer s H vs Q E hr h => ?_)
  · obtain ⟨a, ns, rfl, _⟩ := h
    rfl
  obtain ⟨a, ns, rfl, hS, h63, hT, q⟩ := h
  have MH : MkI (cxOf CX0 P w K mg base ["script", "deck", "turn", "said", "text", "some", "free", "k", "weight", "odd"] "law" (defScope slaw) f cdv A outer s H E).nox "NoHeaps" NH fIH "place" 1 okP := ⟨OH, hfnH, hkpH, fdH, FIH, hbH⟩
  have MW : MkI (cxOf CX0 P w K mg base ["script", "deck", "turn", "said", "text", "some", "free", "k", "weight", "odd"] "law" (defScope slaw) f cdv A outer s H E).nox "NoWord" NW fIW "place" 1 okP := ⟨OW, hfnW, hkpW, fdW, FIW, hbW⟩
  refine ⟨_, (@pss_cons _ _ _ _ _ (@ps_set _ _ 1 _ _ _ _ sclaw.nd rfl (by first | exact Or.inl rfl | exact Or.inr rfl) (@pe_callD _ _ _ _ _ _ _ _ _ _ D_law_deck (hr.mono (by omega)) (by rfl) (@pa_cons _ _ _ _ _ (@pv _ 0 _ _ (by rfl) (by first | exact Or.inl rfl | exact Or.inr (Or.inl rfl) | exact Or.inr (Or.inr rfl)) (by decide) (by decide)) (@pa_nil _) (by rfl)) (by decide) (by rfl) (by rfl)) (by rfl) (by first | exact .inl rfl | exact .inr rfl | assumption)) (@pss_cons _ _ _ _ _ (@ps_for _ _ _ _ _ _ _ _ PassesOwn.never rfl (@pi_range1 _ _ _ _ _ _ (by rfl) T.range (@pa_cons _ _ _ _ _ (@pe_int _ _ _ _) (@pa_nil _) (by rfl)) (by rfl)) (@pg_name _ _ 2 _ sclaw.nd rfl (by first | exact Or.inl rfl | exact Or.inr rfl) (by first | exact .inl rfl | exact .inr rfl | assumption)) (@pss_cons _ _ _ _ _ (@ps_set _ _ 4 _ _ _ _ sclaw.nd rfl (by first | exact Or.inl rfl | exact Or.inr rfl) (@pe_join _ _ _ _ _ _ _ (@pe_str _ _ _ _) (@pe_lc _ _ _ _ _ _ ([("weight", 8)]) _ _ (gName 8) _ _ (by rfl) sclaw.nd (@pi_tup _ _ _ _ (@pe_callD _ _ _ _ _ _ _ _ _ _ D_law_heaps (hr.mono (by omega)) (by rfl) (@pa_cons _ _ _ _ _ (@pv _ 1 _ _ (by rfl) (by first | exact Or.inl rfl | exact Or.inr (Or.inl rfl) | exact Or.inr (Or.inr rfl)) (by decide) (by decide)) (@pa_cons _ _ _ _ _ (@pe_int _ _ _ _) (@pa_nil _) (by rfl)) (by rfl)) (by decide) (by rfl) (by rfl))) (blkOk_by (own := [("weight", 8)]) (N := ["script", "deck", "turn", "said", "text", "some", "free", "k", "weight", "odd"]) (sc := defScope slaw) (by decide +kernel)) (fun _ _ _ _ _ => @pg_name _ _ 8 _ sclaw.nd rfl (Or.inl rfl) (by first | exact .inl rfl | exact .inr rfl | assumption)) (fun _ _ _ _ _ => @pts_nil _) (fun _ _ _ _ _ => (@pe_callTy _ _ _ _ _ _ _ _ _ call_str_int (by rfl) T.str_ (by decide +kernel) (@pa_cons _ _ _ _ _ (@pv _ 8 _ _ (by rfl) (by first | exact Or.inl rfl | exact Or.inr (Or.inl rfl) | exact Or.inr (Or.inr rfl)) (by decide) (by decide)) (@pa_nil _) (by rfl)) (by decide) (by decide) (by rfl) (by rfl))) (by intro _ ; rfl)) (by rfl) (by rfl) (by rfl)) (by rfl) (by first | exact .inl rfl | exact .inr rfl | assumption)) (@pss_cons _ _ _ _ _ (@ps_setLc _ 5 _ _ _ _ _ _ _ ([("k", 7)]) _ _ _ (gName 7) _ _ (by rfl) sclaw.nd rfl rfl (sw_true rfl rfl rfl (by decide +kernel)) (@pi_range1 _ _ _ _ _ _ (by rfl) T.range (@pa_cons _ _ _ _ _ (@pe_int _ _ _ _) (@pa_nil _) (by rfl)) (by rfl)) (blkOk_by (own := [("k", 7)]) (N := ["script", "deck", "turn", "said", "text", "some", "free", "k", "weight", "odd"]) (sc := defScope slaw) (by decide +kernel)) (fun _ _ _ _ _ => @pg_name _ _ 7 _ sclaw.nd rfl (Or.inl rfl) (by first | exact .inl rfl | exact .inr rfl | assumption)) (fun _ _ _ _ _ => @pts_nil _) (fun _ _ _ _ _ => (@pe_callD _ _ _ _ _ _ _ _ _ _ D_law_spoilt (hr.mono (by omega)) (by rfl) (@pa_cons _ _ _ _ _ (@pv _ 1 _ _ (by rfl) (by first | exact Or.inl rfl | exact Or.inr (Or.inl rfl) | exact Or.inr (Or.inr rfl)) (by decide) (by decide)) (@pa_cons _ _ _ _ _ (@pv _ 4 _ _ (by rfl) (by first | exact Or.inl rfl | exact Or.inr (Or.inl rfl) | exact Or.inr (Or.inr rfl)) (by decide) (by decide)) (@pa_nil _) (by rfl)) (by rfl)) (by decide) (by rfl) (by rfl))) (by intro _ ; rfl)) (@pss_cons _ _ _ _ _ (@ps_set _ _ 5 _ _ _ _ sclaw.nd rfl (by first | exact Or.inl rfl | exact Or.inr rfl) (@pe_op _ _ _ _ _ _ _ _ op_cat (@pv _ 5 _ _ (by rfl) (by first | exact Or.inl rfl | exact Or.inr (Or.inl rfl) | exact Or.inr (Or.inr rfl)) (by decide) (by decide)) (@pe_lst _ _ _ _ (@pa_cons _ _ _ _ _ (@pe_op _ _ _ _ _ _ _ _ op_add_str (@pe_str _ _ _ _) (@pv _ 4 _ _ (by rfl) (by first | exact Or.inl rfl | exact Or.inr (Or.inl rfl) | exact Or.inr (Or.inr rfl)) (by decide) (by decide))) (@pa_cons _ _ _ _ _ (@pe_op _ _ _ _ _ _ _ _ op_add_str (@pv _ 4 _ _ (by rfl) (by first | exact Or.inl rfl | exact Or.inr (Or.inl rfl) | exact Or.inr (Or.inr rfl)) (by decide) (by decide)) (@pe_str _ _ _ _)) (@pa_cons _ _ _ _ _ (@pe_op _ _ _ _ _ _ _ _ op_add_str (@pv _ 4 _ _ (by rfl) (by first | exact Or.inl rfl | exact Or.inr (Or.inl rfl) | exact Or.inr (Or.inr rfl)) (by decide) (by decide)) (@pe_str _ _ _ _)) (@pa_cons _ _ _ _ _ (@pe_op _ _ _ _ _ _ _ _ op_add_str (@pe_str _ _ _ _) (@pv _ 4 _ _ (by rfl) (by first | exact Or.inl rfl | exact Or.inr (Or.inl rfl) | exact Or.inr (Or.inr rfl)) (by decide) (by decide))) (@pa_rep _ 4 _ _ _ _ _ _ _ _ _ _ _ _ _ _ _ _ _ _ _ rfl (by first | exact Or.inl rfl | exact Or.inr (Or.inl rfl) | exact Or.inr (Or.inr rfl)) (by decide +kernel) (by decide +kernel) (@pa_cons _ _ _ _ _ (@pv _ 4 _ _ (by rfl) (by first | exact Or.inl rfl | exact Or.inr (Or.inl rfl) | exact Or.inr (Or.inr rfl)) (by decide) (by decide)) (@pa_nil _) (by rfl)) (by decide) (by decide) (by rfl) (by rfl)) (by rfl)) (by rfl)) (by rfl)) (by rfl)))) (by rfl) (by first | exact .inl rfl | exact .inr rfl | assumption)) (@pss_cons _ _ _ _ _ (@ps_expr _ _ _ _ (@pe_ml _ _ _ _ _ _ _ _ _ _ _ PySem.F.slot_list_append PySem.F.type_list_append mt_append (@pv _ 5 _ _ (by rfl) (by first | exact Or.inl rfl | exact Or.inr (Or.inl rfl) | exact Or.inr (Or.inr rfl)) (by decide) (by decide)) (@pa_cons _ _ _ _ _ (@pe_op _ _ _ _ _ _ _ _ op_add_str (@pe_op _ _ _ _ _ _ _ _ op_add_str (@pe_join _ _ _ _ _ _ _ (@pe_str _ _ _ _) (@pe_slice _ _ _ _ _ _ _ _ _ _ sl_list (@pe_op _ _ _ _ _ _ _ _ op_rep (@pe_split _ _ _ _ _ _ _ (@pv _ 4 _ _ (by rfl) (by first | exact Or.inl rfl | exact Or.inr (Or.inl rfl) | exact Or.inr (Or.inr rfl)) (by decide) (by decide)) (@pe_str _ _ _ _) (by rfl) (by rfl) (by rfl)) (@pe_int _ _ _ _)) (@po_none _) (@po_some _ _ _ (@pe_int _ _ _ _))) (by rfl) (by rfl) (by rfl)) (@pe_str _ _ _ _)) (@pe_callD _ _ _ _ _ _ _ _ _ _ D_law_sign (hr.mono (by omega)) (by rfl) (@pa_cons _ _ _ _ _ (@pv _ 1 _ _ (by rfl) (by first | exact Or.inl rfl | exact Or.inr (Or.inl rfl) | exact Or.inr (Or.inr rfl)) (by decide) (by decide)) (@pa_nil _) (by rfl)) (by decide) (by rfl) (by rfl))) (@pa_nil _) (by rfl)) (by rfl) (by rfl) (by rfl) (by rfl) (by rfl)) (by rfl)) (@pss_cons _ _ _ _ _ (@ps_setLc _ 6 _ _ _ _ _ _ _ ([("k", 7)]) _ _ _ (gName 7) _ _ (by rfl) sclaw.nd rfl rfl (sw_true rfl rfl rfl (by decide +kernel)) (@pi_range1 _ _ _ _ _ _ (by rfl) T.range (@pa_cons _ _ _ _ _ (@pe_ix _ _ _ _ _ _ _ ix_H (@pe_lst _ _ _ _ (@pa_cons _ _ _ _ _ (@pe_callD _ _ _ _ _ _ _ _ _ _ D_law_next (hr.mono (by omega)) (by rfl) (@pa_cons _ _ _ _ _ (@pv _ 1 _ _ (by rfl) (by first | exact Or.inl rfl | exact Or.inr (Or.inl rfl) | exact Or.inr (Or.inr rfl)) (by decide) (by decide)) (@pa_cons _ _ _ _ _ (@pe_int _ _ _ _) (@pa_nil _) (by rfl)) (by rfl)) (by decide) (by rfl) (by rfl)) (@pa_cons _ _ _ _ _ (@pe_int _ _ _ _) (@pa_nil _) (by rfl)) (by rfl))) (@pe_callTy _ _ _ _ _ _ _ _ _ call_int1 (by rfl) T.int_ (by decide +kernel) (@pa_cons _ _ _ _ _ (@pe_cmpR _ _ _ _ _ _ _ _ op_eq (@pe_callD _ _ _ _ _ _ _ _ _ _ D_law_next (hr.mono (by omega)) (by rfl) (@pa_cons _ _ _ _ _ (@pv _ 1 _ _ (by rfl) (by first | exact Or.inl rfl | exact Or.inr (Or.inl rfl) | exact Or.inr (Or.inr rfl)) (by decide) (by decide)) (@pa_cons _ _ _ _ _ (@pe_int _ _ _ _) (@pa_nil _) (by rfl)) (by rfl)) (by decide) (by rfl) (by rfl)) (@pe_int _ _ _ _) (nomark _)) (@pa_nil _) (by rfl)) (by decide) (by decide) (by rfl) (by rfl)) (fun _ _ => rfl)) (@pa_nil _) (by rfl)) (by rfl)) (blkOk_by (own := [("k", 7)]) (N := ["script", "deck", "turn", "said", "text", "some", "free", "k", "weight", "odd"]) (sc := defScope slaw) (by decide +kernel)) (fun _ _ _ _ _ => @pg_name _ _ 7 _ sclaw.nd rfl (Or.inl rfl) (by first | exact .inl rfl | exact .inr rfl | assumption)) (fun _ _ _ _ _ => @pts_nil _) (fun _ _ _ _ _ => (@pe_callD _ _ _ _ _ _ _ _ _ _ D_law_sign (hr.mono (by omega)) (by rfl) (@pa_cons _ _ _ _ _ (@pv _ 1 _ _ (by rfl) (by first | exact Or.inl rfl | exact Or.inr (Or.inl rfl) | exact Or.inr (Or.inr rfl)) (by decide) (by decide)) (@pa_nil _) (by rfl)) (by decide) (by rfl) (by rfl))) (by intro _ ; rfl)) (@pss_cons _ _ _ _ _ (@ps_set _ _ 5 _ _ _ _ sclaw.nd rfl (by first | exact Or.inl rfl | exact Or.inr rfl) (@pe_op _ _ _ _ _ _ _ _ op_cat (@pv _ 5 _ _ (by rfl) (by first | exact Or.inl rfl | exact Or.inr (Or.inl rfl) | exact Or.inr (Or.inr rfl)) (by decide) (by decide)) (@pe_lst _ _ _ _ (@pa_cons _ _ _ _ _ (@pe_join _ _ _ _ _ _ _ (@pe_str _ _ _ _) (@pv _ 6 _ _ (by rfl) (by first | exact Or.inl rfl | exact Or.inr (Or.inl rfl) | exact Or.inr (Or.inr rfl)) (by decide) (by decide)) (by rfl) (by rfl) (by rfl)) (@pa_cons _ _ _ _ _ (@pe_op _ _ _ _ _ _ _ _ op_add_str (@pv _ 4 _ _ (by rfl) (by first | exact Or.inl rfl | exact Or.inr (Or.inl rfl) | exact Or.inr (Or.inr rfl)) (by decide) (by decide)) (@pe_op _ _ _ _ _ _ _ _ op_mulS (@pe_callD _ _ _ _ _ _ _ _ _ _ D_law_sign (hr.mono (by omega)) (by rfl) (@pa_cons _ _ _ _ _ (@pv _ 1 _ _ (by rfl) (by first | exact Or.inl rfl | exact Or.inr (Or.inl rfl) | exact Or.inr (Or.inr rfl)) (by decide) (by decide)) (@pa_nil _) (by rfl)) (by decide) (by rfl) (by rfl)) (@pe_op _ _ _ _ _ _ _ _ op_add (@pe_int _ _ _ _) (@pe_callD _ _ _ _ _ _ _ _ _ _ D_law_next (hr.mono (by omega)) (by rfl) (@pa_cons _ _ _ _ _ (@pv _ 1 _ _ (by rfl) (by first | exact Or.inl rfl | exact Or.inr (Or.inl rfl) | exact Or.inr (Or.inr rfl)) (by decide) (by decide)) (@pa_cons _ _ _ _ _ (@pe_int _ _ _ _) (@pa_nil _) (by rfl)) (by rfl)) (by decide) (by rfl) (by rfl))))) (@pa_nil _) (by rfl)) (by rfl)))) (by rfl) (by first | exact .inl rfl | exact .inr rfl | assumption)) (@pss_one _ _ _ (@ps_if _ _ _ _ _ _ _ _ (@pt_cmpR _ _ _ _ _ _ _ _ (op_neNilH hr.units) (@pe_lc _ _ _ _ _ _ ([("odd", 9)]) _ _ (gName 9) _ _ (by rfl) sclaw.nd (@pi_list _ _ _ _ (@pe_op _ _ _ _ _ _ _ _ op_cat (@pv _ 5 _ _ (by rfl) (by first | exact Or.inl rfl | exact Or.inr (Or.inl rfl) | exact Or.inr (Or.inr rfl)) (by decide) (by decide)) (@pe_lst _ _ _ _ (@pa_cons _ _ _ _ _ (@pe_callD _ _ _ _ _ _ _ _ _ _ D_law_sign (hr.mono (by omega)) (by rfl) (@pa_cons _ _ _ _ _ (@pv _ 1 _ _ (by rfl) (by first | exact Or.inl rfl | exact Or.inr (Or.inl rfl) | exact Or.inr (Or.inr rfl)) (by decide) (by decide)) (@pa_nil _) (by rfl)) (by decide) (by rfl) (by rfl)) (@pa_nil _) (by rfl))))) (blkOk_by (own := [("odd", 9)]) (N := ["script", "deck", "turn", "said", "text", "some", "free", "k", "weight", "odd"]) (sc := defScope slaw) (by decide +kernel)) (fun _ _ _ _ _ => @pg_name _ _ 9 _ sclaw.nd rfl (Or.inl rfl) (by first | exact .inl rfl | exact .inr rfl | assumption)) (fun _ _ _ _ _ => (@pts_one _ _ _ (@pt_not _ _ _ _ (@pt_val _ _ _ (@pe_callD _ _ _ _ _ _ _ _ _ _ D_law_right (hr.mono (by omega)) (by rfl) (@pa_cons _ _ _ _ _ (@pv _ 9 _ _ (by rfl) (by first | exact Or.inl rfl | exact Or.inr (Or.inl rfl) | exact Or.inr (Or.inr rfl)) (by decide) (by decide)) (@pa_nil _) (by rfl)) (by decide) (by rfl) (by rfl)) (by intro _ ; rfl))))) (fun _ _ _ _ _ => (@pv _ 9 _ _ (by rfl) (by first | exact Or.inl rfl | exact Or.inr (Or.inl rfl) | exact Or.inr (Or.inr rfl)) (by decide) (by decide))) (by intro _ ; rfl)) (@pe_lst _ _ _ _ (@pa_nil _)) (nomark _)) (@pss_one _ _ _ (@ps_ret _ _ _ _ (@pe_bl _ _ _ _))) (@pss_nil _))))))))) (by intro _ ; rfl)) (@pss_cons _ _ _ _ _ (@ps_set _ _ 3 _ _ _ _ sclaw.nd rfl (by first | exact Or.inl rfl | exact Or.inr rfl) (@pe_ix _ _ _ _ _ _ _ ix_H (@pe_lst _ _ _ _ (@pa_cons _ _ _ _ _ (@pe_str _ _ _ _) (@pa_cons _ _ _ _ _ (@pe_str _ _ _ _) (@pa_cons _ _ _ _ _ (@pe_str _ _ _ _) (@pa_cons _ _ _ _ _ (@pe_op _ _ _ _ _ _ _ _ op_add_str (@pe_op _ _ _ _ _ _ _ _ op_mulS (@pe_str _ _ _ _) (@pe_int _ _ _ _)) (@pe_str _ _ _ _)) (@pa_nil _) (by rfl)) (by rfl)) (by rfl)) (by rfl))) (@pe_callD _ _ _ _ _ _ _ _ _ _ D_law_next (hr.mono (by omega)) (by rfl) (@pa_cons _ _ _ _ _ (@pv _ 1 _ _ (by rfl) (by first | exact Or.inl rfl | exact Or.inr (Or.inl rfl) | exact Or.inr (Or.inr rfl)) (by decide) (by decide)) (@pa_cons _ _ _ _ _ (@pe_int _ _ _ _) (@pa_nil _) (by rfl)) (by rfl)) (by decide) (by rfl) (by rfl)) (fun _ _ => rfl)) (by rfl) (by first | exact .inl rfl | exact .inr rfl | assumption)) (@pss_cons _ _ _ _ _ (@ps_if _ _ _ _ _ _ _ _ (@pt_cmpR _ _ _ _ _ _ _ _ (op_neD hr.units) (@pe_lst _ _ _ _ (@pa_cons _ _ _ _ _ (@pe_strX _ _ _ _ _ _ _ _ _ _ _ _ _ _ _ _ _ OA PySem.F.excBase_ValueError (by decide) PySem.F.excBase_ValueError pA FA hr.units (by rfl) T.str_ (by rfl) (@pv _ 3 _ _ (by rfl) (by first | exact Or.inl rfl | exact Or.inr (Or.inl rfl) | exact Or.inr (Or.inr rfl)) (by decide) (by decide)) (by decide) (by rfl) (by rfl)) (@pa_cons _ _ _ _ _ (@pe_strX _ _ _ _ _ _ _ _ _ _ _ _ _ _ _ _ _ OP PySem.F.excBase_ValueError (by decide) PySem.F.excBase_ValueError pP FP hr.units (by rfl) T.str_ (by rfl) (@pv _ 3 _ _ (by rfl) (by first | exact Or.inl rfl | exact Or.inr (Or.inl rfl) | exact Or.inr (Or.inr rfl)) (by decide) (by decide)) (by decide) (by rfl) (by rfl)) (@pa_cons _ _ _ _ _ (@pe_strX _ _ _ _ _ _ _ _ _ _ _ _ _ _ _ _ _ OT PySem.F.excBase_ValueError (by decide) PySem.F.excBase_ValueError pT FT hr.units (by rfl) T.str_ (by rfl) (@pv _ 3 _ _ (by rfl) (by first | exact Or.inl rfl | exact Or.inr (Or.inl rfl) | exact Or.inr (Or.inr rfl)) (by decide) (by decide)) (by decide) (by rfl) (by rfl)) (@pa_nil _) (by rfl)) (by rfl)) (by rfl))) (@pe_op _ _ _ _ _ _ _ _ op_rep (@pe_lst _ _ _ _ (@pa_cons _ _ _ _ _ (@pv _ 3 _ _ (by rfl) (by first | exact Or.inl rfl | exact Or.inr (Or.inl rfl) | exact Or.inr (Or.inr rfl)) (by decide) (by decide)) (@pa_nil _) (by rfl))) (@pe_int _ _ _ _)) (nomark _)) (@pss_one _ _ _ (@ps_ret _ _ _ _ (@pe_bl _ _ _ _))) (@pss_nil _)) (@pss_cons _ _ _ _ _ (@ps_if _ _ _ _ _ _ _ _ (@PW.pt _ _ _ (@pw_or _ _ _ _ _ _ _ (@pt_cmpR _ _ _ _ _ _ _ _ (op_neD hr.units) (@pe_callD _ _ _ _ _ _ _ _ _ _ D_law_kind (hr.mono (by omega)) (by rfl) (@pa_cons _ _ _ _ _ (@pe_mkI _ _ _ _ _ _ _ _ _ _ _ MH (hr.mono (by omega)) (by rfl) (@pe_int _ _ _ _) (by decide) (by rfl)) (@pa_nil _) (by rfl)) (by decide) (by rfl) (by rfl)) (@pe_tup _ _ _ _ _ (@pa_cons _ _ _ _ _ (@pe_str _ _ _ _) (@pa_cons _ _ _ _ _ (@pe_int _ _ _ _) (@pa_nil _) (by rfl)) (by rfl))) (nomark _)) (@pw_or1 _ _ _ _ (@pt_cmpR _ _ _ _ _ _ _ _ (op_neD hr.units) (@pe_callD _ _ _ _ _ _ _ _ _ _ D_law_kind (hr.mono (by omega)) (by rfl) (@pa_cons _ _ _ _ _ (@pe_mkI _ _ _ _ _ _ _ _ _ _ _ MW (hr.mono (by omega)) (by rfl) (@pe_int _ _ _ _) (by decide) (by rfl)) (@pa_nil _) (by rfl)) (by decide) (by rfl) (by rfl)) (@pe_tup _ _ _ _ _ (@pa_cons _ _ _ _ _ (@pe_str _ _ _ _) (@pa_cons _ _ _ _ _ (@pe_int _ _ _ _) (@pa_nil _) (by rfl)) (by rfl))) (nomark _))))) (@pss_one _ _ _ (@ps_ret _ _ _ _ (@pe_bl _ _ _ _))) (@pss_nil _)) (@pss_one _ _ _ (@ps_ret _ _ _ _ (@pe_cmpR _ _ _ _ _ _ _ _ (op_eqNil hr.units) (@pe_lc _ _ _ _ _ _ ([("text", 4)]) _ _ (gName 4) _ _ (by rfl) sclaw.nd (@pi_list _ _ _ _ (@pe_lst _ _ _ _ (@pa_cons _ _ _ _ _ (@pe_str _ _ _ _) (@pa_cons _ _ _ _ _ (@pe_str _ _ _ _) (@pa_cons _ _ _ _ _ (@pe_str _ _ _ _) (@pa_cons _ _ _ _ _ (@pe_str _ _ _ _) (@pa_cons _ _ _ _ _ (@pe_str _ _ _ _) (@pa_cons _ _ _ _ _ (@pe_str _ _ _ _) (@pa_cons _ _ _ _ _ (@pe_str _ _ _ _) (@pa_cons _ _ _ _ _ (@pe_str _ _ _ _) (@pa_cons _ _ _ _ _ (@pe_op _ _ _ _ _ _ _ _ op_mulS (@pe_str _ _ _ _) (@pe_int _ _ _ _)) (@pa_nil _) (by rfl)) (by rfl)) (by rfl)) (by rfl)) (by rfl)) (by rfl)) (by rfl)) (by rfl)) (by rfl)))) (blkOk_by (own := [("text", 4)]) (N := ["script", "deck", "turn", "said", "text", "some", "free", "k", "weight", "odd"]) (sc := defScope slaw) (by decide +kernel)) (fun _ _ _ _ _ => @pg_name _ _ 4 _ sclaw.nd rfl (Or.inl rfl) (by first | exact .inl rfl | exact .inr rfl | assumption)) (fun _ _ _ _ _ => (@pts_one _ _ _ (@pt_not _ _ _ _ (@pt_val _ _ _ (@pe_callD _ _ _ _ _ _ _ _ _ _ D_law_right (hr.mono (by omega)) (by rfl) (@pa_cons _ _ _ _ _ (@pv _ 4 _ _ (by rfl) (by first | exact Or.inl rfl | exact Or.inr (Or.inl rfl) | exact Or.inr (Or.inr rfl)) (by decide) (by decide)) (@pa_nil _) (by rfl)) (by decide) (by rfl) (by rfl)) (by intro _ ; rfl))))) (fun _ _ _ _ _ => (@pv _ 4 _ _ (by rfl) (by first | exact Or.inl rfl | exact Or.inr (Or.inl rfl) | exact Or.inr (Or.inr rfl)) (by decide) (by decide))) (by intro _ ; rfl)) (@pe_lst _ _ _ _ (@pa_nil _)) (nomark _))))))))), ?_⟩
  rw [show start ["script", "deck", "turn", "said", "text", "some", "free", "k", "weight", "odd"] [V.ref a] = [some (V.ref a), none, none, none, none, none, none, none, none, none] from rfl]
  rw [rd_seq]
  simp only [rd_next, rd_drop, rd_ret, rd_retN, rd_ifS, rd_asg, rd_gName, rd_gNil, rd_gCons, rd_gTup, rd_gSub, rd_aug, rd_var, rd_C, rd_op, rd_un, rd_nil, rd_cons, rd_tup, rd_lst, rd_call, rd_cb, rd_test, rd_B, rd_and, rd_or, rd_not, rd_andV, rd_orV, rd_notV, rd_ifE, rd_bm0, rd_bm, rd_rv, rd_sl, rd_nopart, rd_part, rd_rI, rd_rI0, rd_rU, rd_ipI, rd_eqI, rd_neI, rd_eqB, rd_neB, rd_eqS, rd_neS, rd_ixU, rd_setU, rd_truL, rd_for1, rd_for2, rd_forL, rd_forT, rd_lc1, rd_lcL, rd_lcT, rd_yes, rd_wipe0, rd_wipe1, rd_rng1, rd_ref1, rd_cxK, rd_cons1, rd_one, at0, at1, at2, at3, at4, ix5_1, ix5_2, ix5_3, upd_upd, rd_bool, rd_some, rd_isv_int_int, rd_isv_int_bool, rd_isv_int_str, rd_isv_int_tuple, rd_isv_int_list, rd_isv_bl_int, rd_isv_bl_bool, rd_isv_bl_str, rd_isv_bl_tuple, rd_isv_bl_list, rd_isv_str_int, rd_isv_str_bool, rd_isv_str_str, rd_isv_str_tuple, rd_isv_str_list, rd_ml0, rd_ml, ln0, ln1, ln2, ln3, ln4, ln5, ln6, ln7, ln8, ln9, ln10, List.getElem?_cons_zero, List.getElem?_cons_succ, List.set_cons_zero, List.set_cons_succ, List.length_cons, List.length_nil, List.cons_append, List.nil_append, List.append_nil, Nat.reduceAdd, true_and, decide_true, decide_false, if_true, Bool.false_eq_true, if_false, Bool.not_true, Bool.not_false, rd_forE, rd_m1, rd_isS, rd_anyS, rd_joinI, rd_sumZ, rd_never, rd_lcZ, rd_min1, rd_sum1, rd_all1, rd_any1, rd_tup1, rd_gnR, rd_gnT, rd_gnL, rd_gLoc, rd_gCap, rd_gC, rd_gI, rd_int2b, rd_int1, rd_dget, rd_dput, rd_dnewT, rd_dnewK, rd_truT, rd_forR, rd_for3, rd_lc2, rd_rng2, rd_forET, rd_par, rd_forES, rd_xfld, rd_raiseI, rd_isS, rd_forS, rd_lcS, rd_rep, rd_mkI, rd_mkX, rd_strX]
  have sl : (100000 : Nat) ≤ sizeLine := by decide
  refine ⟨a, ns, rfl, hS, h63, fun D H0 s0 fD dD => ?_⟩
  have tb0 := Tb.same s0 hT
  dsimp only
  rw [rd_seq]
  simp only [rd_next, rd_drop, rd_ret, rd_retN, rd_ifS, rd_asg, rd_gName, rd_gNil, rd_gCons, rd_gTup, rd_gSub, rd_aug, rd_var, rd_C, rd_op, rd_un, rd_nil, rd_cons, rd_tup, rd_lst, rd_call, rd_cb, rd_test, rd_B, rd_and, rd_or, rd_not, rd_andV, rd_orV, rd_notV, rd_ifE, rd_bm0, rd_bm, rd_rv, rd_sl, rd_nopart, rd_part, rd_rI, rd_rI0, rd_rU, rd_ipI, rd_eqI, rd_neI, rd_eqB, rd_neB, rd_eqS, rd_neS, rd_ixU, rd_setU, rd_truL, rd_for1, rd_for2, rd_forL, rd_forT, rd_lc1, rd_lcL, rd_lcT, rd_yes, rd_wipe0, rd_wipe1, rd_rng1, rd_ref1, rd_cxK, rd_cons1, rd_one, at0, at1, at2, at3, at4, ix5_1, ix5_2, ix5_3, upd_upd, rd_bool, rd_some, rd_isv_int_int, rd_isv_int_bool, rd_isv_int_str, rd_isv_int_tuple, rd_isv_int_list, rd_isv_bl_int, rd_isv_bl_bool, rd_isv_bl_str, rd_isv_bl_tuple, rd_isv_bl_list, rd_isv_str_int, rd_isv_str_bool, rd_isv_str_str, rd_isv_str_tuple, rd_isv_str_list, rd_ml0, rd_ml, ln0, ln1, ln2, ln3, ln4, ln5, ln6, ln7, ln8, ln9, ln10, List.getElem?_cons_zero, List.getElem?_cons_succ, List.set_cons_zero, List.set_cons_succ, List.length_cons, List.length_nil, List.cons_append, List.nil_append, List.append_nil, Nat.reduceAdd, true_and, decide_true, decide_false, if_true, Bool.false_eq_true, if_false, Bool.not_true, Bool.not_false, rd_forE, rd_m1, rd_isS, rd_anyS, rd_joinI, rd_sumZ, rd_never, rd_lcZ, rd_min1, rd_sum1, rd_all1, rd_any1, rd_tup1, rd_gnR, rd_gnT, rd_gnL, rd_gLoc, rd_gCap, rd_gC, rd_gI, rd_int2b, rd_int1, rd_dget, rd_dput, rd_dnewT, rd_dnewK, rd_truT, rd_forR, rd_for3, rd_lc2, rd_rng2, rd_forET, rd_par, rd_forES, rd_xfld, rd_raiseI, rd_isS, rd_forS, rd_lcS, rd_rep, rd_mkI, rd_mkX, rd_strX]
  refine ⟨by decide, by decide, ?_⟩
  refine forW_range (fun i σ G => ∃ (a2 a3 a4 a5 a6 a7 a8 a9 : Option V), σ = [some (.ref a), some (.ref D), a2, a3, a4, a5, a6, a7, a8, a9] ∧ Tb P1 G ∧ Dk G D (3000 * i)) ⟨_, _, _, _, _, _, _, _, rfl, tb0, dD⟩ ?_ ?_
  · rintro i σ G hi ⟨a2, a3, a4, a5, a6, a7, a8, a9, rfl, tb, d⟩
    have hi6 : i < 6 := hi
    generalize hc : 3000 * i = c at *
    have hc1 : c < 20000 := by omega
    rw [rd_gName, rd_seq]
    simp only [rd_next, rd_drop, rd_ret, rd_retN, rd_ifS, rd_asg, rd_gName, rd_gNil, rd_gCons, rd_gTup, rd_gSub, rd_aug, rd_var, rd_C, rd_op, rd_un, rd_nil, rd_cons, rd_tup, rd_lst, rd_call, rd_cb, rd_test, rd_B, rd_and, rd_or, rd_not, rd_andV, rd_orV, rd_notV, rd_ifE, rd_bm0, rd_bm, rd_rv, rd_sl, rd_nopart, rd_part, rd_rI, rd_rI0, rd_rU, rd_ipI, rd_eqI, rd_neI, rd_eqB, rd_neB, rd_eqS, rd_neS, rd_ixU, rd_setU, rd_truL, rd_for1, rd_for2, rd_forL, rd_forT, rd_lc1, rd_lcL, rd_lcT, rd_yes, rd_wipe0, rd_wipe1, rd_rng1, rd_ref1, rd_cxK, rd_cons1, rd_one, at0, at1, at2, at3, at4, ix5_1, ix5_2, ix5_3, upd_upd, rd_bool, rd_some, rd_isv_int_int, rd_isv_int_bool, rd_isv_int_str, rd_isv_int_tuple, rd_isv_int_list, rd_isv_bl_int, rd_isv_bl_bool, rd_isv_bl_str, rd_isv_bl_tuple, rd_isv_bl_list, rd_isv_str_int, rd_isv_str_bool, rd_isv_str_str, rd_isv_str_tuple, rd_isv_str_list, rd_ml0, rd_ml, ln0, ln1, ln2, ln3, ln4, ln5, ln6, ln7, ln8, ln9, ln10, List.getElem?_cons_zero, List.getElem?_cons_succ, List.set_cons_zero, List.set_cons_succ, List.length_cons, List.length_nil, List.cons_append, List.nil_append, List.append_nil, Nat.reduceAdd, true_and, decide_true, decide_false, if_true, Bool.false_eq_true, if_false, Bool.not_true, Bool.not_false, rd_forE, rd_m1, rd_isS, rd_anyS, rd_joinI, rd_sumZ, rd_never, rd_lcZ, rd_min1, rd_sum1, rd_all1, rd_any1, rd_tup1, rd_gnR, rd_gnT, rd_gnL, rd_gLoc, rd_gCap, rd_gC, rd_gI, rd_int2b, rd_int1, rd_dget, rd_dput, rd_dnewT, rd_dnewK, rd_truT, rd_forR, rd_for3, rd_lc2, rd_rng2, rd_forET, rd_par, rd_forES, rd_xfld, rd_raiseI, rd_isS, rd_forS, rd_lcS, rd_rep, rd_mkI, rd_mkX, rd_strX]
    refine ⟨D, c, 24, rfl, by decide, by decide, d, by omega, fun l ns G1 hl hnl h1 h24 hns k1 d1 => ?_⟩
    have tb1 := (Kg.kp d k1).tb _ tb
    have hn24 : ns.length ≤ 24 := by omega
    obtain ⟨hx, hxs⟩ := shown_len2 hns hn24
    try dsimp only
    refine ⟨l, rfl, ⟨_, SqT.of hl⟩, fun B hB => ?_⟩
    have sB := same_new hB (.lst [])
    refine lcW_tup (xs := ns.map V.int) (fun j G' => Same G1 G' ∧ G' B = some (.lst (((ns.take j).map sh).map V.str))) ⟨sB, upd_same⟩ (fun j G' _ h => h.1 _ _ hl) (fun j u G' hu ⟨sg, gB⟩ => ?_) (fun G2 ⟨sg, gB⟩ => ?_)
    · rw [List.getElem?_map] at hu
      obtain ⟨n, hn, rfl⟩ := Option.map_eq_some_iff.mp hu
      have hnm := hns n (List.mem_of_getElem? hn)
      have hjl : j < ns.length := (List.getElem?_eq_some_iff.mp hn).1
      rw [List.map_cons, List.map_nil]
      simp only [rd_seq, rd_next, rd_drop, rd_ret, rd_retN, rd_ifS, rd_asg, rd_gName, rd_gNil, rd_gCons, rd_gTup, rd_gSub, rd_aug, rd_var, rd_C, rd_op, rd_un, rd_nil, rd_cons, rd_tup, rd_lst, rd_call, rd_cb, rd_test, rd_B, rd_and, rd_or, rd_not, rd_andV, rd_orV, rd_notV, rd_ifE, rd_bm0, rd_bm, rd_rv, rd_sl, rd_nopart, rd_part, rd_rI, rd_rI0, rd_rU, rd_ipI, rd_eqI, rd_neI, rd_eqB, rd_neB, rd_eqS, rd_neS, rd_ixU, rd_setU, rd_truL, rd_for1, rd_for2, rd_forL, rd_forT, rd_lc1, rd_lcL, rd_lcT, rd_yes, rd_wipe0, rd_wipe1, rd_rng1, rd_ref1, rd_cxK, rd_cons1, rd_one, at0, at1, at2, at3, at4, ix5_1, ix5_2, ix5_3, upd_upd, rd_bool, rd_some, rd_isv_int_int, rd_isv_int_bool, rd_isv_int_str, rd_isv_int_tuple, rd_isv_int_list, rd_isv_bl_int, rd_isv_bl_bool, rd_isv_bl_str, rd_isv_bl_tuple, rd_isv_bl_list, rd_isv_str_int, rd_isv_str_bool, rd_isv_str_str, rd_isv_str_tuple, rd_isv_str_list, rd_ml0, rd_ml, ln0, ln1, ln2, ln3, ln4, ln5, ln6, ln7, ln8, ln9, ln10, List.getElem?_cons_zero, List.getElem?_cons_succ, List.set_cons_zero, List.set_cons_succ, List.length_cons, List.length_nil, List.cons_append, List.nil_append, List.append_nil, Nat.reduceAdd, true_and, decide_true, decide_false, if_true, Bool.false_eq_true, if_false, Bool.not_true, Bool.not_false, rd_forE, rd_m1, rd_isS, rd_anyS, rd_joinI, rd_sumZ, rd_never, rd_lcZ, rd_min1, rd_sum1, rd_all1, rd_any1, rd_tup1, rd_gnR, rd_gnT, rd_gnL, rd_gLoc, rd_gCap, rd_gC, rd_gI, rd_int2b, rd_int1, rd_dget, rd_dput, rd_dnewT, rd_dnewK, rd_truT, rd_forR, rd_for3, rd_lc2, rd_rng2, rd_forET, rd_par, rd_forES, rd_xfld, rd_raiseI, rd_isS, rd_forS, rd_lcS, rd_rep, rd_mkI, rd_mkX, rd_strX]
      refine ⟨log_small hnm.1 hnm.2, _, gB, small100k (by simp; omega), same_own sg hB _, ?_⟩
      rw [upd_same, List.take_succ, hn]
      simp only [Option.toList_some, List.map_append, List.map_cons, List.map_nil]
    rw [List.length_map, List.take_length] at gB
    refine ⟨_, B, ns.map sh, rfl, rfl, .inl (SqL.of gB), by rw [List.length_map]; simp only [show (Str.ofString " ").length = 1 from rfl]; omega, ?_⟩
    have d2 := d1.same sg
    have tb2 := Tb.same sg tb1
    generalize Txt.join (Str.ofString " ") (ns.map sh) = x at *
    clear gB sB hB sg hl hnl h1 h24 hns hxs tb1 d1 k1 d tb hn24
    try dsimp only
    rw [rd_seq]
    simp only [rd_next, rd_drop, rd_ret, rd_retN, rd_ifS, rd_asg, rd_gName, rd_gNil, rd_gCons, rd_gTup, rd_gSub, rd_aug, rd_var, rd_C, rd_op, rd_un, rd_nil, rd_cons, rd_tup, rd_lst, rd_call, rd_cb, rd_test, rd_B, rd_and, rd_or, rd_not, rd_andV, rd_orV, rd_notV, rd_ifE, rd_bm0, rd_bm, rd_rv, rd_sl, rd_nopart, rd_part, rd_rI, rd_rI0, rd_rU, rd_ipI, rd_eqI, rd_neI, rd_eqB, rd_neB, rd_eqS, rd_neS, rd_ixU, rd_setU, rd_truL, rd_for1, rd_for2, rd_forL, rd_forT, rd_lc1, rd_lcL, rd_lcT, rd_yes, rd_wipe0, rd_wipe1, rd_rng1, rd_ref1, rd_cxK, rd_cons1, rd_one, at0, at1, at2, at3, at4, ix5_1, ix5_2, ix5_3, upd_upd, rd_bool, rd_some, rd_isv_int_int, rd_isv_int_bool, rd_isv_int_str, rd_isv_int_tuple, rd_isv_int_list, rd_isv_bl_int, rd_isv_bl_bool, rd_isv_bl_str, rd_isv_bl_tuple, rd_isv_bl_list, rd_isv_str_int, rd_isv_str_bool, rd_isv_str_str, rd_isv_str_tuple, rd_isv_str_list, rd_ml0, rd_ml, ln0, ln1, ln2, ln3, ln4, ln5, ln6, ln7, ln8, ln9, ln10, List.getElem?_cons_zero, List.getElem?_cons_succ, List.set_cons_zero, List.set_cons_succ, List.length_cons, List.length_nil, List.cons_append, List.nil_append, List.append_nil, Nat.reduceAdd, true_and, decide_true, decide_false, if_true, Bool.false_eq_true, if_false, Bool.not_true, Bool.not_false, rd_forE, rd_m1, rd_isS, rd_anyS, rd_joinI, rd_sumZ, rd_never, rd_lcZ, rd_min1, rd_sum1, rd_all1, rd_any1, rd_tup1, rd_gnR, rd_gnT, rd_gnL, rd_gLoc, rd_gCap, rd_gC, rd_gI, rd_int2b, rd_int1, rd_dget, rd_dput, rd_dnewT, rd_dnewK, rd_truT, rd_forR, rd_for3, rd_lc2, rd_rng2, rd_forET, rd_par, rd_forES, rd_xfld, rd_raiseI, rd_isS, rd_forS, rd_lcS, rd_rep, rd_mkI, rd_mkX, rd_strX]
    refine ⟨by decide, by decide, fun B hB => ?_⟩
    have nB := d2.nd hB
    refine lcW_range (fun j G' => ∃ ys : List Str, G' B = some (.lst (ys.map V.str)) ∧ ys.length = j ∧ (∀ y ∈ ys, y.length ≤ 4000) ∧ Tb P1 G' ∧ Kp D G2 G' ∧ Dk G' D (c + 60 + 40 * j)) ⟨[], upd_same, rfl, (fun y hy => absurd hy (by simp)), Tb.same (same_new hB _) tb2, same_kp (same_new hB _), d2.same (same_new hB _)⟩ ?_ ?_
    · rintro j G' hj ⟨ys, gB, hyl, hys, tbj, kj, dj⟩
      have hj5 : j < 5 := hj
      simp only [rd_seq, rd_next, rd_drop, rd_ret, rd_retN, rd_ifS, rd_asg, rd_gName, rd_gNil, rd_gCons, rd_gTup, rd_gSub, rd_aug, rd_var, rd_C, rd_op, rd_un, rd_nil, rd_cons, rd_tup, rd_lst, rd_call, rd_cb, rd_test, rd_B, rd_and, rd_or, rd_not, rd_andV, rd_orV, rd_notV, rd_ifE, rd_bm0, rd_bm, rd_rv, rd_sl, rd_nopart, rd_part, rd_rI, rd_rI0, rd_rU, rd_ipI, rd_eqI, rd_neI, rd_eqB, rd_neB, rd_eqS, rd_neS, rd_ixU, rd_setU, rd_truL, rd_for1, rd_for2, rd_forL, rd_forT, rd_lc1, rd_lcL, rd_lcT, rd_yes, rd_wipe0, rd_wipe1, rd_rng1, rd_ref1, rd_cxK, rd_cons1, rd_one, at0, at1, at2, at3, at4, ix5_1, ix5_2, ix5_3, upd_upd, rd_bool, rd_some, rd_isv_int_int, rd_isv_int_bool, rd_isv_int_str, rd_isv_int_tuple, rd_isv_int_list, rd_isv_bl_int, rd_isv_bl_bool, rd_isv_bl_str, rd_isv_bl_tuple, rd_isv_bl_list, rd_isv_str_int, rd_isv_str_bool, rd_isv_str_str, rd_isv_str_tuple, rd_isv_str_list, rd_ml0, rd_ml, ln0, ln1, ln2, ln3, ln4, ln5, ln6, ln7, ln8, ln9, ln10, List.getElem?_cons_zero, List.getElem?_cons_succ, List.set_cons_zero, List.set_cons_succ, List.length_cons, List.length_nil, List.cons_append, List.nil_append, List.append_nil, Nat.reduceAdd, true_and, decide_true, decide_false, if_true, Bool.false_eq_true, if_false, Bool.not_true, Bool.not_false, rd_forE, rd_m1, rd_isS, rd_anyS, rd_joinI, rd_sumZ, rd_never, rd_lcZ, rd_min1, rd_sum1, rd_all1, rd_any1, rd_tup1, rd_gnR, rd_gnT, rd_gnL, rd_gLoc, rd_gCap, rd_gC, rd_gI, rd_int2b, rd_int1, rd_dget, rd_dput, rd_dnewT, rd_dnewK, rd_truT, rd_forR, rd_for3, rd_lc2, rd_rng2, rd_forET, rd_par, rd_forES, rd_xfld, rd_raiseI, rd_isS, rd_forS, rd_lcS, rd_rep, rd_mkI, rd_mkX, rd_strX, List.map_cons, List.map_nil]
      refine ⟨D, x, _, rfl, dj, by omega, hx, fun y G3 hy k3 d3 => ?_⟩
      have gB3 := k3.keep B _ gB nB
      have tb4 := (Kg.kp dj k3).tb _ tbj
      refine ⟨_, gB3, small100k (by rw [List.length_map]; omega), ys ++ [y], by rw [upd_same]; simp, by simp; omega, fun y' hy' => ?_, tb_lst gB3 tb4, (kj.trans k3).own hB _, (d2.own (kj.trans k3) d3 hB _).mono (by omega)⟩
      rcases List.mem_append.mp hy' with e | e
      · exact hys y' e
      · rw [List.mem_singleton] at e; subst e; exact hy
    rintro G3 ⟨ys, gB, hyl, hys, tb3, k3, d3⟩
    rw [show Int.toNat 5 = 5 from rfl] at hyl d3
    clear k3 tb2 d2 hB
    try dsimp only
    rw [rd_seq]
    simp only [rd_next, rd_drop, rd_ret, rd_retN, rd_ifS, rd_asg, rd_gName, rd_gNil, rd_gCons, rd_gTup, rd_gSub, rd_aug, rd_var, rd_C, rd_op, rd_un, rd_nil, rd_cons, rd_tup, rd_lst, rd_call, rd_cb, rd_test, rd_B, rd_and, rd_or, rd_not, rd_andV, rd_orV, rd_notV, rd_ifE, rd_bm0, rd_bm, rd_rv, rd_sl, rd_nopart, rd_part, rd_rI, rd_rI0, rd_rU, rd_ipI, rd_eqI, rd_neI, rd_eqB, rd_neB, rd_eqS, rd_neS, rd_ixU, rd_setU, rd_truL, rd_for1, rd_for2, rd_forL, rd_forT, rd_lc1, rd_lcL, rd_lcT, rd_yes, rd_wipe0, rd_wipe1, rd_rng1, rd_ref1, rd_cxK, rd_cons1, rd_one, at0, at1, at2, at3, at4, ix5_1, ix5_2, ix5_3, upd_upd, rd_bool, rd_some, rd_isv_int_int, rd_isv_int_bool, rd_isv_int_str, rd_isv_int_tuple, rd_isv_int_list, rd_isv_bl_int, rd_isv_bl_bool, rd_isv_bl_str, rd_isv_bl_tuple, rd_isv_bl_list, rd_isv_str_int, rd_isv_str_bool, rd_isv_str_str, rd_isv_str_tuple, rd_isv_str_list, rd_ml0, rd_ml, ln0, ln1, ln2, ln3, ln4, ln5, ln6, ln7, ln8, ln9, ln10, List.getElem?_cons_zero, List.getElem?_cons_succ, List.set_cons_zero, List.set_cons_succ, List.length_cons, List.length_nil, List.cons_append, List.nil_append, List.append_nil, Nat.reduceAdd, true_and, decide_true, decide_false, if_true, Bool.false_eq_true, if_false, Bool.not_true, Bool.not_false, rd_forE, rd_m1, rd_isS, rd_anyS, rd_joinI, rd_sumZ, rd_never, rd_lcZ, rd_min1, rd_sum1, rd_all1, rd_any1, rd_tup1, rd_gnR, rd_gnT, rd_gnL, rd_gLoc, rd_gCap, rd_gC, rd_gI, rd_int2b, rd_int1, rd_dget, rd_dput, rd_dnewT, rd_dnewK, rd_truT, rd_forR, rd_for3, rd_lc2, rd_rng2, rd_forET, rd_par, rd_forES, rd_xfld, rd_raiseI, rd_isS, rd_forS, rd_lcS, rd_rep, rd_mkI, rd_mkX, rd_strX]
    have c1 : (Str.ofString " ").length = 1 := rfl
    have c2 : (Str.ofString "\n").length = 1 := rfl
    have c3 : (Str.ofString "0").length = 1 := rfl
    have c4 : (Str.ofString "-").length = 1 := rfl
    refine ⟨_, _, rfl, rfl, by omega, _, _, rfl, rfl, by omega, _, _, rfl, rfl, by omega, _, _, rfl, rfl, by omega, x, rfl, by omega, fun y hy p hp => ?_⟩
    have sp := same_new hp (.lst [V.str (Str.ofString " " ++ x), V.str (x ++ Str.ofString " "), V.str (x ++ Str.ofString "\n"), V.str (Str.ofString "0" ++ x), V.str (Str.ofString "-" ++ x), V.str y, V.str x])
    rw [rd_cat (sp _ _ gB) upd_same]
    have hal0 : Al ((ys.map V.str) ++ [V.str (Str.ofString " " ++ x), V.str (x ++ Str.ofString " "), V.str (x ++ Str.ofString "\n"), V.str (Str.ofString "0" ++ x), V.str (Str.ofString "-" ++ x), V.str y, V.str x]) :=
      (Al.map fun y hy => by have := hys y hy; omega).app (.cons (by rw [len_app]; omega) (.cons (by rw [len_app]; omega) (.cons (by rw [len_app]; omega) (.cons (by rw [len_app]; omega) (.cons (by rw [len_app]; omega) (.cons (by omega) (.cons (by omega) .nil)))))))
    have hun0 : ((ys.map V.str) ++ [V.str (Str.ofString " " ++ x), V.str (x ++ Str.ofString " "), V.str (x ++ Str.ofString "\n"), V.str (Str.ofString "0" ++ x), V.str (Str.ofString "-" ++ x), V.str y, V.str x]).length ≤ 20 := by simp; omega
    refine ⟨by simp; omega, fun q1 hq1 => ?_⟩
    generalize (ys.map V.str) ++ [V.str (Str.ofString " " ++ x), V.str (x ++ Str.ofString " "), V.str (x ++ Str.ofString "\n"), V.str (Str.ofString "0" ++ x), V.str (Str.ofString "-" ++ x), V.str y, V.str x] = us at *
    have s1 := sp.trans (same_new hq1 (.lst us))
    have l1 := upd_same (H := upd G3 p (.lst [V.str (Str.ofString " " ++ x), V.str (x ++ Str.ofString " "), V.str (x ++ Str.ofString "\n"), V.str (Str.ofString "0" ++ x), V.str (Str.ofString "-" ++ x), V.str y, V.str x])) (a := q1) (o := .lst us)
    have f1 : G3 q1 = none := sp.free hq1
    have nq1 := d3.nd f1
    have tb4 := Tb.same s1 tb3
    have d4 := d3.same s1
    generalize upd (upd G3 p (.lst [V.str (Str.ofString " " ++ x), V.str (x ++ Str.ofString " "), V.str (x ++ Str.ofString "\n"), V.str (Str.ofString "0" ++ x), V.str (Str.ofString "-" ++ x), V.str y, V.str x])) q1 (.lst us) = G4 at *
    have k34 : Kp D G3 G4 := same_kp s1
    clear s1 sp hp hq1 tb3 gB hys hyl
    try dsimp only
    rw [rd_seq]
    simp only [rd_next, rd_drop, rd_ret, rd_retN, rd_ifS, rd_asg, rd_gName, rd_gNil, rd_gCons, rd_gTup, rd_gSub, rd_aug, rd_var, rd_C, rd_op, rd_un, rd_nil, rd_cons, rd_tup, rd_lst, rd_call, rd_cb, rd_test, rd_B, rd_and, rd_or, rd_not, rd_andV, rd_orV, rd_notV, rd_ifE, rd_bm0, rd_bm, rd_rv, rd_sl, rd_nopart, rd_part, rd_rI, rd_rI0, rd_rU, rd_ipI, rd_eqI, rd_neI, rd_eqB, rd_neB, rd_eqS, rd_neS, rd_ixU, rd_setU, rd_truL, rd_for1, rd_for2, rd_forL, rd_forT, rd_lc1, rd_lcL, rd_lcT, rd_yes, rd_wipe0, rd_wipe1, rd_rng1, rd_ref1, rd_cxK, rd_cons1, rd_one, at0, at1, at2, at3, at4, ix5_1, ix5_2, ix5_3, upd_upd, rd_bool, rd_some, rd_isv_int_int, rd_isv_int_bool, rd_isv_int_str, rd_isv_int_tuple, rd_isv_int_list, rd_isv_bl_int, rd_isv_bl_bool, rd_isv_bl_str, rd_isv_bl_tuple, rd_isv_bl_list, rd_isv_str_int, rd_isv_str_bool, rd_isv_str_str, rd_isv_str_tuple, rd_isv_str_list, rd_ml0, rd_ml, ln0, ln1, ln2, ln3, ln4, ln5, ln6, ln7, ln8, ln9, ln10, List.getElem?_cons_zero, List.getElem?_cons_succ, List.set_cons_zero, List.set_cons_succ, List.length_cons, List.length_nil, List.cons_append, List.nil_append, List.append_nil, Nat.reduceAdd, true_and, decide_true, decide_false, if_true, Bool.false_eq_true, if_false, Bool.not_true, Bool.not_false, rd_forE, rd_m1, rd_isS, rd_anyS, rd_joinI, rd_sumZ, rd_never, rd_lcZ, rd_min1, rd_sum1, rd_all1, rd_any1, rd_tup1, rd_gnR, rd_gnT, rd_gnL, rd_gLoc, rd_gCap, rd_gC, rd_gI, rd_int2b, rd_int1, rd_dget, rd_dput, rd_dnewT, rd_dnewK, rd_truT, rd_forR, rd_for3, rd_lc2, rd_rng2, rd_forET, rd_par, rd_forES, rd_xfld, rd_raiseI, rd_isS, rd_forS, rd_lcS, rd_rep, rd_mkI, rd_mkX, rd_strX]
    refine ⟨⟨q1, us, rfl, l1⟩, _, _, rfl, rfl, by decide +kernel, by omega, fun w1 hw1 => ?_⟩
    rw [show Txt.split x (Str.ofString " ") = Txt.split x bl from rfl]
    have hwl := split_len x
    have hwm := split_mem x
    generalize Txt.split x bl = ws at *
    have t1 := same_new hw1 (.lst (ws.map V.str))
    have m1 := upd_same (H := G4) (a := w1) (o := .lst (ws.map V.str))
    have e24 : (24 : Int).toNat = 24 := rfl
    have hrep : (List.replicate 24 (ws.map V.str)).flatten = ((List.replicate 24 ws).flatten).map V.str := by rw [List.map_flatten, List.map_replicate]
    have hrl : ((List.replicate 24 ws).flatten).length = 24 * ws.length := len_rep ws 24
    have hrm : ∀ y ∈ (List.replicate 24 ws).flatten, y.length ≤ x.length := fun y hy => by
      obtain ⟨l, hl, hyl⟩ := List.mem_flatten.mp hy
      rw [List.mem_replicate] at hl
      rw [hl.2] at hyl
      exact hwm y hyl
    refine ⟨w1, 24, _, rfl, rfl, m1, by decide, by decide, by rw [List.length_map, e24]; omega, fun w2 hw2 => ?_⟩
    rw [e24, hrep]
    rw [hrep] at *
    have t2 := same_new hw2 (.lst (((List.replicate 24 ws).flatten).map V.str))
    have m2 := upd_same (H := upd G4 w1 (.lst (ws.map V.str))) (a := w2) (o := .lst (((List.replicate 24 ws).flatten).map V.str))
    generalize (List.replicate 24 ws).flatten = rs at *
    refine ⟨w2, _, rfl, SqL.of m2, fun w3 hw3 => ?_⟩
    have t3 := same_new hw3 (.lst (cutV (rs.map V.str) none (some 23)))
    have m3 := upd_same (H := upd (upd G4 w1 (.lst (ws.map V.str))) w2 (.lst (rs.map V.str))) (a := w3) (o := .lst (cutV (rs.map V.str) none (some 23)))
    rw [cutV_map] at t3 m3 ⊢
    have hcl : ((rs.drop (HT.sIx rs.length 0 none)).take (HT.sIx rs.length rs.length (some 23) - HT.sIx rs.length 0 none)).length ≤ 23 := by
      rw [List.length_take, show (some (23 : Int)) = some ((23 : Nat) : Int) from rfl, HT.sIx_nat]; omega
    have hcm : ∀ y ∈ (rs.drop (HT.sIx rs.length 0 none)).take (HT.sIx rs.length rs.length (some 23) - HT.sIx rs.length 0 none), y.length ≤ x.length := fun y hy => hrm y (List.mem_of_mem_drop (List.mem_of_mem_take hy))
    generalize (rs.drop (HT.sIx rs.length 0 none)).take (HT.sIx rs.length rs.length (some 23) - HT.sIx rs.length 0 none) = cs at *
    obtain ⟨j1, j2⟩ := join_len cs 400 23 (fun y hy => by have := hcm y hy; omega) hcl (Str.ofString " ") (by decide)
    have s5 := t1.trans (t2.trans t3)
    have l5 := s5 _ _ l1
    have tb5 := Tb.same s5 tb4
    have d5 := d4.same s5
    refine ⟨_, w3, cs, rfl, rfl, .inl (SqL.of m3), by omega, _, _, rfl, rfl, by omega, D, _, rfl, d5, by omega, fun sg G6 hsg k6 d6 => ?_⟩
    have l6 := k6.keep q1 _ l5 nq1
    have tb6 := (Kg.kp d5 k6).tb _ tb5
    generalize upd (upd (upd G4 w1 (.lst (ws.map V.str))) w2 (.lst (rs.map V.str))) w3 (.lst (cs.map V.str)) = G5 at *
    refine ⟨_, _, rfl, rfl, by rw [len_app]; omega, ?_⟩
    rw [rd_append l6]
    refine ⟨small100k (by omega), ?_⟩
    have hal1 : Al (us ++ [V.str (Txt.join (Str.ofString " ") cs ++ Str.ofString " " ++ sg)]) := hal0.app (.one (by rw [len_app, len_app]; omega))
    have hun1 : (us ++ [V.str (Txt.join (Str.ofString " ") cs ++ Str.ofString " " ++ sg)]).length ≤ 21 := by simp; omega
    have l7 := upd_same (H := G6) (a := q1) (o := .lst (us ++ [V.str (Txt.join (Str.ofString " ") cs ++ Str.ofString " " ++ sg)]))
    have tb7 := tb_lst (ys := us ++ [V.str (Txt.join (Str.ofString " ") cs ++ Str.ofString " " ++ sg)]) l6 tb6
    have k36 : Kp D G3 G6 := (k34.trans (same_kp s5)).trans k6
    have d7 := d3.own k36 d6 f1 (.lst (us ++ [V.str (Txt.join (Str.ofString " ") cs ++ Str.ofString " " ++ sg)]))
    have k37 := k36.own f1 (.lst (us ++ [V.str (Txt.join (Str.ofString " ") cs ++ Str.ofString " " ++ sg)]))
    generalize us ++ [V.str (Txt.join (Str.ofString " ") cs ++ Str.ofString " " ++ sg)] = vs at *
    generalize upd G6 q1 (.lst vs) = G7 at *
    clear tb6 d6 l6 k6 d5 tb5 l5 s5 m1 m2 m3 t1 t2 t3 hw1 hw2 hw3 hal0 hun0 l1 tb4 d4 k34 k36
    rw [rd_seq]
    simp only [rd_next, rd_drop, rd_ret, rd_retN, rd_ifS, rd_asg, rd_gName, rd_gNil, rd_gCons, rd_gTup, rd_gSub, rd_aug, rd_var, rd_C, rd_op, rd_un, rd_nil, rd_cons, rd_tup, rd_lst, rd_call, rd_cb, rd_test, rd_B, rd_and, rd_or, rd_not, rd_andV, rd_orV, rd_notV, rd_ifE, rd_bm0, rd_bm, rd_rv, rd_sl, rd_nopart, rd_part, rd_rI, rd_rI0, rd_rU, rd_ipI, rd_eqI, rd_neI, rd_eqB, rd_neB, rd_eqS, rd_neS, rd_ixU, rd_setU, rd_truL, rd_for1, rd_for2, rd_forL, rd_forT, rd_lc1, rd_lcL, rd_lcT, rd_yes, rd_wipe0, rd_wipe1, rd_rng1, rd_ref1, rd_cxK, rd_cons1, rd_one, at0, at1, at2, at3, at4, ix5_1, ix5_2, ix5_3, upd_upd, rd_bool, rd_some, rd_isv_int_int, rd_isv_int_bool, rd_isv_int_str, rd_isv_int_tuple, rd_isv_int_list, rd_isv_bl_int, rd_isv_bl_bool, rd_isv_bl_str, rd_isv_bl_tuple, rd_isv_bl_list, rd_isv_str_int, rd_isv_str_bool, rd_isv_str_str, rd_isv_str_tuple, rd_isv_str_list, rd_ml0, rd_ml, ln0, ln1, ln2, ln3, ln4, ln5, ln6, ln7, ln8, ln9, ln10, List.getElem?_cons_zero, List.getElem?_cons_succ, List.set_cons_zero, List.set_cons_succ, List.length_cons, List.length_nil, List.cons_append, List.nil_append, List.append_nil, Nat.reduceAdd, true_and, decide_true, decide_false, if_true, Bool.false_eq_true, if_false, Bool.not_true, Bool.not_false, rd_forE, rd_m1, rd_isS, rd_anyS, rd_joinI, rd_sumZ, rd_never, rd_lcZ, rd_min1, rd_sum1, rd_all1, rd_any1, rd_tup1, rd_gnR, rd_gnT, rd_gnL, rd_gLoc, rd_gCap, rd_gC, rd_gI, rd_int2b, rd_int1, rd_dget, rd_dput, rd_dnewT, rd_dnewK, rd_truT, rd_forR, rd_for3, rd_lc2, rd_rng2, rd_forET, rd_par, rd_forES, rd_xfld, rd_raiseI, rd_isS, rd_forS, rd_lcS, rd_rep, rd_mkI, rd_mkX, rd_strX]
    refine ⟨D, 30, _, rfl, d7, by omega, by decide, by decide, fun r8 G8 x8 y8 k8 d8 p8 hp8 => ?_⟩
    have l8 := k8.keep q1 _ l7 nq1
    have tb8 := (Kg.kp d7 k8).tb _ tb7
    have s8 := same_new hp8 (.lst [V.int r8, V.int 400])
    have e8 := upd_same (H := G8) (a := p8) (o := .lst [V.int r8, V.int 400])
    have np8 := d8.nd hp8
    refine ⟨D, 12, _, rfl, d8.same s8, by omega, by decide, by decide, fun r9 G9 x9 y9 k9 d9 => ?_⟩
    have l9 := k9.keep q1 _ (s8 _ _ l8) nq1
    have tb9 := (Kg.kp (d8.same s8) k9).tb _ (Tb.same s8 tb8)
    have e9 := k9.keep p8 _ e8 np8
    simp only [rd_next, rd_drop, rd_ret, rd_retN, rd_ifS, rd_asg, rd_gName, rd_gNil, rd_gCons, rd_gTup, rd_gSub, rd_aug, rd_var, rd_C, rd_op, rd_un, rd_nil, rd_cons, rd_tup, rd_lst, rd_call, rd_cb, rd_test, rd_B, rd_and, rd_or, rd_not, rd_andV, rd_orV, rd_notV, rd_ifE, rd_bm0, rd_bm, rd_rv, rd_sl, rd_nopart, rd_part, rd_rI, rd_rI0, rd_rU, rd_ipI, rd_eqI, rd_neI, rd_eqB, rd_neB, rd_eqS, rd_neS, rd_ixU, rd_setU, rd_truL, rd_for1, rd_for2, rd_forL, rd_forT, rd_lc1, rd_lcL, rd_lcT, rd_yes, rd_wipe0, rd_wipe1, rd_rng1, rd_ref1, rd_cxK, rd_cons1, rd_one, at0, at1, at2, at3, at4, ix5_1, ix5_2, ix5_3, upd_upd, rd_bool, rd_some, rd_isv_int_int, rd_isv_int_bool, rd_isv_int_str, rd_isv_int_tuple, rd_isv_int_list, rd_isv_bl_int, rd_isv_bl_bool, rd_isv_bl_str, rd_isv_bl_tuple, rd_isv_bl_list, rd_isv_str_int, rd_isv_str_bool, rd_isv_str_str, rd_isv_str_tuple, rd_isv_str_list, rd_ml0, rd_ml, ln0, ln1, ln2, ln3, ln4, ln5, ln6, ln7, ln8, ln9, ln10, List.getElem?_cons_zero, List.getElem?_cons_succ, List.set_cons_zero, List.set_cons_succ, List.length_cons, List.length_nil, List.cons_append, List.nil_append, List.append_nil, Nat.reduceAdd, true_and, decide_true, decide_false, if_true, Bool.false_eq_true, if_false, Bool.not_true, Bool.not_false, rd_forE, rd_m1, rd_isS, rd_anyS, rd_joinI, rd_sumZ, rd_never, rd_lcZ, rd_min1, rd_sum1, rd_all1, rd_any1, rd_tup1, rd_gnR, rd_gnT, rd_gnL, rd_gLoc, rd_gCap, rd_gC, rd_gI, rd_int2b, rd_int1, rd_dget, rd_dput, rd_dnewT, rd_dnewK, rd_truT, rd_forR, rd_for3, rd_lc2, rd_rng2, rd_forET, rd_par, rd_forES, rd_xfld, rd_raiseI, rd_isS, rd_forS, rd_lcS, rd_rep, rd_mkI, rd_mkX, rd_strX, rd_ixH e9]
    obtain ⟨vj, hvj, hmj⟩ := atI_in (xs := [V.int r8, V.int 400]) (k := if decide (r9 = 0) = true then 1 else 0) (by split <;> decide) (by split <;> simp)
    obtain ⟨jn, rfl, hjn⟩ : ∃ j : Nat, vj = .int j ∧ j ≤ 400 := by
      simp only [List.mem_cons, List.not_mem_nil, or_false] at hmj
      rcases hmj with rfl | rfl
      · exact ⟨r8.toNat, by rw [Int.toNat_of_nonneg x8], by omega⟩
      · exact ⟨400, rfl, by omega⟩
    refine .inr ⟨_, rfl, _, hvj, jn, rfl, by omega, by omega, fun B2 hB2 => ?_⟩
    rw [Int.toNat_natCast]
    have nB2 := d9.nd hB2
    have sB2 := same_new hB2 (.lst [])
    have l9b := sB2 _ _ l9
    clear hvj hmj e9 e8 s8 hp8 np8 k8 d8 tb8 l8 k9
    refine lcW_range (fun j G' => ∃ zs : List Str, G' B2 = some (.lst (zs.map V.str)) ∧ zs.length = j ∧ (∀ y ∈ zs, y.length ≤ 1) ∧ Tb P1 G' ∧ G' q1 = some (.lst vs) ∧ Kp D G9 G' ∧ Dk G' D (c + 300 + 3 * j)) ⟨[], upd_same, rfl, (fun y hy => absurd hy (by simp)), Tb.same sB2 tb9, l9b, same_kp sB2, (d9.same sB2).mono (by omega)⟩ ?_ ?_
    · rintro j G' hj ⟨zs, gB, hzl, hzs, tbj, lj, kj, dj⟩
      simp only [rd_seq, rd_next, rd_drop, rd_ret, rd_retN, rd_ifS, rd_asg, rd_gName, rd_gNil, rd_gCons, rd_gTup, rd_gSub, rd_aug, rd_var, rd_C, rd_op, rd_un, rd_nil, rd_cons, rd_tup, rd_lst, rd_call, rd_cb, rd_test, rd_B, rd_and, rd_or, rd_not, rd_andV, rd_orV, rd_notV, rd_ifE, rd_bm0, rd_bm, rd_rv, rd_sl, rd_nopart, rd_part, rd_rI, rd_rI0, rd_rU, rd_ipI, rd_eqI, rd_neI, rd_eqB, rd_neB, rd_eqS, rd_neS, rd_ixU, rd_setU, rd_truL, rd_for1, rd_for2, rd_forL, rd_forT, rd_lc1, rd_lcL, rd_lcT, rd_yes, rd_wipe0, rd_wipe1, rd_rng1, rd_ref1, rd_cxK, rd_cons1, rd_one, at0, at1, at2, at3, at4, ix5_1, ix5_2, ix5_3, upd_upd, rd_bool, rd_some, rd_isv_int_int, rd_isv_int_bool, rd_isv_int_str, rd_isv_int_tuple, rd_isv_int_list, rd_isv_bl_int, rd_isv_bl_bool, rd_isv_bl_str, rd_isv_bl_tuple, rd_isv_bl_list, rd_isv_str_int, rd_isv_str_bool, rd_isv_str_str, rd_isv_str_tuple, rd_isv_str_list, rd_ml0, rd_ml, ln0, ln1, ln2, ln3, ln4, ln5, ln6, ln7, ln8, ln9, ln10, List.getElem?_cons_zero, List.getElem?_cons_succ, List.set_cons_zero, List.set_cons_succ, List.length_cons, List.length_nil, List.cons_append, List.nil_append, List.append_nil, Nat.reduceAdd, true_and, decide_true, decide_false, if_true, Bool.false_eq_true, if_false, Bool.not_true, Bool.not_false, rd_forE, rd_m1, rd_isS, rd_anyS, rd_joinI, rd_sumZ, rd_never, rd_lcZ, rd_min1, rd_sum1, rd_all1, rd_any1, rd_tup1, rd_gnR, rd_gnT, rd_gnL, rd_gLoc, rd_gCap, rd_gC, rd_gI, rd_int2b, rd_int1, rd_dget, rd_dput, rd_dnewT, rd_dnewK, rd_truT, rd_forR, rd_for3, rd_lc2, rd_rng2, rd_forET, rd_par, rd_forES, rd_xfld, rd_raiseI, rd_isS, rd_forS, rd_lcS, rd_rep, rd_mkI, rd_mkX, rd_strX, List.map_cons, List.map_nil]
      refine ⟨D, _, rfl, dj, by omega, fun sg2 Ga hsg2 ka da => ?_⟩
      have gBa := ka.keep B2 _ gB nB2
      have la := ka.keep q1 _ lj nq1
      have tba := (Kg.kp dj ka).tb _ tbj
      have hqB : q1 ≠ B2 := fun e => by rw [e] at l9; rw [l9] at hB2; cases hB2
      refine ⟨_, gBa, small100k (by rw [List.length_map]; omega), zs ++ [sg2], by rw [upd_same]; simp, by simp; omega, fun y' hy' => ?_, tb_lst gBa tba, by rw [upd_ne hqB]; exact la, (kj.trans ka).own hB2 _, (d9.own (kj.trans ka) da hB2 _).mono (by omega)⟩
      rcases List.mem_append.mp hy' with e | e
      · exact hzs y' e
      · rw [List.mem_singleton] at e; subst e; omega
    rintro Gb ⟨zs, gB, hzl, hzs, tbb, lb, kb, db⟩
    try dsimp only
    rw [rd_seq]
    simp only [rd_next, rd_drop, rd_ret, rd_retN, rd_ifS, rd_asg, rd_gName, rd_gNil, rd_gCons, rd_gTup, rd_gSub, rd_aug, rd_var, rd_C, rd_op, rd_un, rd_nil, rd_cons, rd_tup, rd_lst, rd_call, rd_cb, rd_test, rd_B, rd_and, rd_or, rd_not, rd_andV, rd_orV, rd_notV, rd_ifE, rd_bm0, rd_bm, rd_rv, rd_sl, rd_nopart, rd_part, rd_rI, rd_rI0, rd_rU, rd_ipI, rd_eqI, rd_neI, rd_eqB, rd_neB, rd_eqS, rd_neS, rd_ixU, rd_setU, rd_truL, rd_for1, rd_for2, rd_forL, rd_forT, rd_lc1, rd_lcL, rd_lcT, rd_yes, rd_wipe0, rd_wipe1, rd_rng1, rd_ref1, rd_cxK, rd_cons1, rd_one, at0, at1, at2, at3, at4, ix5_1, ix5_2, ix5_3, upd_upd, rd_bool, rd_some, rd_isv_int_int, rd_isv_int_bool, rd_isv_int_str, rd_isv_int_tuple, rd_isv_int_list, rd_isv_bl_int, rd_isv_bl_bool, rd_isv_bl_str, rd_isv_bl_tuple, rd_isv_bl_list, rd_isv_str_int, rd_isv_str_bool, rd_isv_str_str, rd_isv_str_tuple, rd_isv_str_list, rd_ml0, rd_ml, ln0, ln1, ln2, ln3, ln4, ln5, ln6, ln7, ln8, ln9, ln10, List.getElem?_cons_zero, List.getElem?_cons_succ, List.set_cons_zero, List.set_cons_succ, List.length_cons, List.length_nil, List.cons_append, List.nil_append, List.append_nil, Nat.reduceAdd, true_and, decide_true, decide_false, if_true, Bool.false_eq_true, if_false, Bool.not_true, Bool.not_false, rd_forE, rd_m1, rd_isS, rd_anyS, rd_joinI, rd_sumZ, rd_never, rd_lcZ, rd_min1, rd_sum1, rd_all1, rd_any1, rd_tup1, rd_gnR, rd_gnT, rd_gnL, rd_gLoc, rd_gCap, rd_gC, rd_gI, rd_int2b, rd_int1, rd_dget, rd_dput, rd_dnewT, rd_dnewK, rd_truT, rd_forR, rd_for3, rd_lc2, rd_rng2, rd_forET, rd_par, rd_forES, rd_xfld, rd_raiseI, rd_isS, rd_forS, rd_lcS, rd_rep, rd_mkI, rd_mkX, rd_strX]
    obtain ⟨j3, j4⟩ := join_len zs 1 400 hzs (by omega) (Str.ofString "") (by decide)
    refine ⟨_, B2, zs, rfl, rfl, .inl (SqL.of gB), by omega, D, _, rfl, db, by omega, fun sg3 Gc hsg3 kc dc => ?_⟩
    have lc := kc.keep q1 _ lb nq1
    have tbc := (Kg.kp db kc).tb _ tbb
    refine ⟨D, 20, _, rfl, dc, by omega, by decide, by decide, fun rd Gd xd yd kd dd => ?_⟩
    have ld := kd.keep q1 _ lc nq1
    have tbd := (Kg.kp dc kd).tb _ tbc
    have hml := mulS_len sg3 (1 + rd)
    have hml2 : sg3.length * (1 + rd).toNat ≤ 20 := by rw [hsg3]; omega
    dsimp only
    rw [rd_rI0]
    refine ⟨sg3, 1 + rd, rfl, rfl, by omega, by omega, by omega, _, _, rfl, rfl, by omega, fun pe hpe => ?_⟩
    have se := same_new hpe (.lst [V.str (Txt.join (Str.ofString "") zs), V.str (x ++ mulS sg3 (1 + rd))])
    rw [rd_cat (se _ _ ld) upd_same]
    have hal2 : Al (vs ++ [V.str (Txt.join (Str.ofString "") zs), V.str (x ++ mulS sg3 (1 + rd))]) := hal1.app (.cons (by omega) (.cons (by rw [len_app]; omega) .nil))
    have hun2 : (vs ++ [V.str (Txt.join (Str.ofString "") zs), V.str (x ++ mulS sg3 (1 + rd))]).length ≤ 23 := by simp; omega
    refine ⟨by simp; omega, fun q2 hq2 => ?_⟩
    generalize vs ++ [V.str (Txt.join (Str.ofString "") zs), V.str (x ++ mulS sg3 (1 + rd))] = vs2 at *
    have se2 := se.trans (same_new hq2 (.lst vs2))
    have l2 := upd_same (H := upd Gd pe (.lst [V.str (Txt.join (Str.ofString "") zs), V.str (x ++ mulS sg3 (1 + rd))])) (a := q2) (o := .lst vs2)
    have nq2 := dd.nd (se.free hq2)
    have tbe := Tb.same se2 tbd
    have de := dd.same se2
    generalize upd (upd Gd pe (.lst [V.str (Txt.join (Str.ofString "") zs), V.str (x ++ mulS sg3 (1 + rd))])) q2 (.lst vs2) = Ge at *
    refine ⟨D, _, rfl, de, by omega, fun sg4 Gf hsg4 kf df pf hpf => ?_⟩
    have lf := kf.keep q2 _ l2 nq2
    have tbf := (Kg.kp de kf).tb _ tbe
    have sf := same_new hpf (.lst [V.str sg4])
    rw [rd_cat (sf _ _ lf) upd_same]
    have hal3 : Al (vs2 ++ [V.str sg4]) := hal2.app (.one (by omega))
    refine ⟨by simp; omega, fun q3 hq3 => ?_⟩
    generalize vs2 ++ [V.str sg4] = vs3 at *
    have sf2 := sf.trans (same_new hq3 (.lst vs3))
    have l3 := upd_same (H := upd Gf pf (.lst [V.str sg4])) (a := q3) (o := .lst vs3)
    have tbg := Tb.same sf2 tbf
    have dg := df.same sf2
    generalize upd (upd Gf pf (.lst [V.str sg4])) q3 (.lst vs3) = Gg at *
    refine ⟨q3, rfl, ⟨_, SqL.of l3⟩, fun N hN => ?_⟩
    refine lcW_list (xs := vs3) (fun j G' => Fg Gg G' ∧ G' N = some (.lst [])) ⟨Fg.of (same_new hN _), upd_same⟩ (fun j G' _ h => h.1.lst l3) (fun j u G' hu ⟨fg, gN⟩ => ?_) (fun G' ⟨fg, gN⟩ pz hpz => ?_)
    · obtain ⟨y, rfl, hy⟩ := hal3 u (List.mem_of_getElem? hu)
      simp only [rd_seq, rd_next, rd_drop, rd_ret, rd_retN, rd_ifS, rd_asg, rd_gName, rd_gNil, rd_gCons, rd_gTup, rd_gSub, rd_aug, rd_var, rd_C, rd_op, rd_un, rd_nil, rd_cons, rd_tup, rd_lst, rd_call, rd_cb, rd_test, rd_B, rd_and, rd_or, rd_not, rd_andV, rd_orV, rd_notV, rd_ifE, rd_bm0, rd_bm, rd_rv, rd_sl, rd_nopart, rd_part, rd_rI, rd_rI0, rd_rU, rd_ipI, rd_eqI, rd_neI, rd_eqB, rd_neB, rd_eqS, rd_neS, rd_ixU, rd_setU, rd_truL, rd_for1, rd_for2, rd_forL, rd_forT, rd_lc1, rd_lcL, rd_lcT, rd_yes, rd_wipe0, rd_wipe1, rd_rng1, rd_ref1, rd_cxK, rd_cons1, rd_one, at0, at1, at2, at3, at4, ix5_1, ix5_2, ix5_3, upd_upd, rd_bool, rd_some, rd_isv_int_int, rd_isv_int_bool, rd_isv_int_str, rd_isv_int_tuple, rd_isv_int_list, rd_isv_bl_int, rd_isv_bl_bool, rd_isv_bl_str, rd_isv_bl_tuple, rd_isv_bl_list, rd_isv_str_int, rd_isv_str_bool, rd_isv_str_str, rd_isv_str_tuple, rd_isv_str_list, rd_ml0, rd_ml, ln0, ln1, ln2, ln3, ln4, ln5, ln6, ln7, ln8, ln9, ln10, List.getElem?_cons_zero, List.getElem?_cons_succ, List.set_cons_zero, List.set_cons_succ, List.length_cons, List.length_nil, List.cons_append, List.nil_append, List.append_nil, Nat.reduceAdd, true_and, decide_true, decide_false, if_true, Bool.false_eq_true, if_false, Bool.not_true, Bool.not_false, rd_forE, rd_m1, rd_isS, rd_anyS, rd_joinI, rd_sumZ, rd_never, rd_lcZ, rd_min1, rd_sum1, rd_all1, rd_any1, rd_tup1, rd_gnR, rd_gnT, rd_gnL, rd_gLoc, rd_gCap, rd_gC, rd_gI, rd_int2b, rd_int1, rd_dget, rd_dput, rd_dnewT, rd_dnewK, rd_truT, rd_forR, rd_for3, rd_lc2, rd_rng2, rd_forET, rd_par, rd_forES, rd_xfld, rd_raiseI, rd_isS, rd_forS, rd_lcS, rd_rep, rd_mkI, rd_mkX, rd_strX, List.map_cons, List.map_nil]
      refine ⟨y, rfl, fg.tb _ tbg, by omega, fun G8 f8 => ?_⟩
      simp only [rd_seq, rd_next, rd_drop, rd_ret, rd_retN, rd_ifS, rd_asg, rd_gName, rd_gNil, rd_gCons, rd_gTup, rd_gSub, rd_aug, rd_var, rd_C, rd_op, rd_un, rd_nil, rd_cons, rd_tup, rd_lst, rd_call, rd_cb, rd_test, rd_B, rd_and, rd_or, rd_not, rd_andV, rd_orV, rd_notV, rd_ifE, rd_bm0, rd_bm, rd_rv, rd_sl, rd_nopart, rd_part, rd_rI, rd_rI0, rd_rU, rd_ipI, rd_eqI, rd_neI, rd_eqB, rd_neB, rd_eqS, rd_neS, rd_ixU, rd_setU, rd_truL, rd_for1, rd_for2, rd_forL, rd_forT, rd_lc1, rd_lcL, rd_lcT, rd_yes, rd_wipe0, rd_wipe1, rd_rng1, rd_ref1, rd_cxK, rd_cons1, rd_one, at0, at1, at2, at3, at4, ix5_1, ix5_2, ix5_3, upd_upd, rd_bool, rd_some, rd_isv_int_int, rd_isv_int_bool, rd_isv_int_str, rd_isv_int_tuple, rd_isv_int_list, rd_isv_bl_int, rd_isv_bl_bool, rd_isv_bl_str, rd_isv_bl_tuple, rd_isv_bl_list, rd_isv_str_int, rd_isv_str_bool, rd_isv_str_str, rd_isv_str_tuple, rd_isv_str_list, rd_ml0, rd_ml, ln0, ln1, ln2, ln3, ln4, ln5, ln6, ln7, ln8, ln9, ln10, List.getElem?_cons_zero, List.getElem?_cons_succ, List.set_cons_zero, List.set_cons_succ, List.length_cons, List.length_nil, List.cons_append, List.nil_append, List.append_nil, Nat.reduceAdd, true_and, decide_true, decide_false, if_true, Bool.false_eq_true, if_false, Bool.not_true, Bool.not_false, rd_forE, rd_m1, rd_isS, rd_anyS, rd_joinI, rd_sumZ, rd_never, rd_lcZ, rd_min1, rd_sum1, rd_all1, rd_any1, rd_tup1, rd_gnR, rd_gnT, rd_gnL, rd_gLoc, rd_gCap, rd_gC, rd_gI, rd_int2b, rd_int1, rd_dget, rd_dput, rd_dnewT, rd_dnewK, rd_truT, rd_forR, rd_for3, rd_lc2, rd_rng2, rd_forET, rd_par, rd_forES, rd_xfld, rd_raiseI, rd_isS, rd_forS, rd_lcS, rd_rep, rd_mkI, rd_mkX, rd_strX]
      exact ⟨fg.trans f8, f8.lst gN⟩
    · have sz := same_new hpz (.lst [])
      simp only [rd_neNil (sz _ _ gN) upd_same, List.isEmpty_nil, rd_seq, rd_next, rd_drop, rd_ret, rd_retN, rd_ifS, rd_asg, rd_gName, rd_gNil, rd_gCons, rd_gTup, rd_gSub, rd_aug, rd_var, rd_C, rd_op, rd_un, rd_nil, rd_cons, rd_tup, rd_lst, rd_call, rd_cb, rd_test, rd_B, rd_and, rd_or, rd_not, rd_andV, rd_orV, rd_notV, rd_ifE, rd_bm0, rd_bm, rd_rv, rd_sl, rd_nopart, rd_part, rd_rI, rd_rI0, rd_rU, rd_ipI, rd_eqI, rd_neI, rd_eqB, rd_neB, rd_eqS, rd_neS, rd_ixU, rd_setU, rd_truL, rd_for1, rd_for2, rd_forL, rd_forT, rd_lc1, rd_lcL, rd_lcT, rd_yes, rd_wipe0, rd_wipe1, rd_rng1, rd_ref1, rd_cxK, rd_cons1, rd_one, at0, at1, at2, at3, at4, ix5_1, ix5_2, ix5_3, upd_upd, rd_bool, rd_some, rd_isv_int_int, rd_isv_int_bool, rd_isv_int_str, rd_isv_int_tuple, rd_isv_int_list, rd_isv_bl_int, rd_isv_bl_bool, rd_isv_bl_str, rd_isv_bl_tuple, rd_isv_bl_list, rd_isv_str_int, rd_isv_str_bool, rd_isv_str_str, rd_isv_str_tuple, rd_isv_str_list, rd_ml0, rd_ml, ln0, ln1, ln2, ln3, ln4, ln5, ln6, ln7, ln8, ln9, ln10, List.getElem?_cons_zero, List.getElem?_cons_succ, List.set_cons_zero, List.set_cons_succ, List.length_cons, List.length_nil, List.cons_append, List.nil_append, List.append_nil, Nat.reduceAdd, true_and, decide_true, decide_false, if_true, Bool.false_eq_true, if_false, Bool.not_true, Bool.not_false, rd_forE, rd_m1, rd_isS, rd_anyS, rd_joinI, rd_sumZ, rd_never, rd_lcZ, rd_min1, rd_sum1, rd_all1, rd_any1, rd_tup1, rd_gnR, rd_gnT, rd_gnL, rd_gLoc, rd_gCap, rd_gC, rd_gI, rd_int2b, rd_int1, rd_dget, rd_dput, rd_dnewT, rd_dnewK, rd_truT, rd_forR, rd_for3, rd_lc2, rd_rng2, rd_forET, rd_par, rd_forES, rd_xfld, rd_raiseI, rd_isS, rd_forS, rd_lcS, rd_rep, rd_mkI, rd_mkX, rd_strX]
      refine ⟨_, _, _, _, _, _, _, _, rfl, (fg.trans (Fg.of sz)).tb _ tbg, (dk_fg dg (fg.trans (Fg.of sz))).mono (by omega)⟩
  · rintro σ G ⟨a2, a3, a4, a5, a6, a7, a8, a9, rfl, tb, d⟩
    dsimp only
    rw [rd_seq]
    simp only [rd_next, rd_drop, rd_ret, rd_retN, rd_ifS, rd_asg, rd_gName, rd_gNil, rd_gCons, rd_gTup, rd_gSub, rd_aug, rd_var, rd_C, rd_op, rd_un, rd_nil, rd_cons, rd_tup, rd_lst, rd_call, rd_cb, rd_test, rd_B, rd_and, rd_or, rd_not, rd_andV, rd_orV, rd_notV, rd_ifE, rd_bm0, rd_bm, rd_rv, rd_sl, rd_nopart, rd_part, rd_rI, rd_rI0, rd_rU, rd_ipI, rd_eqI, rd_neI, rd_eqB, rd_neB, rd_eqS, rd_neS, rd_ixU, rd_setU, rd_truL, rd_for1, rd_for2, rd_forL, rd_forT, rd_lc1, rd_lcL, rd_lcT, rd_yes, rd_wipe0, rd_wipe1, rd_rng1, rd_ref1, rd_cxK, rd_cons1, rd_one, at0, at1, at2, at3, at4, ix5_1, ix5_2, ix5_3, upd_upd, rd_bool, rd_some, rd_isv_int_int, rd_isv_int_bool, rd_isv_int_str, rd_isv_int_tuple, rd_isv_int_list, rd_isv_bl_int, rd_isv_bl_bool, rd_isv_bl_str, rd_isv_bl_tuple, rd_isv_bl_list, rd_isv_str_int, rd_isv_str_bool, rd_isv_str_str, rd_isv_str_tuple, rd_isv_str_list, rd_ml0, rd_ml, ln0, ln1, ln2, ln3, ln4, ln5, ln6, ln7, ln8, ln9, ln10, List.getElem?_cons_zero, List.getElem?_cons_succ, List.set_cons_zero, List.set_cons_succ, List.length_cons, List.length_nil, List.cons_append, List.nil_append, List.append_nil, Nat.reduceAdd, true_and, decide_true, decide_false, if_true, Bool.false_eq_true, if_false, Bool.not_true, Bool.not_false, rd_forE, rd_m1, rd_isS, rd_anyS, rd_joinI, rd_sumZ, rd_never, rd_lcZ, rd_min1, rd_sum1, rd_all1, rd_any1, rd_tup1, rd_gnR, rd_gnT, rd_gnL, rd_gLoc, rd_gCap, rd_gC, rd_gI, rd_int2b, rd_int1, rd_dget, rd_dput, rd_dnewT, rd_dnewK, rd_truT, rd_forR, rd_for3, rd_lc2, rd_rng2, rd_forET, rd_par, rd_forES, rd_xfld, rd_raiseI, rd_isS, rd_forS, rd_lcS, rd_rep, rd_mkI, rd_mkX, rd_strX]
    have hm60 := mulS_len (Str.ofString "x") 60
    have cx : (Str.ofString "x").length = 1 := rfl
    have cn : (Str.ofString "\n").length = 1 := rfl
    rw [cx, show (60 : Int).toNat = 60 from rfl] at hm60
    refine ⟨_, 60, rfl, rfl, by decide, by decide, by rw [cx]; decide, _, _, rfl, rfl, by omega, fun p hp => ?_⟩
    have hok4 : ∀ z ∈ [Str.ofString " No such: 7", Str.ofString "", Str.ofString "a  B", mulS (Str.ofString "x") 60 ++ Str.ofString "\n"], PyData.strOk z = true := by decide +kernel
    have sp := same_new hp (.lst ([Str.ofString " No such: 7", Str.ofString "", Str.ofString "a  B", mulS (Str.ofString "x") 60 ++ Str.ofString "\n"].map V.str))
    have ep := upd_same (H := G) (a := p) (o := .lst ([Str.ofString " No such: 7", Str.ofString "", Str.ofString "a  B", mulS (Str.ofString "x") 60 ++ Str.ofString "\n"].map V.str))
    have d1 := d.same sp
    refine ⟨D, 4, _, rfl, d1, by omega, by decide, by decide, fun r2 G2 x2 y2 k2 d2 => ?_⟩
    have e2 := k2.keep p _ ep (d.nd hp)
    have tb2 := (Kg.kp d1 k2).tb _ (Tb.same sp tb)
    dsimp only
    rw [rd_ixH e2]
    obtain ⟨vs, hvs, hms⟩ := atI_in (xs := [Str.ofString " No such: 7", Str.ofString "", Str.ofString "a  B", mulS (Str.ofString "x") 60 ++ Str.ofString "\n"].map V.str) x2 (by simpa using y2)
    obtain ⟨sd, hsd, rfl⟩ := List.mem_map.mp hms
    have hso := hok4 sd hsd
    refine ⟨_, hvs, ?_⟩
    clear hvs hms hsd hok4 hm60 e2 ep sp hp k2 d1 d2 d tb
    rw [rd_seq]
    simp only [rd_next, rd_drop, rd_ret, rd_retN, rd_ifS, rd_asg, rd_gName, rd_gNil, rd_gCons, rd_gTup, rd_gSub, rd_aug, rd_var, rd_C, rd_op, rd_un, rd_nil, rd_cons, rd_tup, rd_lst, rd_call, rd_cb, rd_test, rd_B, rd_and, rd_or, rd_not, rd_andV, rd_orV, rd_notV, rd_ifE, rd_bm0, rd_bm, rd_rv, rd_sl, rd_nopart, rd_part, rd_rI, rd_rI0, rd_rU, rd_ipI, rd_eqI, rd_neI, rd_eqB, rd_neB, rd_eqS, rd_neS, rd_ixU, rd_setU, rd_truL, rd_for1, rd_for2, rd_forL, rd_forT, rd_lc1, rd_lcL, rd_lcT, rd_yes, rd_wipe0, rd_wipe1, rd_rng1, rd_ref1, rd_cxK, rd_cons1, rd_one, at0, at1, at2, at3, at4, ix5_1, ix5_2, ix5_3, upd_upd, rd_bool, rd_some, rd_isv_int_int, rd_isv_int_bool, rd_isv_int_str, rd_isv_int_tuple, rd_isv_int_list, rd_isv_bl_int, rd_isv_bl_bool, rd_isv_bl_str, rd_isv_bl_tuple, rd_isv_bl_list, rd_isv_str_int, rd_isv_str_bool, rd_isv_str_str, rd_isv_str_tuple, rd_isv_str_list, rd_ml0, rd_ml, ln0, ln1, ln2, ln3, ln4, ln5, ln6, ln7, ln8, ln9, ln10, List.getElem?_cons_zero, List.getElem?_cons_succ, List.set_cons_zero, List.set_cons_succ, List.length_cons, List.length_nil, List.cons_append, List.nil_append, List.append_nil, Nat.reduceAdd, true_and, decide_true, decide_false, if_true, Bool.false_eq_true, if_false, Bool.not_true, Bool.not_false, rd_forE, rd_m1, rd_isS, rd_anyS, rd_joinI, rd_sumZ, rd_never, rd_lcZ, rd_min1, rd_sum1, rd_all1, rd_any1, rd_tup1, rd_gnR, rd_gnT, rd_gnL, rd_gLoc, rd_gCap, rd_gC, rd_gI, rd_int2b, rd_int1, rd_dget, rd_dput, rd_dnewT, rd_dnewK, rd_truT, rd_forR, rd_for3, rd_lc2, rd_rng2, rd_forET, rd_par, rd_forES, rd_xfld, rd_raiseI, rd_isS, rd_forS, rd_lcS, rd_rep, rd_mkI, rd_mkX, rd_strX]
    refine ⟨sd, rfl, sd, rfl, sd, rfl, fun q1 hq1 q2 hq2 => ?_⟩
    have s1 := same_new hq1 (.lst [V.str sd, V.str sd, V.str sd])
    have l1 := upd_same (H := G2) (a := q1) (o := .lst [V.str sd, V.str sd, V.str sd])
    have s2 := same_new hq2 (.lst [V.str sd])
    have l2 := upd_same (H := upd G2 q1 (.lst [V.str sd, V.str sd, V.str sd])) (a := q2) (o := .lst [V.str sd])
    refine ⟨q2, 3, _, rfl, rfl, l2, by decide, by decide, show 3 ≤ sizeLine by decide, fun q3 hq3 => ?_⟩
    have s3 := same_new hq3 (.lst (List.replicate (3 : Int).toNat [V.str sd]).flatten)
    have l3 := upd_same (H := upd (upd G2 q1 (.lst [V.str sd, V.str sd, V.str sd])) q2 (.lst [V.str sd])) (a := q3) (o := .lst (List.replicate (3 : Int).toNat [V.str sd]).flatten)
    have tb3 := Tb.same (s1.trans (s2.trans s3)) tb2
    refine neL_strs (zs := [sd, sd, sd]) (fun z hz => by simp at hz; rw [hz]; exact hso) (s3 _ _ (s2 _ _ l1)) l3 ⟨false, rfl, ?_⟩
    generalize upd (upd (upd G2 q1 (.lst [V.str sd, V.str sd, V.str sd])) q2 (.lst [V.str sd])) q3 (.lst (List.replicate (3 : Int).toNat [V.str sd]).flatten) = G3 at *
    clear l1 l2 l3 s1 s2 s3 hq1 hq2 hq3 tb2
    rw [if_neg (by decide)]
    try dsimp only
    rw [rd_seq]
    simp only [rd_next, rd_drop, rd_ret, rd_retN, rd_ifS, rd_asg, rd_gName, rd_gNil, rd_gCons, rd_gTup, rd_gSub, rd_aug, rd_var, rd_C, rd_op, rd_un, rd_nil, rd_cons, rd_tup, rd_lst, rd_call, rd_cb, rd_test, rd_B, rd_and, rd_or, rd_not, rd_andV, rd_orV, rd_notV, rd_ifE, rd_bm0, rd_bm, rd_rv, rd_sl, rd_nopart, rd_part, rd_rI, rd_rI0, rd_rU, rd_ipI, rd_eqI, rd_neI, rd_eqB, rd_neB, rd_eqS, rd_neS, rd_ixU, rd_setU, rd_truL, rd_for1, rd_for2, rd_forL, rd_forT, rd_lc1, rd_lcL, rd_lcT, rd_yes, rd_wipe0, rd_wipe1, rd_rng1, rd_ref1, rd_cxK, rd_cons1, rd_one, at0, at1, at2, at3, at4, ix5_1, ix5_2, ix5_3, upd_upd, rd_bool, rd_some, rd_isv_int_int, rd_isv_int_bool, rd_isv_int_str, rd_isv_int_tuple, rd_isv_int_list, rd_isv_bl_int, rd_isv_bl_bool, rd_isv_bl_str, rd_isv_bl_tuple, rd_isv_bl_list, rd_isv_str_int, rd_isv_str_bool, rd_isv_str_str, rd_isv_str_tuple, rd_isv_str_list, rd_ml0, rd_ml, ln0, ln1, ln2, ln3, ln4, ln5, ln6, ln7, ln8, ln9, ln10, List.getElem?_cons_zero, List.getElem?_cons_succ, List.set_cons_zero, List.set_cons_succ, List.length_cons, List.length_nil, List.cons_append, List.nil_append, List.append_nil, Nat.reduceAdd, true_and, decide_true, decide_false, if_true, Bool.false_eq_true, if_false, Bool.not_true, Bool.not_false, rd_forE, rd_m1, rd_isS, rd_anyS, rd_joinI, rd_sumZ, rd_never, rd_lcZ, rd_min1, rd_sum1, rd_all1, rd_any1, rd_tup1, rd_gnR, rd_gnT, rd_gnL, rd_gLoc, rd_gCap, rd_gC, rd_gI, rd_int2b, rd_int1, rd_dget, rd_dput, rd_dnewT, rd_dnewK, rd_truT, rd_forR, rd_for3, rd_lc2, rd_rng2, rd_forET, rd_par, rd_forES, rd_xfld, rd_raiseI, rd_isS, rd_forS, rd_lcS, rd_rep, rd_mkI, rd_mkX, rd_strX]
    have hh : PyData.strOk (Str.ofString "heaps") = true := by decide +kernel
    have hw : PyData.strOk (Str.ofString "word") = true := by decide +kernel
    refine ⟨⟨7, rfl, by decide⟩, fun ax dx hax hdx hne => ?_⟩
    have u1 := same_new hax (exD (.ref NH) (some dx) ax)
    have hdx' : upd G3 ax (exD (.ref NH) (some dx) ax) dx = none := by rw [upd_ne hne]; exact hdx
    have u2 := same_new hdx' (.xd [(Str.ofString "place", V.int 7)])
    refine .inl ⟨ax, dx, 7, rfl, u2 _ _ upd_same, upd_same, fun l5 G5 s5 h5 p5 hp5 => ?_⟩
    have u5 := same_new hp5 (.tup [V.str (Str.ofString "heaps"), V.int 7])
    have tb5 := Tb.same ((u1.trans u2).trans (s5.trans u5)) tb3
    refine ne_sn hh (u5 _ _ h5) upd_same ⟨false, rfl, ?_⟩
    generalize upd G5 p5 (.tup [V.str (Str.ofString "heaps"), V.int 7]) = G6 at *
    clear u1 u2 u5 s5 h5 hp5 hdx' hax hdx tb3
    rw [if_neg (by decide)]
    refine ⟨⟨9, rfl, by decide⟩, fun ax dx hax hdx hne => ?_⟩
    have u1 := same_new hax (exD (.ref NW) (some dx) ax)
    have hdx' : upd G6 ax (exD (.ref NW) (some dx) ax) dx = none := by rw [upd_ne hne]; exact hdx
    have u2 := same_new hdx' (.xd [(Str.ofString "place", V.int 9)])
    refine .inr ⟨ax, dx, 9, rfl, u2 _ _ upd_same, upd_same, fun l7 G7 s7 h7 p7 hp7 => ?_⟩
    have u7 := same_new hp7 (.tup [V.str (Str.ofString "word"), V.int 9])
    have tb7 := Tb.same ((u1.trans u2).trans (s7.trans u7)) tb5
    refine ne_sn hw (u7 _ _ h7) upd_same ⟨false, rfl, ?_⟩
    generalize upd G7 p7 (.tup [V.str (Str.ofString "word"), V.int 9]) = G8 at *
    clear u1 u2 u7 s7 h7 hp7 hdx' hax hdx tb5
    rw [if_neg (by decide)]
    have hm4 := mulS_len (Str.ofString "~") 400
    have ct : (Str.ofString "~").length = 1 := rfl
    rw [ct, show (400 : Int).toNat = 400 from rfl] at hm4
    refine ⟨_, 400, rfl, rfl, by decide, by decide, by rw [ct]; decide, fun p9 hp9 => ?_⟩
    have c8 : ∀ y ∈ [Str.ofString "", Str.ofString " ", Str.ofString "\n", Str.ofString "0", Str.ofString "00", Str.ofString "1  2", Str.ofString "1,2", Str.ofString "1 2 "], y.length ≤ 4 := by decide +kernel
    have hal : Al [V.str (Str.ofString ""), V.str (Str.ofString " "), V.str (Str.ofString "\n"), V.str (Str.ofString "0"), V.str (Str.ofString "00"), V.str (Str.ofString "1  2"), V.str (Str.ofString "1,2"), V.str (Str.ofString "1 2 "), V.str (mulS (Str.ofString "~") 400)] :=
      (Al.map (ys := [Str.ofString "", Str.ofString " ", Str.ofString "\n", Str.ofString "0", Str.ofString "00", Str.ofString "1  2", Str.ofString "1,2", Str.ofString "1 2 "]) fun y hy => by have := c8 y hy; omega).app (.one (by omega))
    have s9 := same_new hp9 (.lst [V.str (Str.ofString ""), V.str (Str.ofString " "), V.str (Str.ofString "\n"), V.str (Str.ofString "0"), V.str (Str.ofString "00"), V.str (Str.ofString "1  2"), V.str (Str.ofString "1,2"), V.str (Str.ofString "1 2 "), V.str (mulS (Str.ofString "~") 400)])
    have l9 := upd_same (H := G8) (a := p9) (o := .lst [V.str (Str.ofString ""), V.str (Str.ofString " "), V.str (Str.ofString "\n"), V.str (Str.ofString "0"), V.str (Str.ofString "00"), V.str (Str.ofString "1  2"), V.str (Str.ofString "1,2"), V.str (Str.ofString "1 2 "), V.str (mulS (Str.ofString "~") 400)])
    generalize [V.str (Str.ofString ""), V.str (Str.ofString " "), V.str (Str.ofString "\n"), V.str (Str.ofString "0"), V.str (Str.ofString "00"), V.str (Str.ofString "1  2"), V.str (Str.ofString "1,2"), V.str (Str.ofString "1 2 "), V.str (mulS (Str.ofString "~") 400)] = us at *
    have tb9 := Tb.same s9 tb7
    generalize upd G8 p9 (.lst us) = G9 at *
    refine ⟨⟨_, SqL.of l9⟩, fun N hN => ?_⟩
    refine lcW_list (xs := us) (fun j G' => Fg G9 G' ∧ G' N = some (.lst [])) ⟨Fg.of (same_new hN _), upd_same⟩ (fun j G' _ h => h.1.lst l9) (fun j u G' hu ⟨fg, gN⟩ => ?_) (fun G' ⟨fg, gN⟩ pz hpz => ?_)
    · obtain ⟨y, rfl, hy⟩ := hal u (List.mem_of_getElem? hu)
      simp only [rd_seq, rd_next, rd_drop, rd_ret, rd_retN, rd_ifS, rd_asg, rd_gName, rd_gNil, rd_gCons, rd_gTup, rd_gSub, rd_aug, rd_var, rd_C, rd_op, rd_un, rd_nil, rd_cons, rd_tup, rd_lst, rd_call, rd_cb, rd_test, rd_B, rd_and, rd_or, rd_not, rd_andV, rd_orV, rd_notV, rd_ifE, rd_bm0, rd_bm, rd_rv, rd_sl, rd_nopart, rd_part, rd_rI, rd_rI0, rd_rU, rd_ipI, rd_eqI, rd_neI, rd_eqB, rd_neB, rd_eqS, rd_neS, rd_ixU, rd_setU, rd_truL, rd_for1, rd_for2, rd_forL, rd_forT, rd_lc1, rd_lcL, rd_lcT, rd_yes, rd_wipe0, rd_wipe1, rd_rng1, rd_ref1, rd_cxK, rd_cons1, rd_one, at0, at1, at2, at3, at4, ix5_1, ix5_2, ix5_3, upd_upd, rd_bool, rd_some, rd_isv_int_int, rd_isv_int_bool, rd_isv_int_str, rd_isv_int_tuple, rd_isv_int_list, rd_isv_bl_int, rd_isv_bl_bool, rd_isv_bl_str, rd_isv_bl_tuple, rd_isv_bl_list, rd_isv_str_int, rd_isv_str_bool, rd_isv_str_str, rd_isv_str_tuple, rd_isv_str_list, rd_ml0, rd_ml, ln0, ln1, ln2, ln3, ln4, ln5, ln6, ln7, ln8, ln9, ln10, List.getElem?_cons_zero, List.getElem?_cons_succ, List.set_cons_zero, List.set_cons_succ, List.length_cons, List.length_nil, List.cons_append, List.nil_append, List.append_nil, Nat.reduceAdd, true_and, decide_true, decide_false, if_true, Bool.false_eq_true, if_false, Bool.not_true, Bool.not_false, rd_forE, rd_m1, rd_isS, rd_anyS, rd_joinI, rd_sumZ, rd_never, rd_lcZ, rd_min1, rd_sum1, rd_all1, rd_any1, rd_tup1, rd_gnR, rd_gnT, rd_gnL, rd_gLoc, rd_gCap, rd_gC, rd_gI, rd_int2b, rd_int1, rd_dget, rd_dput, rd_dnewT, rd_dnewK, rd_truT, rd_forR, rd_for3, rd_lc2, rd_rng2, rd_forET, rd_par, rd_forES, rd_xfld, rd_raiseI, rd_isS, rd_forS, rd_lcS, rd_rep, rd_mkI, rd_mkX, rd_strX, List.map_cons, List.map_nil]
      refine ⟨y, rfl, fg.tb _ tb9, by omega, fun G8 f8 => ?_⟩
      simp only [rd_seq, rd_next, rd_drop, rd_ret, rd_retN, rd_ifS, rd_asg, rd_gName, rd_gNil, rd_gCons, rd_gTup, rd_gSub, rd_aug, rd_var, rd_C, rd_op, rd_un, rd_nil, rd_cons, rd_tup, rd_lst, rd_call, rd_cb, rd_test, rd_B, rd_and, rd_or, rd_not, rd_andV, rd_orV, rd_notV, rd_ifE, rd_bm0, rd_bm, rd_rv, rd_sl, rd_nopart, rd_part, rd_rI, rd_rI0, rd_rU, rd_ipI, rd_eqI, rd_neI, rd_eqB, rd_neB, rd_eqS, rd_neS, rd_ixU, rd_setU, rd_truL, rd_for1, rd_for2, rd_forL, rd_forT, rd_lc1, rd_lcL, rd_lcT, rd_yes, rd_wipe0, rd_wipe1, rd_rng1, rd_ref1, rd_cxK, rd_cons1, rd_one, at0, at1, at2, at3, at4, ix5_1, ix5_2, ix5_3, upd_upd, rd_bool, rd_some, rd_isv_int_int, rd_isv_int_bool, rd_isv_int_str, rd_isv_int_tuple, rd_isv_int_list, rd_isv_bl_int, rd_isv_bl_bool, rd_isv_bl_str, rd_isv_bl_tuple, rd_isv_bl_list, rd_isv_str_int, rd_isv_str_bool, rd_isv_str_str, rd_isv_str_tuple, rd_isv_str_list, rd_ml0, rd_ml, ln0, ln1, ln2, ln3, ln4, ln5, ln6, ln7, ln8, ln9, ln10, List.getElem?_cons_zero, List.getElem?_cons_succ, List.set_cons_zero, List.set_cons_succ, List.length_cons, List.length_nil, List.cons_append, List.nil_append, List.append_nil, Nat.reduceAdd, true_and, decide_true, decide_false, if_true, Bool.false_eq_true, if_false, Bool.not_true, Bool.not_false, rd_forE, rd_m1, rd_isS, rd_anyS, rd_joinI, rd_sumZ, rd_never, rd_lcZ, rd_min1, rd_sum1, rd_all1, rd_any1, rd_tup1, rd_gnR, rd_gnT, rd_gnL, rd_gLoc, rd_gCap, rd_gC, rd_gI, rd_int2b, rd_int1, rd_dget, rd_dput, rd_dnewT, rd_dnewK, rd_truT, rd_forR, rd_for3, rd_lc2, rd_rng2, rd_forET, rd_par, rd_forES, rd_xfld, rd_raiseI, rd_isS, rd_forS, rd_lcS, rd_rep, rd_mkI, rd_mkX, rd_strX]
      exact ⟨fg.trans f8, f8.lst gN⟩
    · have sz := same_new hpz (.lst [])
      exact ⟨N, pz, [], rfl, rfl, SqL.of (sz _ _ gN), SqL.of upd_same, q _⟩
end
end Q
set_option Elab.async false
set_option linter.all false
set_option maxRecDepth 100000
set_option maxHeartbeats 4000000
namespace Q
open PySem L2 L3 L4 Dm Tx Bn TL
theorem tr0 : PySem.TriplesOk (#[] : Array Value).toList := by simp [PySem.TriplesOk]
theorem all_mk {l : PySem.W.OpenLaw} {w : World} {K : PySem.W.Frag} {h : Heap} {mg : Str → Option Value} {fa : Addr} {f1 : Addr} {od1 an1 : Option Addr} {sl1 : Array (Option Value)} {oc1 kV1 dc1 pm1 cd1 ct1 : Value} {f2 : Addr} {od2 an2 : Option Addr} {sl2 : Array (Option Value)} {oc2 kV2 dc2 pm2 cd2 ct2 : Value} {f3 : Addr} {od3 an3 : Option Addr} {sl3 : Array (Option Value)} {oc3 kV3 dc3 pm3 cd3 ct3 : Value} {f4 : Addr} {od4 an4 : Option Addr} {sl4 : Array (Option Value)} {oc4 kV4 dc4 pm4 cd4 ct4 : Value} {f5 : Addr} {od5 an5 : Option Addr} {sl5 : Array (Option Value)} {oc5 kV5 dc5 pm5 cd5 ct5 : Value} {f6 : Addr} {od6 an6 : Option Addr} {sl6 : Array (Option Value)} {oc6 kV6 dc6 pm6 cd6 ct6 : Value} {f7 : Addr} {od7 an7 : Option Addr} {sl7 : Array (Option Value)} {oc7 kV7 dc7 pm7 cd7 ct7 : Value} {f8 : Addr} {od8 an8 : Option Addr} {sl8 : Array (Option Value)} {oc8 kV8 dc8 pm8 cd8 ct8 : Value} {f9 : Addr} {od9 an9 : Option Addr} {sl9 : Array (Option Value)} {oc9 kV9 dc9 pm9 cd9 ct9 : Value} {f10 : Addr} {od10 an10 : Option Addr} {sl10 : Array (Option Value)} {oc10 kV10 dc10 pm10 cd10 ct10 : Value} {f11 : Addr} {od11 an11 : Option Addr} {sl11 : Array (Option Value)} {oc11 kV11 dc11 pm11 cd11 ct11 : Value} {f12 : Addr} {od12 an12 : Option Addr} {sl12 : Array (Option Value)} {oc12 kV12 dc12 pm12 cd12 ct12 : Value} {f13 : Addr} {od13 an13 : Option Addr} {sl13 : Array (Option Value)} {oc13 kV13 dc13 pm13 cd13 ct13 : Value} {tk1 : Tok} {NA NH NP NT NW JE : Addr} {fIW : Addr} {odNW anNW : Option Addr} {slNW : Array (Option Value)} {ocNW kVNW dcNW pmNW cdNW ctNW : Value} {fIH : Addr} {odNH anNH : Option Addr} {slNH : Array (Option Value)} {ocNH kVNH dcNH pmNH cdNH ctNH : Value} (X : K.In h) (G : h.Ns mainGlobals mg) (hfa : mg "law" = some (.ref fa)) (hT : L4.Tabs ["writes_number"] mg h)
    (a1 : PySem.W.nsIn K mainGlobals "writes_number" = some (some (.ref f1))) (l1 : K.lookup f1 = some ⟨oc1, od1, .func (PySem.W.fnOf "writes_number" "writes_number" (defArgs swrites_number) (defBody swrites_number) (defScope swrites_number) .none kV1 dc1 pm1 an1 cd1 ct1), sl1⟩) (c1 : PySem.W.codeIn K cd1 "writes_number" = true) (k1 : PySem.W.keepIn K (.ref f1) = true)
    (a2 : PySem.W.nsIn K mainGlobals "read_heaps" = some (some (.ref f2))) (l2 : K.lookup f2 = some ⟨oc2, od2, .func (PySem.W.fnOf "read_heaps" "read_heaps" (defArgs sread_heaps) (defBody sread_heaps) (defScope sread_heaps) .none kV2 dc2 pm2 an2 cd2 ct2), sl2⟩) (c2 : PySem.W.codeIn K cd2 "read_heaps" = true) (k2 : PySem.W.keepIn K (.ref f2) = true)
    (a3 : PySem.W.nsIn K mainGlobals "_law_mix" = some (some (.ref f3))) (l3 : K.lookup f3 = some ⟨oc3, od3, .func (PySem.W.fnOf "_law_mix" "_law_mix" (defArgs s_law_mix) (defBody s_law_mix) (defScope s_law_mix) .none kV3 dc3 pm3 an3 cd3 ct3), sl3⟩) (c3 : PySem.W.codeIn K cd3 "_law_mix" = true) (k3 : PySem.W.keepIn K (.ref f3) = true)
    (a4 : PySem.W.nsIn K mainGlobals "_law_deck" = some (some (.ref f4))) (l4 : K.lookup f4 = some ⟨oc4, od4, .func (PySem.W.fnOf "_law_deck" "_law_deck" (defArgs s_law_deck) (defBody s_law_deck) (defScope s_law_deck) .none kV4 dc4 pm4 an4 cd4 ct4), sl4⟩) (c4 : PySem.W.codeIn K cd4 "_law_deck" = true) (k4 : PySem.W.keepIn K (.ref f4) = true)
    (a5 : PySem.W.nsIn K mainGlobals "_law_next" = some (some (.ref f5))) (l5 : K.lookup f5 = some ⟨oc5, od5, .func (PySem.W.fnOf "_law_next" "_law_next" (defArgs s_law_next) (defBody s_law_next) (defScope s_law_next) .none kV5 dc5 pm5 an5 cd5 ct5), sl5⟩) (c5 : PySem.W.codeIn K cd5 "_law_next" = true) (k5 : PySem.W.keepIn K (.ref f5) = true)
    (a6 : PySem.W.nsIn K mainGlobals "_law_heaps" = some (some (.ref f6))) (l6 : K.lookup f6 = some ⟨oc6, od6, .func (PySem.W.fnOf "_law_heaps" "_law_heaps" (defArgs s_law_heaps) (defBody s_law_heaps) (defScope s_law_heaps) .none kV6 dc6 pm6 an6 cd6 ct6), sl6⟩) (c6 : PySem.W.codeIn K cd6 "_law_heaps" = true) (k6 : PySem.W.keepIn K (.ref f6) = true)
    (a7 : PySem.W.nsIn K mainGlobals "_law_kind" = some (some (.ref f7))) (l7 : K.lookup f7 = some ⟨oc7, od7, .func (PySem.W.fnOf "_law_kind" "_law_kind" (defArgs s_law_kind) (defBody s_law_kind) (defScope s_law_kind) .none kV7 dc7 pm7 an7 cd7 ct7), sl7⟩) (c7 : PySem.W.codeIn K cd7 "_law_kind" = true) (k7 : PySem.W.keepIn K (.ref f7) = true)
    (a8 : PySem.W.nsIn K mainGlobals "_law_sign" = some (some (.ref f8))) (l8 : K.lookup f8 = some ⟨oc8, od8, .func (PySem.W.fnOf "_law_sign" "_law_sign" (defArgs s_law_sign) (defBody s_law_sign) (defScope s_law_sign) .none kV8 dc8 pm8 an8 cd8 ct8), sl8⟩) (c8 : PySem.W.codeIn K cd8 "_law_sign" = true) (k8 : PySem.W.keepIn K (.ref f8) = true)
    (a9 : PySem.W.nsIn K mainGlobals "_law_spoilt" = some (some (.ref f9))) (l9 : K.lookup f9 = some ⟨oc9, od9, .func (PySem.W.fnOf "_law_spoilt" "_law_spoilt" (defArgs s_law_spoilt) (defBody s_law_spoilt) (defScope s_law_spoilt) .none kV9 dc9 pm9 an9 cd9 ct9), sl9⟩) (c9 : PySem.W.codeIn K cd9 "_law_spoilt" = true) (k9 : PySem.W.keepIn K (.ref f9) = true)
    (a10 : PySem.W.nsIn K mainGlobals "_law_due" = some (some (.ref f10))) (l10 : K.lookup f10 = some ⟨oc10, od10, .func (PySem.W.fnOf "_law_due" "_law_due" (defArgs s_law_due) (defBody s_law_due) (defScope s_law_due) .none kV10 dc10 pm10 an10 cd10 ct10), sl10⟩) (c10 : PySem.W.codeIn K cd10 "_law_due" = true) (k10 : PySem.W.keepIn K (.ref f10) = true)
    (a11 : PySem.W.nsIn K mainGlobals "_law_is_beyond" = some (some (.ref f11))) (l11 : K.lookup f11 = some ⟨oc11, od11, .func (PySem.W.fnOf "_law_is_beyond" "_law_is_beyond" (defArgs s_law_is_beyond) (defBody s_law_is_beyond) (defScope s_law_is_beyond) .none kV11 dc11 pm11 an11 cd11 ct11), sl11⟩) (c11 : PySem.W.codeIn K cd11 "_law_is_beyond" = true) (k11 : PySem.W.keepIn K (.ref f11) = true)
    (a12 : PySem.W.nsIn K mainGlobals "_law_right" = some (some (.ref f12))) (l12 : K.lookup f12 = some ⟨oc12, od12, .func (PySem.W.fnOf "_law_right" "_law_right" (defArgs s_law_right) (defBody s_law_right) (defScope s_law_right) .none kV12 dc12 pm12 an12 cd12 ct12), sl12⟩) (c12 : PySem.W.codeIn K cd12 "_law_right" = true) (k12 : PySem.W.keepIn K (.ref f12) = true)
    (a13 : PySem.W.nsIn K mainGlobals "law" = some (some (.ref f13))) (l13 : K.lookup f13 = some ⟨oc13, od13, .func (PySem.W.fnOf "law" "law" (defArgs slaw) (defBody slaw) (defScope slaw) .none kV13 dc13 pm13 an13 cd13 ct13), sl13⟩) (c13 : PySem.W.codeIn K cd13 "law" = true) (k13 : PySem.W.keepIn K (.ref f13) = true)
    (z1 : PySem.W.nsIn K mainGlobals "len" = some none)
    (z2 : PySem.W.nsIn K mainGlobals "isinstance" = some none)
    (z3 : PySem.W.nsIn K mainGlobals "sum" = some none)
    (z4 : PySem.W.nsIn K mainGlobals "min" = some none)
    (z5 : PySem.W.nsIn K mainGlobals "max" = some none)
    (z6 : PySem.W.nsIn K mainGlobals "tuple" = some none)
    (z7 : PySem.W.nsIn K mainGlobals "range" = some none)
    (z8 : PySem.W.nsIn K mainGlobals "int" = some none)
    (z9 : PySem.W.nsIn K mainGlobals "bool" = some none)
    (z10 : PySem.W.nsIn K mainGlobals "str" = some none)
    (z11 : PySem.W.nsIn K mainGlobals "any" = some none)
    (z12 : PySem.W.nsIn K mainGlobals "all" = some none)
    (z13 : PySem.W.nsIn K mainGlobals "enumerate" = some none)
    (z14 : PySem.W.nsIn K mainGlobals "zip" = some none)
    (z15 : PySem.W.nsIn K mainGlobals "reversed" = some none)
    (z16 : PySem.W.nsIn K mainGlobals "sorted" = some none)
    (z17 : PySem.W.nsIn K mainGlobals "list" = some none)
    (z18 : PySem.W.nsIn K mainGlobals "abs" = some none)
    (g1 : PySem.W.nsIn K mainGlobals "FIGURES" = some (some (.str figs tk1)))
    (nNA : PySem.W.nsIn K mainGlobals "NoAsk" = some (some (.ref NA)))
    (nNH : PySem.W.nsIn K mainGlobals "NoHeaps" = some (some (.ref NH)))
    (nNP : PySem.W.nsIn K mainGlobals "NoPlace" = some (some (.ref NP)))
    (nNT : PySem.W.nsIn K mainGlobals "NoTree" = some (some (.ref NT)))
    (nNW : PySem.W.nsIn K mainGlobals "NoWord" = some (some (.ref NW)))
    (nJE : PySem.W.nsIn K mainGlobals "JoinError" = some (some (.ref JE)))
    (nVE : PySem.W.nsIn K mainGlobals "ValueError" = some none)
    (iNW : PySem.W.findIn K (.ref NW) "__init__" = some (some (.ref fIW)))
    (lNW : K.lookup fIW = some ⟨ocNW, odNW, .func (PySem.W.fnOf "__init__" "NoWord.__init__" (defArgs sInitW) (defBody sInitW) (defScope sInitW) .none kVNW dcNW pmNW anNW cdNW ctNW), slNW⟩)
    (cNW : PySem.W.codeIn K cdNW "NoWord.__init__" = true)
    (kNW : PySem.W.keepIn K (.ref fIW) = true)
    (fNW : PySem.W.isFn K (.ref fIW) = true)
    (pNW : PySem.W.keepIn K (.ref NW) = true)
    (eNW : excInI K NW fIW veMro "ValueError.__new__" = true)
    (mNW : PySem.W.exmOne K (.ref NW) (.ref JE) = some true)
    (u1NW : (PySem.W.clsIn K NW).map (fun cd => (cd.mro, cd.hasDict)) = some (.ref NW :: .ref JE :: veMro, true))
    (u2NW : PySem.W.findIn K (.ref NW) "__setattr__" = some (some (.builtin "object.__setattr__")))
    (u3NW : PySem.W.findIn K (.ref NW) "place" = some none)
    (u4NW : PySem.W.mroIn K NW (.type "ValueError") = some true)
    (u5NW : PySem.W.mroIn K NW (.type "object") = some true)
    (u6NW : PySem.W.readsIn K JE (.type "type") = true)
    (u7NW : PySem.W.findCls K (.ref JE) (.type "type") "__init__" = some (.val (.builtin "ValueError.__init__")))
    (u8NW : PySem.W.specialIn K (.ref JE) "__getattribute__" = some (some (.builtin "type.__getattribute__")))
    (xclNW : (PySem.W.clsIn K NW).isSome = true)
    (xgaNW : PySem.W.findIn K (.ref NW) "__getattribute__" = some (some (.builtin "BaseException.__getattribute__")))
    (xgtNW : PySem.W.findIn K (.ref NW) "__getattr__" = some none)
    (xacNW : PySem.W.findIn K (.ref NW) "__class__" = some (some (.builtin "object.__class__")))
    (xgnNW : PySem.W.specialIn K (.builtin "object.__class__") "__get__" = some (some (.builtin "getset_descriptor.__get__")))
    (xtkNW : PySem.W.takesIn K (.builtin "object.__class__") = some true)
    (xmoNW : PySem.W.mroIn K NW (.type "object") = some true)
    (xsbNW : PySem.W.subIn K (.ref NW) (.type "BaseException") = some true)
    (iNH : PySem.W.findIn K (.ref NH) "__init__" = some (some (.ref fIH)))
    (lNH : K.lookup fIH = some ⟨ocNH, odNH, .func (PySem.W.fnOf "__init__" "NoHeaps.__init__" (defArgs sInitH) (defBody sInitH) (defScope sInitH) .none kVNH dcNH pmNH anNH cdNH ctNH), slNH⟩)
    (cNH : PySem.W.codeIn K cdNH "NoHeaps.__init__" = true)
    (kNH : PySem.W.keepIn K (.ref fIH) = true)
    (fNH : PySem.W.isFn K (.ref fIH) = true)
    (pNH : PySem.W.keepIn K (.ref NH) = true)
    (eNH : excInI K NH fIH veMro "ValueError.__new__" = true)
    (mNH : PySem.W.exmOne K (.ref NH) (.ref JE) = some true)
    (u1NH : (PySem.W.clsIn K NH).map (fun cd => (cd.mro, cd.hasDict)) = some (.ref NH :: .ref JE :: veMro, true))
    (u2NH : PySem.W.findIn K (.ref NH) "__setattr__" = some (some (.builtin "object.__setattr__")))
    (u3NH : PySem.W.findIn K (.ref NH) "place" = some none)
    (u4NH : PySem.W.mroIn K NH (.type "ValueError") = some true)
    (u5NH : PySem.W.mroIn K NH (.type "object") = some true)
    (u6NH : PySem.W.readsIn K JE (.type "type") = true)
    (u7NH : PySem.W.findCls K (.ref JE) (.type "type") "__init__" = some (.val (.builtin "ValueError.__init__")))
    (u8NH : PySem.W.specialIn K (.ref JE) "__getattribute__" = some (some (.builtin "type.__getattribute__")))
    (xclNH : (PySem.W.clsIn K NH).isSome = true)
    (xgaNH : PySem.W.findIn K (.ref NH) "__getattribute__" = some (some (.builtin "BaseException.__getattribute__")))
    (xgtNH : PySem.W.findIn K (.ref NH) "__getattr__" = some none)
    (xacNH : PySem.W.findIn K (.ref NH) "__class__" = some (some (.builtin "object.__class__")))
    (xgnNH : PySem.W.specialIn K (.builtin "object.__class__") "__get__" = some (some (.builtin "getset_descriptor.__get__")))
    (xtkNH : PySem.W.takesIn K (.builtin "object.__class__") = some true)
    (xmoNH : PySem.W.mroIn K NH (.type "object") = some true)
    (xsbNH : PySem.W.subIn K (.ref NH) (.type "BaseException") = some true)
    (qNANW : PySem.W.kitOne K (.ref NW) (.ref NA) = some false)
    (qNHNW : PySem.W.kitOne K (.ref NW) (.ref NH) = some false)
    (qNPNW : PySem.W.kitOne K (.ref NW) (.ref NP) = some false)
    (qNTNW : PySem.W.kitOne K (.ref NW) (.ref NT) = some false)
    (qNWNW : PySem.W.kitOne K (.ref NW) (.ref NW) = some true)
    (qJENW : PySem.W.kitOne K (.ref NW) (.ref JE) = some true)
    (qVENW : PySem.W.kitOne K (.ref NW) (.type "ValueError") = some true)
    (qNANH : PySem.W.kitOne K (.ref NH) (.ref NA) = some false)
    (qNHNH : PySem.W.kitOne K (.ref NH) (.ref NH) = some true)
    (qNPNH : PySem.W.kitOne K (.ref NH) (.ref NP) = some false)
    (qNTNH : PySem.W.kitOne K (.ref NH) (.ref NT) = some false)
    (qNWNH : PySem.W.kitOne K (.ref NH) (.ref NW) = some false)
    (qJENH : PySem.W.kitOne K (.ref NH) (.ref JE) = some true)
    (qVENH : PySem.W.kitOne K (.ref NH) (.type "ValueError") = some true)
    (eNA : PySem.W.excIn K NA [.type "ValueError", .type "Exception", .type "BaseException", .type "object"] "ValueError.__new__" = true)
    (pNA : PySem.W.keepIn K (.ref NA) = true)
    (s1NA : PySem.W.findIn K (.ref NA) "__str__" = some (some (.builtin "BaseException.__str__")))
    (s2NA : PySem.W.mroIn K NA (.type "BaseException") = some true)
    (eNP : PySem.W.excIn K NP [.type "ValueError", .type "Exception", .type "BaseException", .type "object"] "ValueError.__new__" = true)
    (pNP : PySem.W.keepIn K (.ref NP) = true)
    (s1NP : PySem.W.findIn K (.ref NP) "__str__" = some (some (.builtin "BaseException.__str__")))
    (s2NP : PySem.W.mroIn K NP (.type "BaseException") = some true)
    (eNT : PySem.W.excIn K NT [.type "ValueError", .type "Exception", .type "BaseException", .type "object"] "ValueError.__new__" = true)
    (pNT : PySem.W.keepIn K (.ref NT) = true)
    (s1NT : PySem.W.findIn K (.ref NT) "__str__" = some (some (.builtin "BaseException.__str__")))
    (s2NT : PySem.W.mroIn K NT (.type "BaseException") = some true)
    (kc : PySem.W.kb_classed K = true) :
    ∃ (fd : FuncData) (tabs : List (Addr × Addr)) (sp : Sp), (∀ (s : Shared) (u : Value), BindsTo s fd ⟨[u], []⟩ [("script", u)]) ∧ (∀ r ∈ tabs, h.IsCode r.1 r.2 #[] ∧ h.TableAt r.1 r.2 #[]) ∧ PySem.W.kb_classed K = true ∧
        (∀ base : Heap, K.In base → base.Ns mainGlobals mg → L4.BaseX tabs mg base → FnOk l.prog w K mg base CX0 6 fa fd ["script"] sp) ∧
        ∀ (H : Hp) (a : Addr) (ns : List Int), ns.length ≤ 63 → (∀ r ∈ tabs, H r.2 = some (.tbl #[])) → SqL K H a (ns.map V.int) → sp [.ref a] H (fun v _ => v = .bl true) fun _ _ _ => False := by
  have e := hfa.symm.trans (PySem.W.mg_of X G a13)
  cases e
  have F1 := fun_mk (st := swrites_number) l1 c1 k1
  have b1 := F1.binds (ps := ["word"]) (fun _ _ _ _ _ _ us hl => match us, hl with | [_], _ => rfl)
  have m1 := PySem.W.mg_of X G a1
  have F2 := fun_mk (st := sread_heaps) l2 c2 k2
  have b2 := F2.binds (ps := ["text"]) (fun _ _ _ _ _ _ us hl => match us, hl with | [_], _ => rfl)
  have m2 := PySem.W.mg_of X G a2
  have F3 := fun_mk (st := s_law_mix) l3 c3 k3
  have b3 := F3.binds (ps := ["cell", "k"]) (fun _ _ _ _ _ _ us hl => match us, hl with | [_, _], _ => rfl)
  have m3 := PySem.W.mg_of X G a3
  have F4 := fun_mk (st := s_law_deck) l4 c4 k4
  have b4 := F4.binds (ps := ["script"]) (fun _ _ _ _ _ _ us hl => match us, hl with | [_], _ => rfl)
  have m4 := PySem.W.mg_of X G a4
  have F5 := fun_mk (st := s_law_next) l5 c5 k5
  have b5 := F5.binds (ps := ["deck", "many"]) (fun _ _ _ _ _ _ us hl => match us, hl with | [_, _], _ => rfl)
  have m5 := PySem.W.mg_of X G a5
  have F6 := fun_mk (st := s_law_heaps) l6 c6 k6
  have b6 := F6.binds (ps := ["deck", "most"]) (fun _ _ _ _ _ _ us hl => match us, hl with | [_, _], _ => rfl)
  have m6 := PySem.W.mg_of X G a6
  have F7 := fun_mk (st := s_law_kind) l7 c7 k7
  have b7 := F7.binds (ps := ["caught"]) (fun _ _ _ _ _ _ us hl => match us, hl with | [_], _ => rfl)
  have m7 := PySem.W.mg_of X G a7
  have F8 := fun_mk (st := s_law_sign) l8 c8 k8
  have b8 := F8.binds (ps := ["deck"]) (fun _ _ _ _ _ _ us hl => match us, hl with | [_], _ => rfl)
  have m8 := PySem.W.mg_of X G a8
  have F9 := fun_mk (st := s_law_spoilt) l9 c9 k9
  have b9 := F9.binds (ps := ["deck", "text"]) (fun _ _ _ _ _ _ us hl => match us, hl with | [_, _], _ => rfl)
  have m9 := PySem.W.mg_of X G a9
  have F10 := fun_mk (st := s_law_due) l10 c10 k10
  have b10 := F10.binds (ps := ["text"]) (fun _ _ _ _ _ _ us hl => match us, hl with | [_], _ => rfl)
  have m10 := PySem.W.mg_of X G a10
  have F11 := fun_mk (st := s_law_is_beyond) l11 c11 k11
  have b11 := F11.binds (ps := ["text"]) (fun _ _ _ _ _ _ us hl => match us, hl with | [_], _ => rfl)
  have m11 := PySem.W.mg_of X G a11
  have F12 := fun_mk (st := s_law_right) l12 c12 k12
  have b12 := F12.binds (ps := ["text"]) (fun _ _ _ _ _ _ us hl => match us, hl with | [_], _ => rfl)
  have m12 := PySem.W.mg_of X G a12
  have F13 := fun_mk (st := slaw) l13 c13 k13
  have b13 := F13.binds (ps := ["script"]) (fun _ _ _ _ _ _ us hl => match us, hl with | [_], _ => rfl)
  have m13 := PySem.W.mg_of X G a13
  have T : Bt mg := ⟨PySem.W.mg_none_of X G z1, PySem.W.mg_none_of X G z2, PySem.W.mg_none_of X G z3, PySem.W.mg_none_of X G z4, PySem.W.mg_none_of X G z5, PySem.W.mg_none_of X G z6, PySem.W.mg_none_of X G z7, PySem.W.mg_none_of X G z8, PySem.W.mg_none_of X G z9, PySem.W.mg_none_of X G z10, PySem.W.mg_none_of X G z11, PySem.W.mg_none_of X G z12, PySem.W.mg_none_of X G z13, PySem.W.mg_none_of X G z14, PySem.W.mg_none_of X G z15, PySem.W.mg_none_of X G z16, PySem.W.mg_none_of X G z17, PySem.W.mg_none_of X G z18⟩
  have hc_FIGURES := PySem.W.mg_of X G g1
  obtain ⟨ga1, go1, gf1, gc1, P1, ge1, gh1, gd1, gk1, gi1, gt1⟩ := hT "writes_number" (by simp)
  have e := ge1.symm.trans m1
  cases e
  have e := gh1.symm.trans (X _ _ l1)
  cases e
  cases gd1
  have gk1 : cd1 = .ref gc1 := gk1
  subst gk1
  refine ⟨PySem.W.fnOf "law" "law" (defArgs slaw) (defBody slaw) (defScope slaw) .none kV13 dc13 pm13 an13 cd13 ct13, [(gc1, P1)], spLaw K P1, fun s v => .of_eq rfl, fun r hr => ?_, kc, fun base bX bG bx => ?_, fun H a ns hl hH hS => ?_⟩
  · simp only [List.mem_cons, List.not_mem_nil, or_false] at hr
    rcases hr with rfl
    · exact ⟨gi1, gt1⟩
  · obtain ⟨⟨bmA, ob, bm⟩, hh⟩ := bx
    have hd1 : PySem.W.CodeHd base gc1 P1 := hh (gc1, P1) (by simp)
    have gm : ∀ {x : Str} {C : Addr}, PySem.W.nsIn K mainGlobals x = some (some (.ref C)) → mg x = some (.ref C) := fun e => PySem.W.mg_of X G e
    have ONW : OwnI "NoWord" NW fIW veMro "ValueError.__new__" mg base := own_inI bX bG nNW eNW
    have INW : IFacts K NW JE "place" := ⟨u1NW, u2NW, u3NW, u4NW, u5NW, u6NW, u7NW, u8NW⟩
    have XFNW : XFacts K NW := ⟨xclNW, xgaNW, xgtNW, xacNW, xgnNW, xtkNW, xmoNW, xsbNW⟩
    have FNW := fun_mk (st := sInitW) lNW cNW kNW
    have bNW := FNW.binds (ps := ["self", "place"]) (fun _ _ _ _ _ _ us hl => match us, hl with | [_, _], _ => rfl)
    have FINW := ok_initW (P := l.prog) (w := w) FNW ONW INW (gm nJE)
    have ONH : OwnI "NoHeaps" NH fIH veMro "ValueError.__new__" mg base := own_inI bX bG nNH eNH
    have INH : IFacts K NH JE "place" := ⟨u1NH, u2NH, u3NH, u4NH, u5NH, u6NH, u7NH, u8NH⟩
    have XFNH : XFacts K NH := ⟨xclNH, xgaNH, xgtNH, xacNH, xgnNH, xtkNH, xmoNH, xsbNH⟩
    have FNH := fun_mk (st := sInitH) lNH cNH kNH
    have bNH := FNH.binds (ps := ["self", "place"]) (fun _ _ _ _ _ _ us hl => match us, hl with | [_, _], _ => rfl)
    have FINH := ok_initH (P := l.prog) (w := w) FNH ONH INH (gm nJE)
    have ONA : PyProof.Rows.OwnCls "NoAsk" NA veMro "ValueError.__new__" mg base := own_in bX bG nNA eNA
    have ONP : PyProof.Rows.OwnCls "NoPlace" NP veMro "ValueError.__new__" mg base := own_in bX bG nNP eNP
    have ONT : PyProof.Rows.OwnCls "NoTree" NT veMro "ValueError.__new__" mg base := own_in bX bG nNT eNT
    have KD : KdW K mg NW JE := ⟨PySem.W.mg_none_of X G nVE, ⟨NA, NH, NP, NT, gm nNA, gm nNH, gm nNP, gm nNT, gm nNW, gm nJE, qNANW, qNHNW, qNPNW, qNTNW, qNWNW, qJENW, qVENW⟩, XFNW, INW⟩
    have KH : KdH K mg NH JE := ⟨PySem.W.mg_none_of X G nVE, ⟨NA, NP, NT, NW, gm nNA, gm nNH, gm nNP, gm nNT, gm nNW, gm nJE, qNANH, qNHNH, qNPNH, qNTNH, qNWNH, qJENH, qVENH⟩, XFNH, INH⟩
    have Dwrites_number : Def l.prog w K mg base _ "writes_number" ["word"] _ := ⟨f1, _, ok_wn (P1 := P1) F1 rfl T hc_FIGURES hd1 bm, k1, b1, m1⟩
    have Dread_heaps : DefX l.prog w K mg base _ "read_heaps" ["text"] _ := ⟨f2, _, ok_read (NH := NH) F2 T ONH fNH pNH FINH bNH Dwrites_number, k2, b2, m2⟩
    have D_law_mix : Def l.prog w K mg base _ "_law_mix" ["cell", "k"] _ := ⟨f3, _, ok_mix F3, k3, b3, m3⟩
    have D_law_deck : Def l.prog w K mg base _ "_law_deck" ["script"] _ := ⟨f4, _, ok_deck F4 T, k4, b4, m4⟩
    have D_law_next : Def l.prog w K mg base _ "_law_next" ["deck", "many"] _ := ⟨f5, _, ok_next F5 T D_law_mix, k5, b5, m5⟩
    have D_law_heaps : Def l.prog w K mg base _ "_law_heaps" ["deck", "most"] _ := ⟨f6, _, ok_heaps F6 T D_law_next, k6, b6, m6⟩
    have D_law_kind : Def l.prog w K mg base _ "_law_kind" ["caught"] _ := ⟨f7, _, fn_or (ok_kindH F7 T KH) (ok_kindW F7 T KD), k7, b7, m7⟩
    have D_law_sign : Def l.prog w K mg base _ "_law_sign" ["deck"] _ := ⟨f8, _, ok_sign F8 T D_law_next, k8, b8, m8⟩
    have D_law_spoilt : Def l.prog w K mg base _ "_law_spoilt" ["deck", "text"] _ := ⟨f9, _, ok_spoilt F9 T D_law_next D_law_sign, k9, b9, m9⟩
    have D_law_due : Def l.prog w K mg base _ "_law_due" ["text"] _ := ⟨f10, _, ok_due F10 T, k10, b10, m10⟩
    have D_law_is_beyond : Def l.prog w K mg base _ "_law_is_beyond" ["text"] _ := ⟨f11, _, ok_bey F11 T, k11, b11, m11⟩
    have D_law_right : Def l.prog w K mg base _ "_law_right" ["text"] _ := ⟨f12, _, ok_right (NH := NH) F12 T (gm nJE) mNH D_law_kind Dread_heaps D_law_due D_law_is_beyond, k12, b12, m12⟩
    exact ok_law F13 T D_law_deck D_law_next D_law_heaps D_law_sign D_law_spoilt D_law_kind D_law_right ONA ONP ONT pNA pNP pNT ⟨s1NA, s2NA⟩ ⟨s1NP, s2NP⟩ ⟨s1NT, s2NT⟩ ONH fNH pNH FINH bNH ONW fNW pNW FINW bNW
  have hP1 : H P1 = some (.tbl #[]) := hH (gc1, P1) (by simp)
  exact ⟨a, ns, rfl, hS, hl, ⟨#[], hP1, tr0⟩, fun _ => rfl⟩
end Q
open PySem PySem.W PyProof.Rows
set_option maxRecDepth 100000 in
set_option maxHeartbeats 0 in
theorem PySem.Challenge.cw_joinedheaps_k02_texts_of_no_heaps_holds : PySem.Challenge.rw_joinedheaps_k02_texts_of_no_heaps.Holds := by
  w_on; o_law; k_head; (case hw => w_witness2)
  k_fill
  refine L4.walk_ofT (l := PySem.Challenge.rw_joinedheaps_k02_texts_of_no_heaps) (x := "script") (n := 63) (k := 6) ["writes_number"] rfl (by decide) rfl ⟨rfl, by decide, by decide⟩ (fun w h Y => PySem.W.kIn_of Y) (by simp only [List.forall_mem_cons]; refine ⟨⟨_, rfl⟩, fun _ h => absurd h (by simp)⟩) ?F
  case F =>
    intro w mg fa h KX G hmg hT
    refine' Q.all_mk KX G hmg hT ?a1 ?l1 ?c1 ?k1 ?a2 ?l2 ?c2 ?k2 ?a3 ?l3 ?c3 ?k3 ?a4 ?l4 ?c4 ?k4 ?a5 ?l5 ?c5 ?k5 ?a6 ?l6 ?c6 ?k6 ?a7 ?l7 ?c7 ?k7 ?a8 ?l8 ?c8 ?k8 ?a9 ?l9 ?c9 ?k9 ?a10 ?l10 ?c10 ?k10 ?a11 ?l11 ?c11 ?k11 ?a12 ?l12 ?c12 ?k12 ?a13 ?l13 ?c13 ?k13 ?z1 ?z2 ?z3 ?z4 ?z5 ?z6 ?z7 ?z8 ?z9 ?z10 ?z11 ?z12 ?z13 ?z14 ?z15 ?z16 ?z17 ?z18 ?g1 ?nNA ?nNH ?nNP ?nNT ?nNW ?nJE ?nVE ?iNW ?lNW ?cNW ?kNW ?fNW ?pNW ?eNW ?mNW ?u1NW ?u2NW ?u3NW ?u4NW ?u5NW ?u6NW ?u7NW ?u8NW ?xclNW ?xgaNW ?xgtNW ?xacNW ?xgnNW ?xtkNW ?xmoNW ?xsbNW ?iNH ?lNH ?cNH ?kNH ?fNH ?pNH ?eNH ?mNH ?u1NH ?u2NH ?u3NH ?u4NH ?u5NH ?u6NH ?u7NH ?u8NH ?xclNH ?xgaNH ?xgtNH ?xacNH ?xgnNH ?xtkNH ?xmoNH ?xsbNH ?qNANW ?qNHNW ?qNPNW ?qNTNW ?qNWNW ?qJENW ?qVENW ?qNANH ?qNHNH ?qNPNH ?qNTNH ?qNWNH ?qJENH ?qVENH ?eNA ?pNA ?s1NA ?s2NA ?eNP ?pNP ?s1NP ?s2NP ?eNT ?pNT ?s1NT ?s2NT ?kc
    (case a1 => k_is); (case l1 => k_is); (case c1 => k_is); (case k1 => k_is)
    (case a2 => k_is); (case l2 => k_is); (case c2 => k_is); (case k2 => k_is)
    (case a3 => k_is); (case l3 => k_is); (case c3 => k_is); (case k3 => k_is)
    (case a4 => k_is); (case l4 => k_is); (case c4 => k_is); (case k4 => k_is)
    (case a5 => k_is); (case l5 => k_is); (case c5 => k_is); (case k5 => k_is)
    (case a6 => k_is); (case l6 => k_is); (case c6 => k_is); (case k6 => k_is)
    (case a7 => k_is); (case l7 => k_is); (case c7 => k_is); (case k7 => k_is)
    (case a8 => k_is); (case l8 => k_is); (case c8 => k_is); (case k8 => k_is)
    (case a9 => k_is); (case l9 => k_is); (case c9 => k_is); (case k9 => k_is)
    (case a10 => k_is); (case l10 => k_is); (case c10 => k_is); (case k10 => k_is)
    (case a11 => k_is); (case l11 => k_is); (case c11 => k_is); (case k11 => k_is)
    (case a12 => k_is); (case l12 => k_is); (case c12 => k_is); (case k12 => k_is)
    (case a13 => k_is); (case l13 => k_is); (case c13 => k_is); (case k13 => k_is)
    (case z1 => k_is)
    (case z2 => k_is)
    (case z3 => k_is)
    (case z4 => k_is)
    (case z5 => k_is)
    (case z6 => k_is)
    (case z7 => k_is)
    (case z8 => k_is)
    (case z9 => k_is)
    (case z10 => k_is)
    (case z11 => k_is)
    (case z12 => k_is)
    (case z13 => k_is)
    (case z14 => k_is)
    (case z15 => k_is)
    (case z16 => k_is)
    (case z17 => k_is)
    (case z18 => k_is)
    (case g1 => k_is)
    (case nNA => k_is)
    (case nNH => k_is)
    (case nNP => k_is)
    (case nNT => k_is)
    (case nNW => k_is)
    (case nJE => k_is)
    (case nVE => k_is)
    (case iNW => k_is)
    (case lNW => k_is)
    (case cNW => k_is)
    (case kNW => k_is)
    (case fNW => first | k_is | kernel_rfl | exact rfl)
    (case pNW => first | k_is | kernel_rfl | exact rfl)
    (case eNW => first | k_is | kernel_rfl | exact rfl)
    (case mNW => kts_exm)
    (case u1NW => first | k_is | kernel_rfl | exact rfl)
    (case u2NW => first | k_is | kernel_rfl | exact rfl)
    (case u3NW => first | k_is | kernel_rfl | exact rfl)
    (case u4NW => first | k_is | kernel_rfl | exact rfl)
    (case u5NW => first | k_is | kernel_rfl | exact rfl)
    (case u6NW => first | k_is | kernel_rfl | exact rfl)
    (case u7NW => first | k_is | kernel_rfl | exact rfl)
    (case u8NW => first | k_is | kernel_rfl | exact rfl)
    (case xclNW => first | k_is | kernel_rfl | exact rfl)
    (case xgaNW => first | k_is | kernel_rfl | exact rfl)
    (case xgtNW => first | k_is | kernel_rfl | exact rfl)
    (case xacNW => first | k_is | kernel_rfl | exact rfl)
    (case xgnNW => first | k_is | kernel_rfl | exact rfl)
    (case xtkNW => first | k_is | kernel_rfl | exact rfl)
    (case xmoNW => first | k_is | kernel_rfl | exact rfl)
    (case xsbNW => first | k_is | kernel_rfl | exact rfl)
    (case iNH => k_is)
    (case lNH => k_is)
    (case cNH => k_is)
    (case kNH => k_is)
    (case fNH => first | k_is | kernel_rfl | exact rfl)
    (case pNH => first | k_is | kernel_rfl | exact rfl)
    (case eNH => first | k_is | kernel_rfl | exact rfl)
    (case mNH => kts_exm)
    (case u1NH => first | k_is | kernel_rfl | exact rfl)
    (case u2NH => first | k_is | kernel_rfl | exact rfl)
    (case u3NH => first | k_is | kernel_rfl | exact rfl)
    (case u4NH => first | k_is | kernel_rfl | exact rfl)
    (case u5NH => first | k_is | kernel_rfl | exact rfl)
    (case u6NH => first | k_is | kernel_rfl | exact rfl)
    (case u7NH => first | k_is | kernel_rfl | exact rfl)
    (case u8NH => first | k_is | kernel_rfl | exact rfl)
    (case xclNH => first | k_is | kernel_rfl | exact rfl)
    (case xgaNH => first | k_is | kernel_rfl | exact rfl)
    (case xgtNH => first | k_is | kernel_rfl | exact rfl)
    (case xacNH => first | k_is | kernel_rfl | exact rfl)
    (case xgnNH => first | k_is | kernel_rfl | exact rfl)
    (case xtkNH => first | k_is | kernel_rfl | exact rfl)
    (case xmoNH => first | k_is | kernel_rfl | exact rfl)
    (case xsbNH => first | k_is | kernel_rfl | exact rfl)
    (case qNANW => kit_is)
    (case qNHNW => kit_is)
    (case qNPNW => kit_is)
    (case qNTNW => kit_is)
    (case qNWNW => kit_is)
    (case qJENW => kit_is)
    (case qVENW => kit_is)
    (case qNANH => kit_is)
    (case qNHNH => kit_is)
    (case qNPNH => kit_is)
    (case qNTNH => kit_is)
    (case qNWNH => kit_is)
    (case qJENH => kit_is)
    (case qVENH => kit_is)
    (case eNA => k_exc)
    (case pNA => first | k_is | kernel_rfl | exact rfl)
    (case s1NA => first | k_is | kernel_rfl | exact rfl)
    (case s2NA => first | k_is | kernel_rfl | exact rfl)
    (case eNP => k_exc)
    (case pNP => first | k_is | kernel_rfl | exact rfl)
    (case s1NP => first | k_is | kernel_rfl | exact rfl)
    (case s2NP => first | k_is | kernel_rfl | exact rfl)
    (case eNT => k_exc)
    (case pNT => first | k_is | kernel_rfl | exact rfl)
    (case s1NT => first | k_is | kernel_rfl | exact rfl)
    (case s2NT => first | k_is | kernel_rfl | exact rfl)
    (case kc => exact rfl)
#print axioms PySem.Challenge.cw_joinedheaps_k02_texts_of_no_heaps_holds
