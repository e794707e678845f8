import PyProof.Rows.All
import Wide.All
import OpenK.AllK
import Wide.FinOn
import PyProof.EqAt
import PyProof.EqKinds
import PyProof.TupleCall
import KE.BitLaws
import Open.SpecLaws
import KE.OsHead
import KE.OsGo
import PyVbhoam
import KE.KLam
import KE.KSortKeyAny
import PyProof.Rows.CallKwBuiltin
import KE.KNestM
import PySem.Challenge.RW_roomsharers_s01_answers
section
-- CHANGE: your row's module here, as the last of these rows
set_option Elab.async false
set_option linter.all false
set_option maxRecDepth 100000
namespace L2
open PySem PySem.Spec PyProof.Rows
abbrev Key := Sum Int Str
def keyIs : Key → Value → Bool
  | .inl k, v => Value.isInt k v
  | .inr x, v => Value.isStrOf x v
def keyH (w : World) : Key → Int
  | .inl k => hashInt k
  | .inr x => hashStr w x
theorem keyIs_shape : ∀ {k : Key} {v : Value}, keyIs k v = true → (∃ i t, k = Sum.inl i ∧ v = Value.int i t) ∨ (∃ x t, k = Sum.inr x ∧ v = Value.str x t)
  | .inl i, v, h => by
    obtain ⟨t, e⟩ := Value.isInt_shape (k := i) (v := v) h
    exact .inl ⟨i, t, rfl, e⟩
  | .inr x, v, h => by
    obtain ⟨t, e⟩ := Value.isStrOf_shape (x := x) (v := v) h
    exact .inr ⟨x, t, rfl, e⟩
theorem keyIs_int (i : Int) (t : Tok) : keyIs (.inl i) (.int i t) = true := by simp [keyIs, Value.isInt]
theorem key_ll (a b : Int) : decide ((Sum.inl a : Key) = Sum.inl b) = (a == b) := by
  by_cases e : a = b
  · subst e; simp
  · have h : ¬ (Sum.inl a : Key) = Sum.inl b := fun q => e (Sum.inl.inj q)
    rw [decide_eq_false h]
    exact (beq_eq_false_iff_ne.mpr e).symm
theorem key_rr (a b : Str) : decide ((Sum.inr a : Key) = Sum.inr b) = decide (a = b) := by
  by_cases e : a = b
  · subst e; simp
  · have h : ¬ (Sum.inr a : Key) = Sum.inr b := fun q => e (Sum.inr.inj q)
    rw [decide_eq_false h, decide_eq_false e]
theorem key_lr (a : Int) (b : Str) : decide ((Sum.inl a : Key) = Sum.inr b) = false := decide_eq_false (fun q => nomatch q)
theorem key_rl (a : Str) (b : Int) : decide ((Sum.inr a : Key) = Sum.inl b) = false := decide_eq_false (fun q => nomatch q)
def mixKind (prog : Program) (w : World) : PySem.KeyKind prog w Key where
  is := keyIs
  hash := keyH w
  inj := fun v a b ha hb => by
    rcases keyIs_shape ha with ⟨i, t, rfl, rfl⟩ | ⟨x, t, rfl, rfl⟩
    · rcases keyIs_shape hb with ⟨j, u, rfl, e⟩ | ⟨y, u, rfl, e⟩
      · injection e with e1 _; rw [e1]
      · exact nomatch e
    · rcases keyIs_shape hb with ⟨j, u, rfl, e⟩ | ⟨y, u, rfl, e⟩
      · exact nomatch e
      · injection e with e1 _; rw [e1]
  byValue := fun k v h => by
    rcases keyIs_shape h with ⟨i, t, rfl, rfl⟩ | ⟨x, t, rfl, rfl⟩ <;> rfl
  pyHash := fun hv h => by
    rcases keyIs_shape hv with ⟨i, t, rfl, rfl⟩ | ⟨x, t, rfl, rfl⟩
    · exact wpAny_pyHash_int h
    · exact wpAny_pyHash_str h
  eqBool := fun hu hv h => by
    rcases keyIs_shape hu with ⟨i, t, rfl, rfl⟩ | ⟨x, t, rfl, rfl⟩
    · rcases keyIs_shape hv with ⟨j, u, rfl, rfl⟩ | ⟨y, u, rfl, rfl⟩
      · rw [key_ll] at h; exact wpAny_eqBool_int h
      · rw [key_lr] at h; exact SeqAt.EqAt.int_str i t y u _ _ _ _ h
    · rcases keyIs_shape hv with ⟨j, u, rfl, rfl⟩ | ⟨y, u, rfl, rfl⟩
      · rw [key_rl] at h; exact SeqAt.EqAt.str_int x t j u _ _ _ _ h
      · rw [key_rr] at h; exact wpAny_eqBool_str h
  «strs» := fun k x t v h => by
    rcases keyIs_shape h with ⟨i, u, rfl, e⟩ | ⟨y, u, rfl, e⟩
    · exact nomatch e
    · injection e with e1 _
      subst e1
      cases v <;> rfl
theorem mixKind_int (prog : Program) (w : World) (i : Int) (t : Tok) : (mixKind prog w).is (.inl i) (.int i t) = true := keyIs_int i t
end L2
namespace L2
open PySem PySem.Spec PyProof.Rows
inductive V where
  | non | bl (b : Bool) | int (i : Int) | str (x : Str) | byt (b : Array UInt8) | flt (b : UInt64) | ref (a : Addr) | ty (n : String)
  deriving DecidableEq
def RelV : V → Value → Prop
  | .non, u => u = Value.none
  | .bl b, u => u = Value.bool b
  | .int i, u => ∃ t, u = Value.int i t
  | .str x, u => ∃ t, u = Value.str x t
  | .byt b, u => ∃ t, u = Value.bytes b t
  | .flt b, u => ∃ t, u = Value.float b t
  | .ref a, u => u = Value.ref a
  | .ty n, u => u = Value.type n
abbrev Vals : List V → List Value → Prop := Paired RelV
theorem Vals.length {xs : List V} {us : List Value} (r : Vals xs us) : xs.length = us.length := Paired.length r
theorem Vals.get : ∀ {xs : List V} {us : List Value} {i : Nat} {x : V}, Vals xs us → xs[i]? = some x → ∃ u, us[i]? = some u ∧ RelV x u
  | _, _, _, _, .nil, e => by simp at e
  | _, _, 0, _, .cons r _, e => by simp at e; subst e; exact ⟨_, rfl, r⟩
  | _, _, i + 1, x, .cons _ t, e => by
    obtain ⟨u, h1, h2⟩ := Vals.get (i := i) (x := x) t (by simpa using e)
    exact ⟨u, by simpa using h1, h2⟩
theorem Vals.set {x : V} {u : Value} (r : RelV x u) : ∀ {xs : List V} {us : List Value} (i : Nat), Vals xs us → Vals (xs.set i x) (us.set i u)
  | _, _, _, .nil => .nil
  | _, _, 0, .cons _ t => .cons r t
  | _, _, i + 1, .cons q t => .cons q (Vals.set r i t)
theorem Vals.append : ∀ {xs ys : List V} {us ws : List Value}, Vals xs us → Vals ys ws → Vals (xs ++ ys) (us ++ ws)
  | _, _, _, _, .nil, s => s
  | _, _, _, _, .cons r t, s => .cons r (Vals.append t s)
theorem Vals.take : ∀ {xs : List V} {us : List Value} (n : Nat), Vals xs us → Vals (xs.take n) (us.take n)
  | _, _, 0, _ => .nil
  | _, _, _ + 1, .nil => .nil
  | _, _, n + 1, .cons r t => .cons r (Vals.take n t)
theorem Vals.drop : ∀ {xs : List V} {us : List Value} (n : Nat), Vals xs us → Vals (xs.drop n) (us.drop n)
  | _, _, 0, r => r
  | _, _, _ + 1, .nil => .nil
  | _, _, n + 1, .cons _ t => Vals.drop n t
theorem Vals.none_of : ∀ {xs : List V} {us : List Value} {i : Nat}, Vals xs us → xs[i]? = none → us[i]? = none := fun {xs us i} r e => by
  have h1 := r.length
  have h2 : xs.length ≤ i := List.getElem?_eq_none_iff.mp e
  exact List.getElem?_eq_none_iff.mpr (by omega)
def RelO : Option V → Option Value → Prop
  | some v, some u => RelV v u
  | none, none => True
  | _, _ => False
def KV {κ : Type} : List (κ × V) → List (κ × Value) → Prop := Paired fun (p : κ × V) (q : κ × Value) => p.1 = q.1 ∧ RelV p.2 q.2
def kV : Key → V
  | .inl i => .int i
  | .inr x => .str x
inductive HO where
  /-- a list -/
  | lst (xs : List V)
  /-- a tuple (never changes) -/
  | tup (xs : List V)
  /-- a dict whose keys are ints and texts; one whose keys are tuples of ints and texts (the empty one is both) -/
  | dK (kvs : List (Key × V)) | dT (kvs : List (List Key × V))
  /-- a set of ints: its members, its size -/
  | set (S : Int → Bool) (n : Nat)
  /-- an instance of the class at C, its dict at dx, its attributes -/
  | ins (C dx : Addr) (fs : List (Str × V))
  /-- the dict of the instance at x -/
  | own (x : Addr)
  /-- the dict of an exception -/
  | xd (fs : List (Str × V))
  /-- a bound method, f of x -/
  | met (f x : Addr)
  /-- a range object lo, lo + 1, .. below hi -/
  | rng (lo hi : Int)
  /-- a thing that is known to the object (the script; a dict while a loop walks it): read, never written while it is so -/
  | frz (o : Obj) (u : HO)
  /-- a code object's table -/
  | tbl (ps : Array Value)
  /-- any other thing, by what is true of its one object (a def of one's own: SetO a S n := HO.ext fun h => ..) -/
  | ext (φ : Heap → Prop)
abbrev Hp := Addr → Option HO
def upd (H : Hp) (a : Addr) (o : HO) : Hp := fun b => if b = a then some o else H b
theorem upd_same {H : Hp} {a : Addr} {o : HO} : upd H a o a = some o := by unfold upd; rw [if_pos rfl]
theorem upd_ne {H : Hp} {a b : Addr} {o : HO} (h : b ≠ a) : upd H a o b = H b := by unfold upd; rw [if_neg h]
theorem upd_upd {H : Hp} {a : Addr} {o u : HO} : upd (upd H a o) a u = upd H a u := by
  funext b; unfold upd; split <;> rfl
theorem ne_of_none {H : Hp} {a b : Addr} {o : HO} (h : H a = some o) (h' : H b = none) : a ≠ b := by
  intro e; subst e; rw [h] at h'; cases h'
section
variable (P : Program) (w : World)
def ObjOk (H : Hp) (h : Heap) (a : Addr) : HO → Prop
  | .lst xs => xs.length ≤ sizeLine ∧ ∃ (its : List Value) (n : Nat), Vals xs its ∧ h.get? a = some { cls := .type "list", data := .seq its.toArray n }
  | .tup xs => xs.length ≤ sizeLine ∧ ∃ its : List Value, Vals xs its ∧ IsTup h a its.toArray
  | .dK kvs => kvs.length ≤ sizeLine ∧ (a == sysModules) = false ∧ ∃ vs, KV kvs vs ∧ h.DictOf (mixKind P w) a vs
  | .dT kvs => kvs.length ≤ sizeLine ∧ (a == sysModules) = false ∧ ∃ xs : List (List Key × Addr × Value),
      Paired (fun (p : List Key × V) (q : List Key × Addr × Value) => p.1 = q.1 ∧ H q.2.1 = some (.tup (p.1.map kV)) ∧ RelV p.2 q.2.2) kvs xs ∧
      ∃ o es ep, h.get? a = some o ∧ o.ExactDict ∧ o.data = .dict es ep ∧ es.toList = xs.map (entryOfKey (tupleKind (mixKind P w))) ∧ (xs.map (·.1)).Nodup
  | .set S n => h.SetOf (intKind P w) a S n
  | .ins C dx fs => H dx = some (.own a) ∧ fs.length ≤ 1000 ∧ dx ≠ a ∧ h.get? a = some (PySem.W.instObj C dx) ∧
      ∃ mA, h.Ns1 dx mA ∧ (∀ f, RelO (fs.lookup f) (mA f)) ∧ PySem.Within mA (fs.map (·.1))
  | .own _ => ∃ o, h.get? a = some o
  | .xd fs => ∃ mA, h.Ns1 a mA ∧ ∀ f, RelO (fs.lookup f) (mA f)
  | .rng lo hi => ∃ t u v, h.get? a = some { cls := .type "range", data := .fields #[.int lo t, .int hi u, .int 1 v] }
  | .frz o u => h.get? a = some o ∧ ObjOk H h a u
  | .tbl ps => h.get? a = some { cls := .none, data := .fields ps }
  | .met f x => h.get? a = some (PySem.W.methodObj (.ref f) (.ref x))
  | .ext φ => φ h ∧ (∃ o, h.get? a = some o) ∧ ∀ h1 h2 : Heap, φ h1 → (∀ o, h1.get? a = some o → h2.get? a = some o) → φ h2
def HOk (H : Hp) (h : Heap) : Prop := ∀ a o, H a = some o → ObjOk P w H h a o
end
section
variable {P : Program} {w : World} {H H' : Hp} {h h' : Heap} {a : Addr} {o : HO}
theorem ObjOk.lt (x : ObjOk P w H h a o) : a < h.objs.size := by
  cases o with
  | lst xs => obtain ⟨_, _, _, _, e⟩ := x; exact Heap.lt_size e
  | tup xs => obtain ⟨_, _, _, p⟩ := x; exact p.lt
  | dK kvs => obtain ⟨_, _, _, _, o, _, _, e, _⟩ := x; exact Heap.lt_size e
  | dT kvs => obtain ⟨_, _, _, _, o, _, _, e, _⟩ := x; exact Heap.lt_size e
  | set S n => obtain ⟨o, _, _, _, e, _⟩ := x; exact Heap.lt_size e
  | ins C dx fs => obtain ⟨_, _, _, e, _⟩ := x; exact Heap.lt_size e
  | own y => obtain ⟨_, e⟩ := x; exact Heap.lt_size e
  | xd fs => obtain ⟨_, ⟨_, _, _, e, _⟩, _⟩ := x; exact Heap.lt_size e
  | rng lo hi => obtain ⟨_, _, _, e⟩ := x; exact Heap.lt_size e
  | frz ob u => obtain ⟨e, _⟩ := x; exact Heap.lt_size e
  | tbl ps => exact Heap.lt_size (show h.get? a = some _ from x)
  | met f y => exact Heap.lt_size (show h.get? a = some _ from x)
  | ext φ => obtain ⟨_, ⟨_, e⟩, _⟩ := x; exact Heap.lt_size e
theorem Paired.mapP {α β : Type} {F G : α → β → Prop} : ∀ {l₁ : List α} {l₂ : List β}, Paired F l₁ l₂ → (∀ a b, F a b → G a b) → Paired G l₁ l₂
  | _, _, .nil, _ => .nil
  | _, _, .cons r t, f => .cons (f _ _ r) (Paired.mapP t f)
theorem ObjOk.stay (x : ObjOk P w H h a o) (k : ∀ b u, (b = a ∨ H b = some (.own a)) → h.get? b = some u → h'.get? b = some u)
    (ho : ∀ b, H b = some (.own a) → H' b = some (.own a)) (ht : ∀ b xs, H b = some (.tup xs) → H' b = some (.tup xs)) : ObjOk P w H' h' a o := by
  induction o with
  | lst xs => obtain ⟨z, its, n, r, e⟩ := x; exact ⟨z, its, n, r, k _ _ (.inl rfl) e⟩
  | tup xs => obtain ⟨z, its, r, ob, e, c⟩ := x; exact ⟨z, its, r, ob, k _ _ (.inl rfl) e, c⟩
  | dK kvs => obtain ⟨z, y, vs, r, ob, es, ep, e, c⟩ := x; exact ⟨z, y, vs, r, ob, es, ep, k _ _ (.inl rfl) e, c⟩
  | dT kvs =>
    obtain ⟨z, y, xs, r, ob, es, ep, e, c⟩ := x
    exact ⟨z, y, xs, Paired.mapP r fun p q z => ⟨z.1, ht _ _ z.2.1, z.2.2⟩, ob, es, ep, k _ _ (.inl rfl) e, c⟩
  | set S n => obtain ⟨ob, es, ep, t, e, c⟩ := x; exact ⟨ob, es, ep, t, k _ _ (.inl rfl) e, c⟩
  | ins C dx fs =>
    obtain ⟨d, z, ne, e, mA, ⟨od, es, ep, e2, c⟩, r⟩ := x
    exact ⟨ho _ d, z, ne, k _ _ (.inl rfl) e, mA, ⟨od, es, ep, k _ _ (.inr d) e2, c⟩, r⟩
  | own y => obtain ⟨ob, e⟩ := x; exact ⟨ob, k _ _ (.inl rfl) e⟩
  | xd fs => obtain ⟨mA, ⟨od, es, ep, e, c⟩, r⟩ := x; exact ⟨mA, ⟨od, es, ep, k _ _ (.inl rfl) e, c⟩, r⟩
  | rng lo hi => obtain ⟨t, u, v, e⟩ := x; exact ⟨t, u, v, k _ _ (.inl rfl) e⟩
  | frz ob u ih => obtain ⟨e, q⟩ := x; exact ⟨k _ _ (.inl rfl) e, ih q⟩
  | tbl ps =>
    have e : h.get? a = some { cls := .none, data := .fields ps } := x
    show h'.get? a = some { cls := .none, data := .fields ps }
    exact k a _ (.inl rfl) e
  | met f y =>
    have e : h.get? a = some (PySem.W.methodObj (.ref f) (.ref y)) := x
    show h'.get? a = some (PySem.W.methodObj (.ref f) (.ref y))
    exact k a _ (.inl rfl) e
  | ext φ => obtain ⟨p, ⟨o, e⟩, st⟩ := x; exact ⟨st _ _ p fun o q => k _ _ (.inl rfl) q, ⟨o, k _ _ (.inl rfl) e⟩, st⟩
theorem HOk.lt (x : HOk P w H h) (e : H a = some o) : a < h.objs.size := (x a o e).lt
theorem HOk.fresh (x : HOk P w H h) (e : h.objs.size ≤ a) : H a = none := by
  cases q : H a with
  | none => rfl
  | some u => exact absurd (Nat.lt_of_lt_of_le (x.lt q) e) (Nat.lt_irrefl _)
theorem HOk.kept (x : HOk P w H h) (k : ∀ b u, h.get? b = some u → h'.get? b = some u) : HOk P w H h' := fun a o e =>
  (x a o e).stay (fun b u _ q => k b u q) (fun _ q => q) fun _ _ q => q
theorem HOk.laid (x : HOk P w H h) (k : ∀ b u, h.get? b = some u → h'.get? b = some u) (hp : h.objs.size ≤ a) (new : ObjOk P w (upd H a o) h' a o) : HOk P w (upd H a o) h' := fun b u e => by
  have hn := x.fresh hp
  by_cases hb : b = a
  · subst hb; rw [upd_same] at e; cases e; exact new
  · rw [upd_ne hb] at e
    exact (x b u e).stay (fun c v _ q => k c v q) (fun c q => by rw [upd_ne (ne_of_none q hn)]; exact q) fun c xs q => by rw [upd_ne (ne_of_none q hn)]; exact q
end
def Rd (H : Hp) (a : Addr) (u : HO) : Prop := H a = some u ∨ ∃ o, H a = some (.frz o u)
theorem Rd.of {H : Hp} {a : Addr} {u : HO} (h : H a = some u) : Rd H a u := .inl h
theorem Rd.ok {P : Program} {w : World} {H : Hp} {h : Heap} {a : Addr} {u : HO} (r : Rd H a u) (x : HOk P w H h) : ObjOk P w H h a u := by
  rcases r with r | ⟨o, r⟩
  · exact x a u r
  · obtain ⟨_, q⟩ := x a _ r
    exact q
def Mut : Option HO → Prop
  | some (.lst _) => True
  | some (.dK _) => True
  | some (.dT _) => True
  | some (.set _ _) => True
  | some (.ins _ _ _) => True
  | some (.ext _) => True
  | _ => False
section
variable {P : Program} {w : World} {H : Hp} {h h' : Heap} {x e : Addr} {o' : HO}
theorem HOk.write (ok : HOk P w H h) (mu : Mut (H x)) (he : e = x ∨ H e = some (.own x)) (k : ∀ b u, b ≠ e → h.get? b = some u → h'.get? b = some u) (heo : ∃ u, h'.get? e = some u)
    (new : ObjOk P w (upd H x o') h' x o') : HOk P w (upd H x o') h' := fun b u q => by
  have nown : ∀ c y, H c = some (.own y) → c ≠ x := fun c y r z => by subst z; rw [r] at mu; exact mu
  have ntup : ∀ c xs, H c = some (.tup xs) → c ≠ x := fun c xs r z => by subst z; rw [r] at mu; exact mu
  by_cases hb : b = x
  · subst hb; rw [upd_same] at q; cases q; exact new
  · rw [upd_ne hb] at q
    by_cases hbe : b = e
    · have q' : H b = some (.own x) := by
        rcases he with z | z
        · exact absurd (hbe.trans z) hb
        · rw [hbe]; exact z
      rw [q] at q'; cases q'
      obtain ⟨v, hv⟩ := heo
      exact ⟨v, by rw [hbe]; exact hv⟩
    · refine (ok b u q).stay (fun c v hc r => k c v ?_ r) (fun c r => by rw [upd_ne (nown c b r)]; exact r) fun c xs r => by rw [upd_ne (ntup c xs r)]; exact r
      rcases hc with rfl | hc
      · exact hbe
      · rintro rfl
        rcases he with z | z
        · exact nown c b hc z
        · rw [hc] at z; cases z; exact hb rfl
end
structure Un (fs ex : List Addr) (H H' : Hp) (h h' : Heap) : Prop where
  keep : ∀ b o, h.get? b = some o → H b = none → b ∉ fs → b ∉ ex → h'.get? b = some o
  slot : ∀ b o, h.get? b = some o → H b = none → b ∈ fs → b ∉ ex → ∃ sl, h'.get? b = some { o with slots := sl }
  free : ∀ b o, h.get? b = some o → H b = none → b ∉ ex → H' b = none
  there : ∀ b o, h.get? b = some o → b ∉ ex → ∃ o', h'.get? b = some o'
  tups : ∀ b xs, H b = some (.tup xs) → H' b = some (.tup xs)
  frzs : ∀ b o u, H b = some (.frz o u) → H' b = some (.frz o u)
  tbls : ∀ b ps, H b = some (.tbl ps) → ∃ more, H' b = some (.tbl (ps ++ more))
section
variable {fs fs' ex ex' : List Addr} {H H1 H2 : Hp} {h h1 h2 h' : Heap} {a x e : Addr} {o : HO}
theorem Un.any (u : Un fs ex H H1 h h1) {b : Addr} {ob : Obj} (q : h.get? b = some ob) (n : H b = none) (hx : b ∉ ex) : ∃ sl, h1.get? b = some { ob with slots := sl } := by
  by_cases hb : b ∈ fs
  · exact u.slot b ob q n hb hx
  · exact ⟨ob.slots, u.keep b ob q n hb hx⟩
theorem Un.trans (a : Un fs ex H H1 h h1) (b : Un fs ex H1 H2 h1 h2) : Un fs ex H H2 h h2 where
  keep := fun c ob q n hc hx => b.keep c ob (a.keep c ob q n hc hx) (a.free c ob q n hx) hc hx
  slot := fun c ob q n hc hx => by
    obtain ⟨sl, e1⟩ := a.slot c ob q n hc hx
    obtain ⟨sl', e2⟩ := b.slot c _ e1 (a.free c ob q n hx) hc hx
    exact ⟨sl', e2⟩
  free := fun c ob q n hx => by
    obtain ⟨o', e1⟩ := a.there c ob q hx
    exact b.free c o' e1 (a.free c ob q n hx) hx
  there := fun c ob q hx => by
    obtain ⟨o', e1⟩ := a.there c ob q hx
    exact b.there c o' e1 hx
  tups := fun c xs q => b.tups c xs (a.tups c xs q)
  frzs := fun c ob xs q => b.frzs c ob xs (a.frzs c ob xs q)
  tbls := fun c ps q => by
    obtain ⟨m1, e1⟩ := a.tbls c ps q
    obtain ⟨m2, e2⟩ := b.tbls c _ e1
    exact ⟨m1 ++ m2, by rw [e2, Array.append_assoc]⟩
theorem Un.kept (k : ∀ b u, h.get? b = some u → h'.get? b = some u) : Un fs ex H H h h' :=
  ⟨fun b ob q _ _ _ => k b ob q, fun b ob q _ _ _ => ⟨ob.slots, k b ob q⟩, fun _ _ _ n _ => n, fun b ob q _ => ⟨ob, k b ob q⟩, fun _ _ q => q, fun _ _ _ q => q, fun _ ps q => ⟨#[], by rw [q]; simp⟩⟩
theorem Un.refl : Un fs ex H H h h := Un.kept fun _ _ q => q
theorem Un.laid (k : ∀ b u, h.get? b = some u → h'.get? b = some u) (hp : h.objs.size ≤ a) (hn : H a = none) : Un fs ex H (upd H a o) h h' where
  keep := fun b u q _ _ _ => k b u q
  slot := fun b u q _ _ _ => ⟨u.slots, k b u q⟩
  free := fun b u q n _ => by rw [upd_ne (Nat.ne_of_lt (Nat.lt_of_lt_of_le (Heap.lt_size q) hp))]; exact n
  there := fun b u q _ => ⟨u, k b u q⟩
  tups := fun b xs q => by rw [upd_ne (ne_of_none q hn)]; exact q
  frzs := fun b u xs q => by rw [upd_ne (ne_of_none q hn)]; exact q
  tbls := fun b ps q => ⟨#[], by rw [upd_ne (ne_of_none q hn), q]; simp⟩
theorem Un.write (mu : Mut (H x)) (he : e = x ∨ H e = some (.own x)) (k : ∀ b u, b ≠ e → h.get? b = some u → h'.get? b = some u) (heo : ∃ u, h'.get? e = some u) : Un fs ex H (upd H x o) h h' := by
  have hx : ∀ b, H b = none → b ≠ x := fun b n z => by subst z; rw [n] at mu; exact mu
  have hb : ∀ b, H b = none → b ≠ e := fun b n z => by
    subst z
    rcases he with r | r
    · exact hx b n r
    · rw [n] at r; cases r
  have hm : ∀ b u, H b = some u → ¬ Mut (some u) → b ≠ x := fun b u q nm z => by subst z; rw [q] at mu; exact nm mu
  refine ⟨fun b u q n _ _ => k b u (hb b n) q, fun b u q n _ _ => ⟨u.slots, k b u (hb b n) q⟩, fun b u q n _ => by rw [upd_ne (hx b n)]; exact n, fun b u q _ => ?_,
    fun b xs q => by rw [upd_ne (hm b _ q fun z => z)]; exact q, fun b u xs q => by rw [upd_ne (hm b _ q fun z => z)]; exact q, fun b ps q => ⟨#[], by rw [upd_ne (hm b _ q fun z => z), q]; simp⟩⟩
  by_cases hbe : b = e
  · subst hbe; exact heo
  · exact ⟨u, k b u hbe q⟩
theorem Un.mono (u : Un fs ex H H1 h h1) (hs : ∀ b ∈ fs, b ∈ fs') (hx : ∀ b ∈ ex, b ∈ ex') : Un fs' ex' H H1 h h1 :=
  ⟨fun b ob q n hb he => u.keep b ob q n (fun z => hb (hs b z)) fun z => he (hx b z), fun _ _ q n _ he => u.any q n fun z => he (hx _ z), fun b ob q n he => u.free b ob q n fun z => he (hx b z), fun b ob q he => u.there b ob q fun z => he (hx b z), u.tups, u.frzs, u.tbls⟩
end
def trk (h : Heap) (H : Hp) : List Addr := (List.range h.objs.size).filter fun a => (H a).isSome
def hidT (h : Heap) (H : Hp) : Heap := PySem.W.hideAll h (trk h H)
theorem hidT_size (h : Heap) (H : Hp) : (hidT h H).objs.size = h.objs.size := PySem.W.hideAll_size _ _
theorem hidT_get {h : Heap} {H : Hp} {b : Addr} {o : Obj} (e : h.get? b = some o) (n : H b = none) : (hidT h H).get? b = some o :=
  PySem.W.hideAll_get _ e fun hm => by
    have q : (H b).isSome = true := (List.mem_filter.mp hm).2
    rw [n] at q; simp at q
theorem of_hidT {h : Heap} {H : Hp} {b : Addr} {o : Obj} (e : (hidT h H).get? b = some o) : h.get? b = some o ∧ H b = none := by
  have e' : h.get? b = some o := PySem.W.of_hideAll (trk h H) e
  refine ⟨e', ?_⟩
  cases q : H b with
  | none => rfl
  | some x =>
    have hm : b ∈ trk h H := List.mem_filter.mpr ⟨List.mem_range.mpr (Heap.lt_size e'), by simp [q]⟩
    have z : (hidT h H).get? b = none := PySem.W.hideAll_none (trk h H) hm
    rw [z] at e; cases e
def allNews (g h : Heap) (L : Addr) : List (Addr × Obj) := (List.range h.objs.size).filterMap fun a => if a = L ∨ (g.get? a).isSome = true then none else (h.get? a).map fun o => (a, o)
def rest (g h : Heap) (L d : Addr) : List (Addr × Obj) := (allNews g h L).filter fun p => decide (p.1 ≠ d)
end L2
namespace L2
open PySem PySem.Spec PyProof.Rows
structure Mod (K : PySem.W.Frag) (mg : Str → Option Value) (base : Heap) : Prop where
  kin : K.In base
  glob : base.Ns mainGlobals mg
  blt : ∃ mb, base.Ns builtinsNs mb ∧ ∀ x : Str, x ≠ "__name__" → mb x = bootBuiltins x
  nolimit : base.NoLimit
structure Cx where
  prog : Program
  w : World
  K : PySem.W.Frag
  mg : Str → Option Value
  base : Heap
  A : Around
  N : List Str
  s_0 : Shared
  H_0 : Hp
  env : Env
  outer : List Env
  stack : List Env
  ex : List Addr
  fn : Str → Bool
  calm : Bool
  pn : List (Addr × Obj)
  xe : Value → Shared → Prop
def frs (l : List Env) : List Addr := l.filterMap (·.frame)
abbrev Cx.fs (X : Cx) : List Addr := frs X.outer
def Vis (sc : Scope) (x : Str) : Prop := sc.names.lookup x = some .local ∨ sc.names.lookup x = some .cell ∨ sc.names.lookup x = some .free
def Loc (sc : Scope) (x : Str) : Prop := sc.names.lookup x = some .local ∨ sc.names.lookup x = some .cell
def Look (env : Env) (h : Heap) (m : Str → Option Value) (x : Str) (u : Value) : Prop :=
  (env.kindOf x = some .local ∧ m x = some u) ∨ ((env.kindOf x = some .cell ∨ env.kindOf x = some .free) ∧ ∃ c, env.cells.lookup x = some c ∧ h.IsCell c (some u))
structure Cx.Ok (X : Cx) : Prop where
  mod : Mod X.K X.mg X.base
  kind : X.env.scope.kind = .function
  glob : X.env.globals = mainGlobals
  blt : X.env.builtins = builtinsNs
  above : X.s_0.heap.objs.size ≤ X.env.locals
  inj : ∀ x y c, X.env.cells.lookup x = some c → X.env.cells.lookup y = some c → x = y
  has : ∀ x, (X.env.kindOf x = some .cell ∨ X.env.kindOf x = some .free) → ∃ c, X.env.cells.lookup x = some c
  cab : ∀ x c, X.fn x = true → X.env.cells.lookup x = some c → X.s_0.heap.objs.size ≤ c
  hd : X.calm = true → X.A.handled = none
  frames : X.A.frames = some X.stack
  stk : X.stack = X.outer ∨ (X.stack = X.env :: X.outer ∧ X.env.frame = some X.env.locals)
  exf : ∀ b ∈ X.ex, b ≠ X.env.locals ∧ ∀ x c, X.env.cells.lookup x = some c → c ≠ b
  bs : ∀ b o, X.base.get? b = some o → X.s_0.heap.get? b = some o ∧ X.H_0 b = none
  bsz : X.base.objs.size ≤ X.s_0.heap.objs.size
  noex : ∀ b o, X.base.get? b = some o → b ∉ X.ex
  exfs : ∀ b ∈ X.ex, b ∉ X.fs
  funs : X.s_0.heap.FunFrames X.base X.outer
  frf : ∀ b ∈ X.fs, X.H_0 b = none
structure Inv (X : Cx) (pins : List (Addr × Obj)) (σ : List (Option V)) (H : Hp) (s : Shared) : Prop where
  ok : X.Ok
  os : s.os = X.s_0.os
  bare : AllBare s.gens
  base : Un X.fs X.ex X.H_0 H X.s_0.heap s.heap
  loc : ∃ m, s.heap.Ns X.env.locals m ∧ ∀ (i : Nat) (x : Str) (v : V), X.N[i]? = some x → σ[i]? = some (some v) → Vis X.env.scope x → ∃ u, RelV v u ∧ Look X.env s.heap m x u
  cell : ∀ x c, X.env.cells.lookup x = some c → ∃ v, s.heap.IsCell c v
  free : H X.env.locals = none
  freeC : ∀ x c, X.env.cells.lookup x = some c → H c = none
  pin : ∀ p ∈ X.pn ++ pins, s.heap.get? p.1 = some p.2 ∧ H p.1 = none ∧ p.1 ≠ X.env.locals ∧ p.1 ∉ X.fs ∧ ∀ v, p.2.data ≠ .cell v
  hok : HOk X.prog X.w H s.heap
  len : σ.length = X.N.length
section
variable {X : Cx} {pins : List (Addr × Obj)} {σ : List (Option V)} {H H' : Hp} {s : Shared} {h' : Heap}
theorem Cx.Ok.nofr (ok : X.Ok) {b : Addr} {o : Obj} (e : X.base.get? b = some o) : b ∉ X.fs := fun hb => by
  have := (ok.funs.mem hb).1
  rw [e] at this; cases this
theorem Inv.bs (I : Inv X pins σ H s) : ∀ b o, X.base.get? b = some o → s.heap.get? b = some o ∧ H b = none := fun b o e =>
  ⟨I.base.keep b o (I.ok.bs b o e).1 (I.ok.bs b o e).2 (I.ok.nofr e) (I.ok.noex b o e), I.base.free b o (I.ok.bs b o e).1 (I.ok.bs b o e).2 (I.ok.noex b o e)⟩
theorem Inv.bk (I : Inv X pins σ H s) : ∀ b o, X.base.get? b = some o → s.heap.get? b = some o := fun b o e => (I.bs b o e).1
theorem Inv.mod (I : Inv X pins σ H s) : Mod X.K X.mg X.base := I.ok.mod
theorem Inv.kIn (I : Inv X pins σ H s) : X.K.In s.heap := I.ok.mod.kin.keeps I.bk
theorem Inv.nolimit (I : Inv X pins σ H s) : s.heap.NoLimit := I.ok.mod.nolimit.keeps I.bk
theorem Inv.lt (I : Inv X pins σ H s) : X.env.locals < s.heap.objs.size := let ⟨_, hn, _⟩ := I.loc; hn.lt
theorem Inv.sz (I : Inv X pins σ H s) : X.s_0.heap.objs.size ≤ s.heap.objs.size := Nat.le_trans I.ok.above (Nat.le_of_lt I.lt)
theorem Inv.nofs (I : Inv X pins σ H s) {a : Addr} (h : s.heap.objs.size ≤ a) : a ∉ X.fs := fun hb => by
  obtain ⟨_, o, ho, _⟩ := I.ok.funs.mem hb
  exact absurd (Nat.lt_of_lt_of_le (Heap.lt_size ho) (Nat.le_trans I.sz h)) (Nat.lt_irrefl _)
theorem Inv.cne (I : Inv X pins σ H s) : ∀ x c, X.env.cells.lookup x = some c → c ≠ X.env.locals := fun x c e z => by
  obtain ⟨v, o, ho, hd⟩ := I.cell x c e
  obtain ⟨m, ⟨o', es, ep, ho', hd', _⟩, _⟩ := I.loc
  rw [z, ho'] at ho; cases ho; rw [hd'] at hd; cases hd
theorem Inv.funs (I : Inv X pins σ H s) : s.heap.FunFrames X.base X.outer := by
  have all : ∀ (l : List Env), (∀ b ∈ frs l, b ∈ X.fs) → X.s_0.heap.FunFrames X.base l → s.heap.FunFrames X.base l := by
    intro l
    induction l with
    | nil => intro _ _; trivial
    | cons env r ih =>
      intro hs hl
      obtain ⟨hk, ⟨L, o, hf, hn, ho, hd⟩, hr⟩ := hl
      have hL : L ∈ X.fs := hs L (by unfold frs; rw [List.filterMap_cons, hf]; exact List.mem_cons_self)
      obtain ⟨sl, e⟩ := I.base.slot L o ho (I.ok.frf L hL) hL fun z => I.ok.exfs L z hL
      exact ⟨hk, ⟨L, _, hf, hn, e, hd⟩, ih (fun b hb => hs b (by unfold frs; rw [List.filterMap_cons, hf]; exact List.mem_cons_of_mem _ hb)) hr⟩
  exact all X.outer (fun _ hb => hb) I.ok.funs
theorem Inv.stack (I : Inv X pins σ H s) : s.heap.FunFrames X.base X.stack := by
  rcases I.ok.stk with e | ⟨e, hf⟩
  · rw [e]; exact I.funs
  · rw [e]
    obtain ⟨m, hn, _⟩ := I.loc
    refine .cons (by rw [I.ok.kind]; decide) hf hn ?_ I.funs
    exact Heap.get?_none_of_le (Nat.le_trans I.ok.bsz I.ok.above)
theorem Inv.stkSub (I : Inv X pins σ H s) : ∀ b ∈ frs X.stack, b ∈ X.env.locals :: X.fs := fun b hb => by
  rcases I.ok.stk with e | ⟨e, hf⟩
  · rw [e] at hb; exact List.mem_cons_of_mem _ hb
  · rw [e] at hb
    unfold frs at hb
    rw [List.filterMap_cons, hf] at hb
    exact hb
theorem Inv.stkFree (I : Inv X pins σ H s) : ∀ b ∈ frs X.stack, H b = none := fun b hb => by
  rcases List.mem_cons.mp (I.stkSub b hb) with e | hb
  · rw [e]; exact I.free
  · obtain ⟨_, o, ho, _⟩ := I.ok.funs.mem hb
    exact I.base.free b o ho (I.ok.frf b hb) fun z => I.ok.exfs b z hb
theorem Inv.step {g' : Array GenState} {t' : Nat} {d' : Drawn} {ch : List Addr} (I : Inv X pins σ H s)
    (hch : ∀ b ∈ ch, (b ∈ X.ex ∨ X.s_0.heap.objs.size ≤ b) ∧ b ≠ X.env.locals ∧ (∀ x c, X.env.cells.lookup x = some c → c ≠ b) ∧ ∀ p ∈ X.pn ++ pins, p.1 ≠ b)
    (keep : ∀ b o, b ≠ X.env.locals → b ∉ X.fs → b ∉ ch → s.heap.get? b = some o → H b = none → h'.get? b = some o)
    (slot : ∀ b o, b ≠ X.env.locals → b ∈ X.fs → b ∉ ch → s.heap.get? b = some o → H b = none → ∃ sl, h'.get? b = some { o with slots := sl }) (free : ∀ b o, b ∉ ch → s.heap.get? b = some o → H b = none → H' b = none)
    (there : ∀ b o, b ∉ ch → s.heap.get? b = some o → ∃ o', h'.get? b = some o')
    (tups : ∀ b xs, H b = some (.tup xs) → H' b = some (.tup xs)) (frzs : ∀ b o u, H b = some (.frz o u) → H' b = some (.frz o u)) (tbls : ∀ b ps, H b = some (.tbl ps) → ∃ more, H' b = some (.tbl (ps ++ more)))
    (ns : ∀ m, s.heap.Ns X.env.locals m → h'.Ns X.env.locals m) (hok : HOk X.prog X.w H' h') (hg : AllBare g') :
    Inv X pins σ H' { s with heap := h', gens := g', drawn := d', toks := t' } := by
  have neL : ∀ b o, X.s_0.heap.get? b = some o → b ≠ X.env.locals := fun b o e => Nat.ne_of_lt (Nat.lt_of_lt_of_le (Heap.lt_size e) I.ok.above)
  have neC : ∀ b o, X.s_0.heap.get? b = some o → b ∉ X.ex → b ∉ ch := fun b o e hx hb => by
    rcases (hch b hb).1 with z | z
    · exact hx z
    · exact absurd (Nat.lt_of_lt_of_le (Heap.lt_size e) z) (Nat.lt_irrefl _)
  have cellK : ∀ x c, X.env.cells.lookup x = some c → ∀ v, s.heap.IsCell c v → h'.IsCell c v := fun x c e v ⟨o, ho, hd⟩ => by
    have nch : c ∉ ch := fun z => (hch c z).2.2.1 x c e rfl
    by_cases hc : c ∈ X.fs
    · obtain ⟨sl, q⟩ := slot c o (I.cne x c e) hc nch ho (I.freeC x c e)
      exact ⟨_, q, hd⟩
    · exact ⟨o, keep c o (I.cne x c e) hc nch ho (I.freeC x c e), hd⟩
  refine ⟨I.ok, I.os, hg, ⟨fun b o e n hb hx => ?_, fun b o e n hb hx => ?_, fun b o e n hx => ?_, fun b o e hx => ?_, fun b xs e => tups b xs (I.base.tups b xs e), fun b o xs e => frzs b o xs (I.base.frzs b o xs e), fun b ps e => ?_⟩, ?_, fun x c e => ?_, ?_, fun x c e => ?_, fun p hp => ?_, hok, I.len⟩
  · exact keep b o (neL b o e) hb (neC b o e hx) (I.base.keep b o e n hb hx) (I.base.free b o e n hx)
  · obtain ⟨sl, e1⟩ := I.base.slot b o e n hb hx
    obtain ⟨sl', e2⟩ := slot b _ (neL b o e) hb (neC b o e hx) e1 (I.base.free b o e n hx)
    exact ⟨sl', e2⟩
  · obtain ⟨o', e1⟩ := I.base.there b o e hx
    exact free b o' (neC b o e hx) e1 (I.base.free b o e n hx)
  · obtain ⟨o', e1⟩ := I.base.there b o e hx
    exact there b o' (neC b o e hx) e1
  · obtain ⟨m1, e1⟩ := I.base.tbls b ps e
    obtain ⟨m2, e2⟩ := tbls b _ e1
    exact ⟨m1 ++ m2, by rw [e2, Array.append_assoc]⟩
  · obtain ⟨m, hn, hl⟩ := I.loc
    refine ⟨m, ns m hn, fun i x v e1 e2 e3 => ?_⟩
    obtain ⟨u, r, l⟩ := hl i x v e1 e2 e3
    refine ⟨u, r, ?_⟩
    rcases l with l | ⟨k, c, e, z⟩
    · exact .inl l
    · exact .inr ⟨k, c, e, cellK x c e _ z⟩
  · obtain ⟨v, z⟩ := I.cell x c e
    exact ⟨v, cellK x c e v z⟩
  · obtain ⟨m, ⟨o, _, _, ho, _⟩, _⟩ := I.loc
    exact free _ o (fun z => (hch _ z).2.1 rfl) ho I.free
  · obtain ⟨v, o, ho, hd⟩ := I.cell x c e
    exact free c o (fun z => (hch c z).2.2.1 x c e rfl) ho (I.freeC x c e)
  · obtain ⟨e, n, ne, nf, d⟩ := I.pin p hp
    have nch : p.1 ∉ ch := fun z => (hch p.1 z).2.2.2 p hp rfl
    exact ⟨keep p.1 p.2 ne nf nch e n, free p.1 p.2 nch e n, ne, nf, d⟩
theorem Inv.un {t' : Nat} (I : Inv X pins σ H s) (u : Un X.fs [] H H' s.heap h') (hok : HOk X.prog X.w H' h') : Inv X pins σ H' { s with heap := h', toks := t' } := by
  obtain ⟨m, ⟨o, es, ep, ho, r⟩, _⟩ := id I.loc
  obtain ⟨sl, hL⟩ := u.any ho I.free (by simp)
  exact I.step (g' := s.gens) (d' := s.drawn) (ch := []) (fun _ z => nomatch z) (fun b o _ hb _ e n => u.keep b o e n hb (by simp)) (fun b o _ hb _ e n => u.slot b o e n hb (by simp)) (fun b o _ e n => u.free b o e n (by simp)) (fun b o _ e => u.there b o e (by simp)) u.tups u.frzs u.tbls (fun m' hm => by
    obtain ⟨o', es', ep', ho', r'⟩ := hm
    rw [ho] at ho'; cases ho'
    exact ⟨_, es', ep', hL, r'⟩) hok I.bare
theorem Inv.call {g' : Array GenState} {t' : Nat} {d' : Drawn} {ch : List Addr} (I : Inv X pins σ H s) (u : Un (frs X.stack) ch H H' s.heap h') (hok : HOk X.prog X.w H' h') (hg : AllBare g')
    (hch : ∀ b ∈ ch, (b ∈ X.ex ∨ X.s_0.heap.objs.size ≤ b) ∧ b ≠ X.env.locals ∧ (∀ x c, X.env.cells.lookup x = some c → c ≠ b) ∧ ∀ p ∈ X.pn ++ pins, p.1 ≠ b) :
    Inv X pins σ H' { s with heap := h', gens := g', drawn := d', toks := t' } := by
  obtain ⟨m, ⟨o, es, ep, ho, r⟩, _⟩ := id I.loc
  obtain ⟨sl, hL⟩ := u.any ho I.free fun z => (hch _ z).2.1 rfl
  exact I.step (ch := ch) hch (fun b o hL hb hc e n => u.keep b o e n (fun z => (List.mem_cons.mp (I.stkSub b z)).elim hL hb) hc) (fun b o _ _ hc e n => u.any e n hc) (fun b o hc e n => u.free b o e n hc) (fun b o hc e => u.there b o e hc) u.tups u.frzs u.tbls (fun m' hm => by
    obtain ⟨o', es', ep', ho', r'⟩ := hm
    rw [ho] at ho'; cases ho'
    exact ⟨_, es', ep', hL, r'⟩) hok hg
theorem Inv.turned {t' : Nat} {it : Addr} (I : Inv X pins σ H s) (k : ∀ b o, b ≠ it → s.heap.get? b = some o → h'.get? b = some o) (hn : H it = none) (hL : it ≠ X.env.locals)
    (h1 : it ∈ X.ex ∨ X.s_0.heap.objs.size ≤ it) (h2 : ∀ x c, X.env.cells.lookup x = some c → c ≠ it) (h3 : ∀ p ∈ X.pn ++ pins, p.1 ≠ it) : Inv X pins σ H { s with heap := h', toks := t' } := by
  have nit : ∀ b u, H b = some u → b ≠ it := fun b u e z => by rw [z, hn] at e; cases e
  refine I.step (g' := s.gens) (d' := s.drawn) (ch := [it]) (fun b hb => ?_) (fun b o _ _ hc e _ => k b o (fun z => hc (by simp [z])) e) (fun b o _ _ hc e _ => ⟨o.slots, k b o (fun z => hc (by simp [z])) e⟩) (fun _ _ _ _ n => n)
    (fun b o hc e => ⟨o, k b o (fun z => hc (by simp [z])) e⟩) (fun _ _ e => e) (fun _ _ _ e => e) (fun b ps e => ⟨#[], by rw [e]; simp⟩) (fun m hm => ?_) (fun b u e => ?_) I.bare
  · have e : b = it := by simpa using hb
    subst e
    exact ⟨h1, hL, h2, h3⟩
  · obtain ⟨o, es, ep, ho, r⟩ := hm
    exact ⟨o, es, ep, k _ o (Ne.symm hL) ho, r⟩
  · refine (I.hok b u e).stay (fun c v hc q => k c v ?_ q) (fun _ q => q) fun _ _ q => q
    rcases hc with z | z
    · rw [z]; exact nit b u e
    · exact nit c _ z
theorem Inv.tok (I : Inv X pins σ H s) (t : Nat) : Inv X pins σ H { s with toks := t } := I.un (h' := s.heap) (t' := t) Un.refl I.hok
theorem Inv.kept {t' : Nat} (I : Inv X pins σ H s) (k : ∀ b u, s.heap.get? b = some u → h'.get? b = some u) : Inv X pins σ H { s with heap := h', toks := t' } := I.un (Un.kept k) (I.hok.kept k)
theorem Inv.laid {a : Addr} {o : HO} {t' : Nat} (I : Inv X pins σ H s) (k : ∀ b u, s.heap.get? b = some u → h'.get? b = some u) (hp : s.heap.objs.size ≤ a) (new : ObjOk X.prog X.w (upd H a o) h' a o) :
    Inv X pins σ (upd H a o) { s with heap := h', toks := t' } := I.un (Un.laid k hp (I.hok.fresh hp)) (I.hok.laid k hp new)
theorem Inv.write {x e : Addr} {o : HO} {t' : Nat} (I : Inv X pins σ H s) (mu : Mut (H x)) (he : e = x ∨ H e = some (.own x)) (k : ∀ b u, b ≠ e → s.heap.get? b = some u → h'.get? b = some u) (heo : ∃ u, h'.get? e = some u)
    (new : ObjOk X.prog X.w (upd H x o) h' x o) : Inv X pins σ (upd H x o) { s with heap := h', toks := t' } := I.un (Un.write mu he k heo) (I.hok.write mu he k heo new)
theorem Inv.weak {σ' : List (Option V)} (I : Inv X pins σ H s) (hl : σ'.length = σ.length) (w : ∀ (i : Nat) v, σ'[i]? = some (some v) → σ[i]? = some (some v)) : Inv X pins σ' H s :=
  ⟨I.ok, I.os, I.bare, I.base, let ⟨m, hn, hl'⟩ := I.loc; ⟨m, hn, fun i x v e1 e2 e3 => hl' i x v e1 (w i v e2) e3⟩, I.cell, I.free, I.freeC, I.pin, I.hok, hl.trans I.len⟩
theorem Inv.pins_of {pins' : List (Addr × Obj)} (I : Inv X pins σ H s) (h : ∀ p ∈ pins', s.heap.get? p.1 = some p.2 ∧ H p.1 = none ∧ p.1 ≠ X.env.locals ∧ p.1 ∉ X.fs ∧ ∀ v, p.2.data ≠ .cell v) : Inv X pins' σ H s :=
  ⟨I.ok, I.os, I.bare, I.base, I.loc, I.cell, I.free, I.freeC, fun p hp => (List.mem_append.mp hp).elim (fun z => I.pin p (List.mem_append_left _ z)) (h p), I.hok, I.len⟩
theorem nodup_ix {N : List Str} (hN : N.Nodup) {i j : Nat} {x : Str} (a : N[i]? = some x) (b : N[j]? = some x) : i = j := by
  obtain ⟨h1, e1⟩ := List.getElem?_eq_some_iff.mp a
  obtain ⟨h2, e2⟩ := List.getElem?_eq_some_iff.mp b
  exact (List.getElem_inj hN).mp (e1.trans e2.symm)
theorem store_ok2 {M : Model} {A : Around} {E : Value → Shared → Prop} {i : Nat} {x : Str} {v : V} {u : Value} {Q : Unit → Shared → Prop} (I : Inv X pins σ H s) (hN : X.N.Nodup) (hi : X.N[i]? = some x) (hx : Loc X.env.scope x) (r : RelV v u)
    (h : ∀ s', Inv X pins (σ.set i (some v)) H s' → (∃ a, Heap.SameBut a s.heap s'.heap ∧ (a = X.env.locals ∨ X.env.cells.lookup x = some a)) → Q () s') (hf : X.fn x = true ∨ X.env.scope.names.lookup x = some .local := by first | exact .inl rfl | exact .inr rfl | assumption) : wpAny M A (storeName X.env x u) Q E s := by
  obtain ⟨m, hn, hl⟩ := id I.loc
  have hcls : (X.env.scope.kind == .class || (X.env.scope.kind == .module && X.env.locals != X.env.globals)) = false := by rw [I.ok.kind]; rfl
  have hiσ : i < σ.length := by rw [I.len]; exact (List.getElem?_eq_some_iff.mp hi).1
  have cne := I.cne
  have tracked : ∀ {a : Addr} {h' : Heap}, (∃ o, s.heap.get? a = some o ∧ H a = none) → Heap.SameBut a s.heap h' → HOk X.prog X.w H h' := fun {a h'} ha hs b ob e => by
    obtain ⟨_, _, hfree⟩ := ha
    refine (I.hok b ob e).stay (fun c w' hc q => (hs.2 c ?_).trans q) (fun _ q => q) fun _ _ q => q
    rintro rfl
    rcases hc with rfl | hc
    · rw [hfree] at e; cases e
    · rw [hfree] at hc; cases hc
  rcases hx with hk | hk
  · refine wpAny_storeName_local hk hn (fun h' hn' hs => ?_) hcls
    obtain ⟨oL, _, _, hoL, _⟩ := id hn
    refine h _ ⟨I.ok, I.os, I.bare, ⟨fun b o e n hb hx => ?_, fun b o e n hb hx => ?_, I.base.free, fun b o e hx => ?_, I.base.tups, I.base.frzs, I.base.tbls⟩, ⟨_, hn', fun j y v' e1 e2 e3 => ?_⟩, fun y c e => ?_, I.free, I.freeC, fun p hp => ?_, tracked ⟨oL, hoL, I.free⟩ hs, by simpa using I.len⟩ ⟨_, hs, .inl rfl⟩
    · exact (hs.2 b (Nat.ne_of_lt (Nat.lt_of_lt_of_le (Heap.lt_size e) I.ok.above))).trans (I.base.keep b o e n hb hx)
    · obtain ⟨sl, e1⟩ := I.base.slot b o e n hb hx
      exact ⟨sl, (hs.2 b (Nat.ne_of_lt (Nat.lt_of_lt_of_le (Heap.lt_size e) I.ok.above))).trans e1⟩
    · obtain ⟨o', e1⟩ := I.base.there b o e hx
      exact ⟨o', (hs.2 b (Nat.ne_of_lt (Nat.lt_of_lt_of_le (Heap.lt_size e) I.ok.above))).trans e1⟩
    · by_cases hj : j = i
      · subst hj
        rw [hi] at e1; cases e1
        rw [List.getElem?_set_self hiσ] at e2
        cases e2
        exact ⟨u, r, .inl ⟨hk, by simp⟩⟩
      · rw [List.getElem?_set_ne (Ne.symm hj)] at e2
        obtain ⟨u', r', q⟩ := hl j y v' e1 e2 e3
        refine ⟨u', r', ?_⟩
        rcases q with ⟨k, e⟩ | ⟨k, c, e, z⟩
        · refine .inl ⟨k, ?_⟩
          have : y ≠ x := fun e => hj (nodup_ix hN e1 (e ▸ hi))
          simp [this, e]
        · exact .inr ⟨k, c, e, z.sameBut hs (cne y c e)⟩
    · obtain ⟨w', z⟩ := I.cell y c e
      exact ⟨w', z.sameBut hs (cne y c e)⟩
    · obtain ⟨e, n, ne, nf, d⟩ := I.pin p hp
      exact ⟨(hs.2 p.1 ne).trans e, n, ne, nf, d⟩
  · have hfn : X.fn x = true := by
      rcases hf with z | z
      · exact z
      · rw [z] at hk; cases hk
    obtain ⟨c, hc⟩ := I.ok.has x (.inl hk)
    obtain ⟨w', z⟩ := I.cell x c hc
    refine wpAny_storeName_cell I.ok.kind hk hc z (fun h' hc' hs => ?_)
    obtain ⟨oc, hoc, hocd⟩ := id z
    refine h { s with heap := h' } ⟨I.ok, I.os, I.bare, ⟨fun b o e n hb hx => ?_, fun b o e n hb hx => ?_, I.base.free, fun b o e hx => ?_, I.base.tups, I.base.frzs, I.base.tbls⟩, ⟨m, hn.sameBut hs (Ne.symm (cne x c hc)), fun j y v' e1 e2 e3 => ?_⟩, fun y c' e => ?_, I.free, I.freeC, fun p hp => ?_, tracked ⟨oc, hoc, I.freeC x c hc⟩ hs, by simpa using I.len⟩ ⟨c, hs, .inr hc⟩
    · exact (hs.2 b (Nat.ne_of_lt (Nat.lt_of_lt_of_le (Heap.lt_size e) (I.ok.cab x c hfn hc)))).trans (I.base.keep b o e n hb hx)
    · obtain ⟨sl, e1⟩ := I.base.slot b o e n hb hx
      exact ⟨sl, (hs.2 b (Nat.ne_of_lt (Nat.lt_of_lt_of_le (Heap.lt_size e) (I.ok.cab x c hfn hc)))).trans e1⟩
    · obtain ⟨o', e1⟩ := I.base.there b o e hx
      exact ⟨o', (hs.2 b (Nat.ne_of_lt (Nat.lt_of_lt_of_le (Heap.lt_size e) (I.ok.cab x c hfn hc)))).trans e1⟩
    · by_cases hj : j = i
      · subst hj
        rw [hi] at e1; cases e1
        rw [List.getElem?_set_self hiσ] at e2
        cases e2
        exact ⟨u, r, .inr ⟨.inl hk, c, hc, hc'⟩⟩
      · rw [List.getElem?_set_ne (Ne.symm hj)] at e2
        obtain ⟨u', r', q⟩ := hl j y v' e1 e2 e3
        refine ⟨u', r', ?_⟩
        rcases q with q | ⟨k, c', e, z'⟩
        · exact .inl q
        · refine .inr ⟨k, c', e, z'.sameBut hs ?_⟩
          rintro rfl
          exact hj (nodup_ix hN e1 (I.ok.inj _ _ _ e hc ▸ hi))
    · by_cases hcc : c' = c
      · subst hcc; exact ⟨_, hc'⟩
      · obtain ⟨w2, z2⟩ := I.cell y c' e
        exact ⟨w2, z2.sameBut hs hcc⟩
    · obtain ⟨e, n, ne, nf, d⟩ := I.pin p hp
      refine ⟨(hs.2 p.1 ?_).trans e, n, ne, nf, d⟩
      intro q
      rw [q, hoc] at e
      have q' : oc = p.2 := Option.some.inj e
      exact d w' (by rw [← q']; exact hocd)
theorem store_ok {M : Model} {A : Around} {E : Value → Shared → Prop} {i : Nat} {x : Str} {v : V} {u : Value} {Q : Unit → Shared → Prop} (I : Inv X pins σ H s) (hN : X.N.Nodup) (hi : X.N[i]? = some x) (hx : Loc X.env.scope x) (r : RelV v u)
    (h : ∀ s', Inv X pins (σ.set i (some v)) H s' → Q () s') (hf : X.fn x = true ∨ X.env.scope.names.lookup x = some .local := by first | exact .inl rfl | exact .inr rfl | assumption) : wpAny M A (storeName X.env x u) Q E s :=
  store_ok2 I hN hi hx r (fun s' I' _ => h s' I') hf
theorem Inv.call' {s' : Shared} {ch : List Addr} (I : Inv X pins σ H s) (ho : s'.os = s.os) (u : Un (frs X.stack) ch H H' s.heap s'.heap) (hok : HOk X.prog X.w H' s'.heap) (hg : AllBare s'.gens)
    (hch : ∀ b ∈ ch, (b ∈ X.ex ∨ X.s_0.heap.objs.size ≤ b) ∧ b ≠ X.env.locals ∧ (∀ x c, X.env.cells.lookup x = some c → c ≠ b) ∧ ∀ p ∈ X.pn ++ pins, p.1 ≠ b) : Inv X pins σ H' s' := by
  obtain ⟨h', g', d', t', o'⟩ := s'
  have e : o' = s.os := ho
  subst e
  exact I.call (g' := g') (t' := t') (d' := d') u hok hg hch
end
abbrev XK := Value → Option Addr → Hp → Prop
abbrev St := List (Option V)
abbrev VK := V → Hp → Prop
abbrev TE := St → Hp → VK → Prop
abbrev TT := St → Hp → (Bool → Hp → Prop) → Prop
abbrev TA := St → Hp → (List V → Hp → Prop) → Prop
structure Ends where
  nx : St → Hp → Prop
  rt : VK
  bk : St → Hp → Prop := fun _ _ => False
  ct : St → Hp → Prop := fun _ _ => False
abbrev TS := Ends → St → Hp → Prop
def EP (X : Cx) (pins : List (Addr × Obj)) (σ : St) (Q : VK) (u : Value) (s' : Shared) : Prop := ∃ v H', Inv X pins σ H' s' ∧ RelV v u ∧ Q v H'
def TP (X : Cx) (pins : List (Addr × Obj)) (σ : St) (Q : Bool → Hp → Prop) (b : Bool) (s' : Shared) : Prop := ∃ H', Inv X pins σ H' s' ∧ Q b H'
def AP (X : Cx) (pins : List (Addr × Obj)) (σ : St) (Q : List V → Hp → Prop) (us : List Value) (s' : Shared) : Prop := ∃ vs H', Inv X pins σ H' s' ∧ Vals vs us ∧ Q vs H'
def SP (X : Cx) (pins : List (Addr × Obj)) (D : Ends) (f : Flow) (s' : Shared) : Prop :=
  match f with
  | .next => ∃ σ' H', Inv X pins σ' H' s' ∧ D.nx σ' H'
  | .brk => ∃ σ' H', Inv X pins σ' H' s' ∧ D.bk σ' H'
  | .cont => ∃ σ' H', Inv X pins σ' H' s' ∧ D.ct σ' H'
  | .ret u => ∃ v σ' H', Inv X pins σ' H' s' ∧ RelV v u ∧ D.rt v H'
def PE (X : Cx) (e : Expr) (t : TE) : Prop :=
  ∀ (pins : List (Addr × Obj)) (s : Shared) (σ : St) (H : Hp) (Q : VK), Inv X pins σ H s → t σ H Q → wpAny (model X.prog X.w) X.A (eval e X.env) (EP X pins σ Q) X.xe s
def PT (X : Cx) (e : Expr) (t : TT) : Prop :=
  ∀ (pins : List (Addr × Obj)) (s : Shared) (σ : St) (H : Hp) (Q : Bool → Hp → Prop), Inv X pins σ H s → t σ H Q → wpAny (model X.prog X.w) X.A (isTrue e X.env (eval e X.env)) (TP X pins σ Q) X.xe s
def PW (X : Cx) (e : Expr) (t : TT) : Prop :=
  ∀ (whole : Sem Value) (pins : List (Addr × Obj)) (s : Shared) (σ : St) (H : Hp) (Q : Bool → Hp → Prop), Inv X pins σ H s → t σ H Q → wpAny (model X.prog X.w) X.A (isTrue e X.env whole) (TP X pins σ Q) X.xe s
theorem PW.pt {X : Cx} {e : Expr} {t : TT} (h : PW X e t) : PT X e t := h _
def PA (X : Cx) (es : List Expr) (t : TA) : Prop :=
  ∀ (pos : Pos) (pins : List (Addr × Obj)) (s : Shared) (σ : St) (H : Hp) (Q : List V → Hp → Prop), Inv X pins σ H s → t σ H Q → wpAny (model X.prog X.w) X.A (spliced (backTo pos (starEach es X.env))) (AP X pins σ Q) X.xe s
def PS (X : Cx) (st : Stmt) (t : TS) : Prop :=
  ∀ (pins : List (Addr × Obj)) (s : Shared) (σ : St) (H : Hp) (D : Ends), Inv X pins σ H s → t D σ H → wpAny (model X.prog X.w) X.A (exec st X.env) (SP X pins D) X.xe s
def PSs (X : Cx) (st : List Stmt) (t : TS) : Prop :=
  ∀ (pins : List (Addr × Obj)) (s : Shared) (σ : St) (H : Hp) (D : Ends), Inv X pins σ H s → t D σ H → wpAny (model X.prog X.w) X.A (execs st X.env) (SP X pins D) X.xe s
theorem thn {α : Type} {t : Sem α} {Q Q' : α → Shared → Prop} {M : Model} {A : Around} {E : Value → Shared → Prop} {s : Shared} (h : wpAny M A t Q E s) (hQ : ∀ a s, Q a s → Q' a s) : wpAny M A t Q' E s := wpAny_mono h hQ fun _ _ x => x
end L2
namespace L2
open PySem PySem.Spec PyProof.Rows
section
variable {X : Cx}
def tVar (i : Nat) : TE := fun σ H Q => ∃ v, σ[i]? = some (some v) ∧ Q v H
def tC (v : V) : TE := fun _ H Q => Q v H
theorem pe_var {i : Nat} {x : Str} {pos : Pos} (hN : X.N[i]? = some x) (hv : Vis X.env.scope x) (hd : (x == ("__debug__" : Str)) = false := by decide) (hcd : (x == ("__classdict__" : Str)) = false := by decide) : PE X (.Name x pos) (tVar i) := by
  intro pins s σ H Q I h
  obtain ⟨v, e, h⟩ := h
  obtain ⟨m, hn, hl⟩ := I.loc
  obtain ⟨u, r, l⟩ := hl i x v hN e hv
  have fin : EP X pins σ Q u s := ⟨v, H, I, r, h⟩
  rcases l with ⟨hk, hm⟩ | ⟨hk, c, hc, hcell⟩
  · exact wpAny_Name (wpAny_loadName_local I.ok.kind hk hn hm fin) hd
  · rcases hk with hk | hk
    · exact wpAny_Name (wpAny_loadName_cell I.ok.kind hk hc hcell fin) hd
    · exact wpAny_Name (wpAny_loadName_free I.ok.kind hk hc hcell fin hcd) hd
theorem pe_int {i j pos} : PE X (.Constant (.int i) j pos) (tC (.int i)) := fun _ _ _ H _ I h => wpAny_Constant_int ⟨.int i, H, I.tok _, ⟨_, rfl⟩, h⟩
theorem pe_bl {b j pos} : PE X (.Constant (.bool b) j pos) (tC (.bl b)) := fun _ _ _ H _ I h => Constant_bool ⟨.bl b, H, I, rfl, h⟩
def Gl (X : Cx) (x : Str) : Prop := X.env.kindOf x = some .globalImplicit
theorem ld_glob {E : Value → Shared → Prop} {pins : List (Addr × Obj)} {s : Shared} {σ : St} {H : Hp} {x : Str} {u : Value} {pos : Pos} {Q : Value → Shared → Prop} (I : Inv X pins σ H s) (hg : Gl X x) (hm : X.mg x = some u) (h : Q u s)
    (hd : (x == ("__debug__" : Str)) = false := by decide) : wpAny (model X.prog X.w) X.A (eval (.Name x pos) X.env) Q E s :=
  Calls.Name_function_global I.ok.kind hg (Calls.loadGlobal_global (by rw [I.ok.glob]; exact I.mod.glob.keeps I.bk) hm h) hd
theorem ld_blt {E : Value → Shared → Prop} {pins : List (Addr × Obj)} {s : Shared} {σ : St} {H : Hp} {x : Str} {u : Value} {pos : Pos} {Q : Value → Shared → Prop} (I : Inv X pins σ H s) (hg : Gl X x) (hm : X.mg x = none) (hv : bootBuiltins x = some u) (h : Q u s)
    (hn : x ≠ "__name__" := by decide) (hd : (x == ("__debug__" : Str)) = false := by decide) : wpAny (model X.prog X.w) X.A (eval (.Name x pos) X.env) Q E s := by
  obtain ⟨mb, h1, h2⟩ := I.mod.blt
  exact Calls.Name_function_global I.ok.kind hg (Calls.loadGlobal_builtin (by rw [I.ok.glob]; exact I.mod.glob.keeps I.bk) hm (by rw [I.ok.blt]; exact h1.keeps I.bk) ((h2 x hn).trans hv) h) hd
theorem pe_glob {x : Str} {v : V} {u : Value} {pos : Pos} (hg : Gl X x) (hm : X.mg x = some u) (r : RelV v u) (hd : (x == ("__debug__" : Str)) = false := by decide) : PE X (.Name x pos) (tC v) :=
  fun _ _ _ H _ I h => ld_glob I hg hm ⟨v, H, I, r, h⟩ hd
variable {a b : Expr} {ta tb : TE} {pos : Pos}
def PC (X : Cx) (op : CmpOp) (a b : Expr) (t : TE) : Prop :=
  ∀ (pins : List (Addr × Obj)) (s : Shared) (σ : St) (H : Hp) (Q : VK), Inv X pins σ H s → t σ H Q →
    wpAny (model X.prog X.w) X.A (eval a X.env) (fun v s₁ => wpAny (model X.prog X.w) X.A (eval b X.env) (fun u s₂ => wpAny (model X.prog X.w) X.A (compareOp op v u) (EP X pins σ Q) X.xe s₂) X.xe s₁) X.xe s
theorem nobehind (b : Expr) {op : CmpOp} (h : op ≠ .In) (h2 : op ≠ .NotIn) : behindInMarks op b = false := by
  have e1 : (op == CmpOp.In) = false := by cases op <;> first | rfl | exact absurd rfl h
  have e2 : (op == CmpOp.NotIn) = false := by cases op <;> first | rfl | exact absurd rfl h2
  cases b <;> simp [behindInMarks, e1, e2]
def tB (t : TE) : TT := fun σ H Q => t σ H fun x H1 => ∃ c, x = .bl c ∧ Q c H1
theorem pt_cmp {op : CmpOp} {t : TE} (h : PC X op a b t) (h1 : behindInMarks op b = false := by first | exact nobehind _ (by decide) (by decide) | rfl) : PT X (.Compare a [op] [b] pos) (tB t) := by
  intro pins s σ H Q I hw
  refine wpAny_isTrue_Compare1 (thn (h pins s σ H _ I hw) fun v s1 h1 => thn h1 fun u s2 h2 => thn h2 fun c s3 ⟨x, H1, I1, r1, q1⟩ => ?_) h1
  obtain ⟨d, rfl, q⟩ := q1
  cases r1
  exact wpAny_truthy_bool ⟨H1, I1, q⟩
theorem pt_val {e : Expr} {t : TE} (h : PE X e t) (he : ∀ whole, isTrue e X.env whole = (do let v ← whole; standAt e.pos; holding [v] (truthy v)) := by intro _; rfl) : PT X e (tB t) := by
  intro pins s σ H Q I hw
  refine isTrue_plain (thn (h pins s σ H _ I hw) fun v s1 ⟨x, H1, I1, r1, q1⟩ => ?_) (he _)
  obtain ⟨d, rfl, q⟩ := q1
  cases r1
  exact wpAny_truthy_bool ⟨H1, I1, q⟩
variable {tA tB' : TT} {rest : List Expr}
def tAnd (t u : TT) : TT := fun σ H Q => t σ H fun c H1 => if c = true then u σ H1 Q else Q false H1
def tOr (t u : TT) : TT := fun σ H Q => t σ H fun c H1 => if c = true then Q true H1 else u σ H1 Q
def tNot (t : TT) : TT := fun σ H Q => t σ H fun c H1 => Q (!c) H1
theorem pw_and1 (ha : PT X a tA) : PW X (.BoolOp .And [a] pos) tA := by
  intro wh pins s σ H Q I h
  refine isTrue_and (thn (ha pins s σ H Q I h) fun c s1 e => ?_)
  cases c with
  | true => exact isTrue_and_nil e
  | false => exact e
theorem pw_or1 (ha : PT X a tA) : PW X (.BoolOp .Or [a] pos) tA := by
  intro wh pins s σ H Q I h
  refine isTrue_or (thn (ha pins s σ H Q I h) fun c s1 e => ?_)
  cases c with
  | false => exact isTrue_or_nil e
  | true => exact e
theorem pw_and (ha : PT X a tA) (hb : PW X (.BoolOp .And (b :: rest) pos) tB') : PW X (.BoolOp .And (a :: b :: rest) pos) (tAnd tA tB') := by
  intro wh pins s σ H Q I h
  refine isTrue_and (thn (ha pins s σ H _ I h) fun c s1 ⟨H1, I1, q1⟩ => ?_)
  cases c with
  | true => exact hb wh pins s1 σ H1 Q I1 q1
  | false => exact ⟨H1, I1, q1⟩
theorem pw_or (ha : PT X a tA) (hb : PW X (.BoolOp .Or (b :: rest) pos) tB') : PW X (.BoolOp .Or (a :: b :: rest) pos) (tOr tA tB') := by
  intro wh pins s σ H Q I h
  refine isTrue_or (thn (ha pins s σ H _ I h) fun c s1 ⟨H1, I1, q1⟩ => ?_)
  cases c with
  | true => exact ⟨H1, I1, q1⟩
  | false => exact hb wh pins s1 σ H1 Q I1 q1
theorem pt_not (ha : PT X a tA) : PT X (.UnaryOp .Not a pos) (tNot tA) := by
  intro pins s σ H Q I h
  exact isTrue_not (ha pins s σ H (fun c H1 => Q (!c) H1) I h)
def tAndV (ta tb : TE) : TE := fun σ H Q => ta σ H fun x H1 => ∃ c, x = .bl c ∧ if c = true then tb σ H1 Q else Q (.bl false) H1
def tOrV (ta tb : TE) : TE := fun σ H Q => ta σ H fun x H1 => ∃ c, x = .bl c ∧ if c = true then Q (.bl true) H1 else tb σ H1 Q
theorem pe_one {op} {t : TE} (h : PE X a t) : PE X (.BoolOp op [a] pos) t := fun pins s σ H Q I hw => BoolOp_one (h pins s σ H Q I hw)
theorem pe_and (ha : PE X a ta) (hb : PE X (.BoolOp .And (b :: rest) pos) tb) : PE X (.BoolOp .And (a :: b :: rest) pos) (tAndV ta tb) := by
  intro pins s σ H Q I h
  refine BoolOp_and (thn (ha pins s σ H _ I h) fun v s1 ⟨x, H1, I1, r1, q1⟩ => ?_)
  obtain ⟨c, rfl, q1⟩ := q1
  cases r1
  refine wpAny_truthy_bool ?_
  cases c with
  | true => exact hb pins s1 σ H1 Q I1 q1
  | false => exact ⟨.bl false, H1, I1, rfl, q1⟩
theorem pe_or (ha : PE X a ta) (hb : PE X (.BoolOp .Or (b :: rest) pos) tb) : PE X (.BoolOp .Or (a :: b :: rest) pos) (tOrV ta tb) := by
  intro pins s σ H Q I h
  refine BoolOp_or (thn (ha pins s σ H _ I h) fun v s1 ⟨x, H1, I1, r1, q1⟩ => ?_)
  obtain ⟨c, rfl, q1⟩ := q1
  cases r1
  refine wpAny_truthy_bool ?_
  cases c with
  | false => exact hb pins s1 σ H1 Q I1 q1
  | true => exact ⟨.bl true, H1, I1, rfl, q1⟩
def tIf (t : TT) (ta tb : TE) : TE := fun σ H Q => t σ H fun c H1 => if c = true then ta σ H1 Q else tb σ H1 Q
theorem pe_ifExp {c : Expr} (hc : PT X c tA) (ha : PE X a ta) (hb : PE X b tb) : PE X (.IfExp c a b pos) (tIf tA ta tb) := by
  intro pins s σ H Q I h
  refine wpAny_IfExp (thn (hc pins s σ H _ I h) fun d s1 ⟨H1, I1, q1⟩ => ?_)
  cases d with
  | true => exact ha pins s1 σ H1 Q I1 q1
  | false => exact hb pins s1 σ H1 Q I1 q1
end
end L2
namespace L2
open PySem PySem.Spec PyProof.Rows
def SqL (K : PySem.W.Frag) (H : Hp) (a : Addr) (xs : List V) : Prop :=
  Rd H a (.lst xs) ∨
    ∃ (o : Obj) (its : Array Value) (n : Nat), K.lookup a = some o ∧ o.cls = .type "list" ∧ o.dict = none ∧ o.data = .seq its n ∧ its.size ≤ sizeLine ∧ Vals xs its.toList
def SqT (K : PySem.W.Frag) (H : Hp) (a : Addr) (xs : List V) : Prop :=
  Rd H a (.tup xs) ∨
    ∃ (o : Obj) (its : Array Value) (n : Nat), K.lookup a = some o ∧ o.cls = .type "tuple" ∧ o.data = .seq its n ∧ its.size ≤ sizeLine ∧ Vals xs its.toList
def absV : Value → Option V
  | .none => some .non
  | .bool b => some (.bl b)
  | .int i _ => some (.int i)
  | .str x _ => some (.str x)
  | .bytes b _ => some (.byt b)
  | .float b _ => some (.flt b)
  | .ref a => some (.ref a)
  | .type n => some (.ty n)
  | _ => none
theorem RelV.abs {x : V} {u : Value} (r : RelV x u) : absV u = some x := by
  cases x with
  | non => cases r; rfl
  | bl _ => cases r; rfl
  | int _ => obtain ⟨t, rfl⟩ := r; rfl
  | str _ => obtain ⟨t, rfl⟩ := r; rfl
  | byt _ => obtain ⟨t, rfl⟩ := r; rfl
  | flt _ => obtain ⟨t, rfl⟩ := r; rfl
  | ref _ => cases r; rfl
  | ty _ => cases r; rfl
theorem RelV.inj {x y : V} {u : Value} (r : RelV x u) (q : RelV y u) : x = y := Option.some.inj (r.abs.symm.trans q.abs)
theorem Vals.inj : ∀ {xs ys : List V} {us : List Value}, Vals xs us → Vals ys us → xs = ys
  | _, _, _, .nil, .nil => rfl
  | _, _, _, .cons r t, .cons r' t' => by rw [r.inj r', Vals.inj t t']
section
variable {X : Cx} {pins : List (Addr × Obj)} {σ : St} {H : Hp} {s : Shared} {a : Addr} {xs ys : List V}
theorem SqL.of {K : PySem.W.Frag} (h : H a = some (.lst xs)) : SqL K H a xs := .inl (.inl h)
theorem SqT.of {K : PySem.W.Frag} (h : H a = some (.tup xs)) : SqT K H a xs := .inl (.inl h)
theorem Inv.list (I : Inv X pins σ H s) (h : SqL X.K H a xs) : ∃ its : List Value, Vals xs its ∧ PlainL s.heap a its.toArray ∧ xs.length ≤ sizeLine := by
  rcases h with h | ⟨o, its, n, hk, hc, hd, hs, hz, r⟩
  · obtain ⟨z, its, n, r, e⟩ := h.ok I.hok
    exact ⟨its, r, ⟨_, n, e, rfl, rfl, rfl⟩, z⟩
  · refine ⟨its.toList, r, ⟨o, n, I.kIn a o hk, hc, hd, by simpa using hs⟩, ?_⟩
    have e := r.length
    simp only [Array.length_toList] at e
    omega
theorem Inv.tuple (I : Inv X pins σ H s) (h : SqT X.K H a xs) : ∃ its : List Value, Vals xs its ∧ IsTup s.heap a its.toArray ∧ xs.length ≤ sizeLine := by
  rcases h with h | ⟨o, its, n, hk, hc, hs, hz, r⟩
  · obtain ⟨z, its, r, p⟩ := h.ok I.hok
    exact ⟨its, r, p, z⟩
  · refine ⟨its.toList, r, ⟨o, I.kIn a o hk, hc, n, by simpa using hs⟩, ?_⟩
    have e := r.length
    simp only [Array.length_toList] at e
    omega
theorem Inv.list_inj (I : Inv X pins σ H s) (h : SqL X.K H a xs) (h' : SqL X.K H a ys) : xs = ys := by
  obtain ⟨its, r, ⟨o, n, e, _, _, d⟩, _⟩ := I.list h
  obtain ⟨its', r', ⟨o', n', e', _, _, d'⟩, _⟩ := I.list h'
  rw [e] at e'; cases e'
  rw [d] at d'
  injection d' with d1 _
  have : its = its' := by simpa using congrArg Array.toList d1
  subst this
  exact r.inj r'
theorem Inv.tuple_inj (I : Inv X pins σ H s) (h : SqT X.K H a xs) (h' : SqT X.K H a ys) : xs = ys := by
  obtain ⟨its, r, ⟨o, e, _, n, d⟩, _⟩ := I.tuple h
  obtain ⟨its', r', ⟨o', e', _, n', d'⟩, _⟩ := I.tuple h'
  rw [e] at e'; cases e'
  rw [d] at d'
  injection d' with d1 _
  have : its = its' := by simpa using congrArg Array.toList d1
  subst this
  exact r.inj r'
end
abbrev Cx.wish (X : Cx) (E : Value → Shared → Prop) : Cx := { X with xe := E }
abbrev Cx.nox (X : Cx) : Cx := X.wish fun _ _ => False
theorem Cx.Ok.wish {X : Cx} (ok : X.Ok) (E : Value → Shared → Prop) : (X.wish E).Ok :=
  ⟨ok.mod, ok.kind, ok.glob, ok.blt, ok.above, ok.inj, ok.has, ok.cab, ok.hd, ok.frames, ok.stk, ok.exf, ok.bs, ok.bsz, ok.noex, ok.exfs, ok.funs, ok.frf⟩
theorem Cx.Ok.unwish {X : Cx} {E : Value → Shared → Prop} (ok : (X.wish E).Ok) : X.Ok :=
  ⟨ok.mod, ok.kind, ok.glob, ok.blt, ok.above, ok.inj, ok.has, ok.cab, ok.hd, ok.frames, ok.stk, ok.exf, ok.bs, ok.bsz, ok.noex, ok.exfs, ok.funs, ok.frf⟩
section
variable {X : Cx} {pins : List (Addr × Obj)} {σ : St} {H : Hp} {s : Shared} {E : Value → Shared → Prop}
theorem Inv.wish (I : Inv X pins σ H s) (E : Value → Shared → Prop) : Inv (X.wish E) pins σ H s := ⟨I.ok.wish E, I.os, I.bare, I.base, I.loc, I.cell, I.free, I.freeC, I.pin, I.hok, I.len⟩
theorem Inv.unwish (I : Inv (X.wish E) pins σ H s) : Inv X pins σ H s := ⟨I.ok.unwish, I.os, I.bare, I.base, I.loc, I.cell, I.free, I.freeC, I.pin, I.hok, I.len⟩
theorem SP.unwish {D : Ends} {f : Flow} {s' : Shared} (h : SP (X.wish E) pins D f s') : SP X pins D f s' := by
  cases f with
  | next => obtain ⟨σ', H', I, q⟩ := h; exact ⟨σ', H', I.unwish, q⟩
  | brk => obtain ⟨σ', H', I, q⟩ := h; exact ⟨σ', H', I.unwish, q⟩
  | cont => obtain ⟨σ', H', I, q⟩ := h; exact ⟨σ', H', I.unwish, q⟩
  | ret u => obtain ⟨v, σ', H', I, r, q⟩ := h; exact ⟨v, σ', H', I.unwish, r, q⟩
theorem PE.nox {e : Expr} {t : TE} (h : PE X.nox e t) : PE X e t := fun pins s σ H Q I hw =>
  wpAny_mono (h pins s σ H Q (I.wish _) hw) (fun _ _ ⟨v, H', I', r, q⟩ => ⟨v, H', I'.unwish, r, q⟩) fun _ _ z => False.elim z
theorem PT.nox {e : Expr} {t : TT} (h : PT X.nox e t) : PT X e t := fun pins s σ H Q I hw =>
  wpAny_mono (h pins s σ H Q (I.wish _) hw) (fun _ _ ⟨H', I', q⟩ => ⟨H', I'.unwish, q⟩) fun _ _ z => False.elim z
theorem PSs.nox {st : List Stmt} {t : TS} (h : PSs X.nox st t) : PSs X st t := fun pins s σ H D I hw =>
  wpAny_mono (h pins s σ H D (I.wish _) hw) (fun _ _ q => q.unwish) fun _ _ z => False.elim z
end
section
variable {X : Cx} {st : Stmt} {rest : List Stmt} {t u : TS} {e : Expr} {te : TE} {pos : Pos}
def tNext : TS := fun D σ H => D.nx σ H
def tSeq (t u : TS) : TS := fun D σ H => t { D with nx := u D } σ H
theorem pss_nil : PSs X [] tNext := fun _ _ σ H _ I h => wpAny_execs_nil ⟨σ, H, I, h⟩
theorem pss_cons (h1 : PS X st t) (h2 : PSs X rest u) : PSs X (st :: rest) (tSeq t u) := by
  intro pins s σ H D I h
  refine wpAny_execs_cons (thn (h1 pins s σ H { D with nx := u D } I h) fun f s1 q => ?_)
  cases f with
  | next =>
    obtain ⟨σ', H', I', q⟩ := q
    exact h2 pins s1 σ' H' D I' q
  | ret v => exact q
  | brk => exact q
  | cont => exact q
theorem pss_one (h1 : PS X st t) : PSs X [st] t := by
  intro pins s σ H D I h
  refine wpAny_execs_cons (thn (h1 pins s σ H D I h) fun f s1 q => ?_)
  cases f with
  | next => exact wpAny_execs_nil q
  | ret v => exact q
  | brk => exact q
  | cont => exact q
theorem Inv.quiet {pins : List (Addr × Obj)} {σ : St} {H : Hp} {s : Shared} (I : Inv X pins σ H s) : interactive X.env = false := by simp [interactive, I.ok.kind]
def tDrop (te : TE) : TS := fun D σ H => te σ H fun _ H1 => D.nx σ H1
theorem ps_expr (he : PE X e te) (hs : swapsWith e none pos.line X.env = pure false := by rfl) : PS X (.Expr e pos) (tDrop te) := by
  intro pins s σ H D I h
  exact wpAny_Expr_any (thn (he pins s σ H _ I h) fun v s1 ⟨x, H1, I1, r1, q1⟩ => ⟨σ, H1, I1, q1⟩) I.quiet hs
def tRet (te : TE) : TS := fun D σ H => te σ H D.rt
theorem ps_ret (he : PE X e te) : PS X (.Return (some e) pos) (tRet te) := by
  intro pins s σ H D I h
  exact wpAny_Return_some (thn (he pins s σ H _ I h) fun v s1 ⟨x, H1, I1, r1, q1⟩ => ⟨x, σ, H1, I1, r1, q1⟩)
def tIfS (c : TT) (t u : TS) : TS := fun D σ H => c σ H fun b H1 => if b = true then t D σ H1 else u D σ H1
theorem ps_if {c : Expr} {a b : List Stmt} {tc : TT} (hc : PT X c tc) (ha : PSs X a t) (hb : PSs X b u) : PS X (.If c a b pos) (tIfS tc t u) := by
  intro pins s σ H D I h
  refine wpAny_If (thn (hc pins s σ H _ I h) fun d s1 ⟨H1, I1, q1⟩ => ?_)
  cases d with
  | true => exact ha pins s1 σ H1 D I1 q1
  | false => exact hb pins s1 σ H1 D I1 q1
end
abbrev TG := V → St → Hp → (St → Hp → Prop) → Prop
def PG (X : Cx) (target : Expr) (t : TG) : Prop :=
  ∀ (pins : List (Addr × Obj)) (s : Shared) (σ : St) (H : Hp) (v : V) (u : Value) (Q : St → Hp → Prop), Inv X pins σ H s → RelV v u → t v σ H Q →
    wpAny (model X.prog X.w) X.A (assign target X.env u) (fun _ s' => ∃ σ' H', Inv X pins σ' H' s' ∧ Q σ' H') X.xe s
abbrev TSet := V → V → V → Hp → (Hp → Prop) → Prop
def PSet (X : Cx) (t : TSet) : Prop :=
  ∀ (pins : List (Addr × Obj)) (s : Shared) (σ : St) (H : Hp) (o i v : V) (ov iv u : Value) (Q : Hp → Prop), Inv X pins σ H s → RelV o ov → RelV i iv → RelV v u → t o i v H Q →
    wpAny (model X.prog X.w) X.A (setItem ov iv u) (fun _ s' => ∃ H', Inv X pins σ H' s' ∧ Q H') X.xe s
section
variable {X : Cx} {pos : Pos}
def gName (i : Nat) : TG := fun v σ H Q => Q (σ.set i (some v)) H
theorem pg_name {i : Nat} {x : Str} (hN : X.N.Nodup) (hi : X.N[i]? = some x) (hx : Loc X.env.scope x) (hf : X.fn x = true ∨ X.env.scope.names.lookup x = some .local := by first | exact .inl rfl | exact .inr rfl | assumption) : PG X (.Name x pos) (gName i) := by
  intro pins s σ H v u Q I r h
  exact wpAny_assign_Name (store_ok I hN hi hx r (fun s' I' => ⟨_, H, I', h⟩) hf)
def gSub (to ti : TE) (t : TSet) : TG := fun v σ H Q => to σ H fun o H1 => ti σ H1 fun i H2 => t o i v H2 fun H3 => Q σ H3
theorem pg_sub {o i : Expr} {to ti : TE} {t : TSet} (ho : PE X o to) (hi : PE X i ti) (hs : PSet X t)
    (ha : ∀ v, assign (.Subscript o i pos) X.env v = (do
      let ov ← holding [v] (eval o X.env)
      let iv ← holding [v, ov] (eval i X.env)
      standAt pos
      holding [v, ov, iv] (setItem ov iv v)
      release [v, ov, iv] []) := by intro _; rfl) : PG X (.Subscript o i pos) (gSub to ti t) := by
  intro pins s σ H v u Q I r h
  rw [ha]
  refine wpAny_bind (wpAny_holding (thn (ho pins s σ H _ I h) fun ov s1 ⟨x, H1, I1, r1, q1⟩ => ?_))
  refine wpAny_bind (wpAny_holding (thn (hi pins s1 σ H1 _ I1 q1) fun iv s2 ⟨y, H2, I2, r2, q2⟩ => ?_))
  refine wpAny_bind (wpAny_standAt (wpAny_bind (wpAny_holding (thn (hs pins s2 σ H2 x y v ov iv u _ I2 r1 r2 r q2) fun _ s3 ⟨H3, I3, q3⟩ => ?_))))
  exact wpAny_release ⟨σ, H3, I3, q3⟩
def tAsg (te : TE) (g : TG) : TS := fun D σ H => te σ H fun x H1 => g x σ H1 D.nx
theorem ps_asg {tg e : Expr} {te : TE} {g : TG} (he : PE X e te) (hg : PG X tg g) (hs : swapsWithSole [tg] e pos.line X.env = pure false := by rfl) (hw : swappedStores [tg] e X.env = pure none := by rfl)
    (h1 : (assignEach [tg] X.env).map (·.2) = [assign tg X.env] := by rfl) : PS X (.Assign [tg] e pos) (tAsg te g) := by
  intro pins s σ H D I h
  refine wpAny_Assign_stores (thn (he pins s σ H _ I h) fun v s1 ⟨x, H1, I1, r1, q1⟩ => ?_) hs hw
  rw [h1]
  exact thn (hg pins s1 σ H1 x v _ I1 r1 q1) fun _ s2 q => q
theorem ps_set {i : Nat} {x : Str} {e : Expr} {te : TE} {pos' : Pos} (hN : X.N.Nodup) (hi : X.N[i]? = some x) (hx : Loc X.env.scope x) (he : PE X e te) (hs : swapsWith e (some (.Name x pos')) pos.line X.env = pure false := by rfl) (hf : X.fn x = true ∨ X.env.scope.names.lookup x = some .local := by first | exact .inl rfl | exact .inr rfl | assumption) :
    PS X (.Assign [.Name x pos'] e pos) (tAsg te (gName i)) := by
  intro pins s σ H D I h
  refine wpAny_Assign_Name (thn (he pins s σ H _ I h) fun v s1 ⟨y, H1, I1, r1, q1⟩ => ?_) hs
  exact store_ok I1 hN hi hx r1 (fun s2 I2 => ⟨_, H1, I2, q1⟩) hf
end
section
variable {X : Cx} {pos : Pos}
def tWhile (c : TT) (tb : TS) : TS := fun D σ H => ∃ W : Nat → St → Hp → Prop, (∃ m, W m σ H) ∧ ∀ m σ H, W m σ H →
  c σ H fun b H1 => if b = true then ∃ N : St → Hp → Prop, (∀ σ' H', N σ' H' → ∃ m', m' < m ∧ W m' σ' H') ∧ tb { D with nx := N, ct := N, bk := D.nx } σ H1 else D.nx σ H1
theorem ps_while {c : Expr} {body : List Stmt} {tc : TT} {tb : TS} (hp : PassesOwn (model X.prog X.w) X.A X.env X.xe) (hc : PT X c tc) (hb : PSs X body tb) : PS X (.While c body [] pos) (tWhile tc tb) := by
  intro pins s σ H D I h
  obtain ⟨W, ⟨m0, w0⟩, turn⟩ := h
  refine wpAny_While (codeAny_whileLoop (fun n s' => ∃ σ' H', Inv X pins σ' H' s' ∧ W n σ' H') ?_ m0 ⟨σ, H, I, w0⟩)
  rintro n s1 ⟨σ1, H1, I1, w1⟩
  refine wpAny_passesOwn hp (thn (hc pins s1 σ1 H1 _ I1 (turn n σ1 H1 w1)) fun b s2 ⟨H2, I2, q2⟩ => ?_)
  cases b with
  | true =>
    obtain ⟨N, hN, q2⟩ := q2
    rw [if_pos rfl]
    refine wpAny_passesOwn hp (thn (hb pins s2 σ1 H2 _ I2 q2) fun f s3 q3 => ?_)
    cases f with
    | next =>
      obtain ⟨σ3, H3, I3, n3⟩ := q3
      obtain ⟨m', hm, w3⟩ := hN σ3 H3 n3
      exact ⟨m', hm, σ3, H3, I3, w3⟩
    | cont =>
      obtain ⟨σ3, H3, I3, n3⟩ := q3
      obtain ⟨m', hm, w3⟩ := hN σ3 H3 n3
      exact ⟨m', hm, σ3, H3, I3, w3⟩
    | brk => exact q3
    | ret v => exact q3
  | false =>
    rw [if_neg Bool.false_ne_true]
    exact wpAny_execs_nil ⟨σ1, H2, I2, q2⟩
end
structure It where
  go : Nat → Hp → Prop
  yld : Nat → Hp → V → Hp → Prop
  stop : Nat → Hp → Prop
def FpOk (X : Cx) (pins : List (Addr × Obj)) (H : Hp) (b : Addr) : Prop :=
  H b = none ∧ b ≠ X.env.locals ∧ b ∉ X.fs ∧ (b ∈ X.ex ∨ X.s_0.heap.objs.size ≤ b) ∧ (∀ x c, X.env.cells.lookup x = some c → c ≠ b) ∧ ∀ p ∈ X.pn ++ pins, p.1 ≠ b
theorem Inv.fpOk {X : Cx} {pins : List (Addr × Obj)} {σ : St} {H H' : Hp} {s : Shared} {b : Addr} (I : Inv X pins σ H s) (hb : s.heap.objs.size ≤ b) (hn : H' b = none) : FpOk X pins H' b := by
  refine ⟨hn, Nat.ne_of_gt (Nat.lt_of_lt_of_le I.lt hb), I.nofs hb, .inr (Nat.le_trans I.sz hb), fun x c e z => ?_, fun p hp z => ?_⟩
  · obtain ⟨v, q⟩ := I.cell x c e
    exact absurd (Nat.lt_of_lt_of_le q.lt (by rw [z]; exact hb)) (Nat.lt_irrefl _)
  · exact absurd (Nat.lt_of_lt_of_le (Heap.lt_size (I.pin p hp).1) (by rw [z]; exact hb)) (Nat.lt_irrefl _)
structure Turn (P : Program) (w : World) (K : PySem.W.Frag) (tg : Expr) (J : It) (fp : List Addr) (it : Addr) (tn : Nat → Heap → Prop) : Prop where
  mem : it ∈ fp
  obj : ∀ i h, tn i h → ∀ b ∈ fp, ∃ o, h.get? b = some o ∧ ∀ v, o.data ≠ .cell v
  keep : ∀ i h h', tn i h → (∀ b ∈ fp, ∀ o, h.get? b = some o → h'.get? b = some o) → tn i h'
  item : ∀ (X : Cx), X.prog = P → X.w = w → X.K = K → X.calm = true → ∀ (i : Nat) (pins : List (Addr × Obj)) (s : Shared) (σ : St) (H : Hp) (E : Value → Shared → Prop), Inv X pins σ H s → (∀ b ∈ fp, FpOk X pins H b) → tn i s.heap → J.go i H →
    wpAny (model P w) X.A (pyNext (.ref it)) (fun r s1 => ∃ u, r = some u ∧
      wpAny (model P w) X.A (letOwnedTupleGo tg (.ref it) u) (fun _ s2 => ∃ x H', Inv X pins σ H' s2 ∧ RelV x u ∧ J.yld i H x H' ∧ tn (i + 1) s2.heap ∧ ∀ b ∈ fp, H' b = none) E s1) E s
  done : ∀ (X : Cx), X.prog = P → X.w = w → X.K = K → X.calm = true → ∀ (i : Nat) (pins : List (Addr × Obj)) (s : Shared) (σ : St) (H : Hp) (E : Value → Shared → Prop), Inv X pins σ H s → (∀ b ∈ fp, FpOk X pins H b) → tn i s.heap → J.stop i H →
    wpAny (model P w) X.A (pyNext (.ref it)) (fun r s1 => r = none ∧ Inv X pins σ H s1) E s
  self : ∀ (A : Around) (i : Nat) (s : Shared) (Q : Value → Shared → Prop) (E : Value → Shared → Prop), tn i s.heap → Q (.ref it) s → wpAny (model P w) A (pyIter (.ref it)) Q E s
abbrev TI := St → Hp → (It → Hp → Prop) → Prop
def PIE (X : Cx) (pins : List (Addr × Obj)) (σ : St) (tg : Expr) (R : It → Hp → Prop) (itv : Value) (s2 : Shared) : Prop :=
  ∃ (it : Addr) (fp : List Addr) (tn : Nat → Heap → Prop) (J : It) (H' : Hp), itv = .ref it ∧ Inv X pins σ H' s2 ∧ Turn X.prog X.w X.K tg J fp it tn ∧ tn 0 s2.heap ∧ (∀ b ∈ fp, FpOk X pins H' b) ∧ R J H'
def PI (X : Cx) (tg iter : Expr) (wi : TI) : Prop :=
  ∀ (pins : List (Addr × Obj)) (s : Shared) (σ : St) (H : Hp) (R : It → Hp → Prop), Inv X pins σ H s → wi σ H R →
    wpAny (model X.prog X.w) X.A (eval iter X.env) (fun v s1 => wpAny (model X.prog X.w) X.A (pyIter v) (PIE X pins σ tg R) X.xe s1) X.xe s
theorem go_of {M : Model} {A : Around} {E : Value → Shared → Prop} {s : Shared} {tg : Expr} {it : Addr} {u : Value} {o : Obj} {n : String} {vs : Array Value} {Q : Unit → Shared → Prop} (ho : s.heap.get? it = some o) (hc : o.cls = .type n) (hd : o.data = .fields vs)
    (hn : ["enumerate", "zip", "dict_itemiterator", "dict_reverseitemiterator", "odict_iterator", "itertools.zip_longest", "itertools.pairwise"].contains n = false) (hQ : Q () s) : wpAny M A (letOwnedTupleGo tg (.ref it) u) Q E s := by
  unfold letOwnedTupleGo
  cases tg <;> first
    | exact wpAny_pure hQ
    | (cases u <;> first
        | exact wpAny_pure hQ
        | (refine wpAny_bind (wpAny_load ho ?_)
           rw [hc, hd]
           show wpAny M A (if (["enumerate", "zip", "dict_itemiterator", "dict_reverseitemiterator", "odict_iterator", "itertools.zip_longest", "itertools.pairwise"].contains n && vs[0]? == some (rawInt _)) = true then _ else _) Q E s
           rw [if_neg (by intro h; rw [hn, Bool.false_and] at h; cases h)]
           exact wpAny_pure hQ))
def Itl (K : PySem.W.Frag) (a : Addr) : It :=
  ⟨fun i H => ∃ xs x, SqL K H a xs ∧ xs[i]? = some x, fun i H x H' => H' = H ∧ ∀ xs, SqL K H a xs → xs[i]? = some x, fun i H => ∃ xs, SqL K H a xs ∧ xs.length ≤ i⟩
def Itt (K : PySem.W.Frag) (a : Addr) : It :=
  ⟨fun i H => ∃ xs x, SqT K H a xs ∧ xs[i]? = some x, fun i H x H' => H' = H ∧ ∀ xs, SqT K H a xs → xs[i]? = some x, fun i H => ∃ xs, SqT K H a xs ∧ xs.length ≤ i⟩
def Itr (lo : Int) (n : Nat) : It := ⟨fun i _ => i < n, fun i H x H' => H' = H ∧ x = .int (lo + i), fun i _ => n ≤ i⟩
theorem turn_list {P : Program} {w : World} {K : PySem.W.Frag} {tg : Expr} (a it : Addr) : Turn P w K tg (Itl K a) [it] it (fun i h => h.IsListIter it a i) where
  mem := by simp
  obj := fun i h st b hb => by
    have e : b = it := by simpa using hb
    subst e
    obtain ⟨o, e, c, d⟩ := st
    exact ⟨o, e, fun v z => by rw [d] at z; cases z⟩
  keep := fun i h h' st k => st.at fun o e => k it (by simp) o e
  item := by
    intro X hP hw hK hc i pins s σ H E I hf st hg
    subst hP hw hK
    obtain ⟨xs, x, hq, hx⟩ := hg
    obtain ⟨its, rv, p, hz⟩ := I.list hq
    obtain ⟨u, hu, ru⟩ := rv.get hx
    obtain ⟨f0, f1, f2, f3, f4, f5⟩ := hf it (by simp)
    refine wpAny_pyNext_list_item st p.isList (x := u) (by simpa using hu) fun h' st' sb => ?_
    have I1 : Inv X pins σ H { s with heap := h' } := I.turned (t' := s.toks) (fun b o hb e => (sb.2 b hb).trans e) f0 f1 f3 f4 f5
    obtain ⟨o, e, c, d⟩ := id st'
    exact ⟨u, rfl, go_of (s := { s with heap := h' }) e c d (by decide) ⟨x, H, I1, ru, ⟨rfl, fun ys hy => by rw [I.list_inj hy hq]; exact hx⟩, st', fun b hb => (hf b hb).1⟩⟩
  done := by
    intro X hP hw hK hc i pins s σ H E I hf st hg
    subst hP hw hK
    obtain ⟨xs, hq, hx⟩ := hg
    obtain ⟨its, rv, p, hz⟩ := I.list hq
    obtain ⟨f0, f1, f2, f3, f4, f5⟩ := hf it (by simp)
    have hl := rv.length
    exact wpAny_pyNext_list_end (I.ok.hd hc) st p.isList (by simp; omega) fun h' eb => ⟨rfl, I.turned (t' := s.toks) (fun b o hb e => eb b o hb e) f0 f1 f3 f4 f5⟩
  self := fun _ _ _ _ _ st h => wpAny_pyIter_listiter st h
theorem turn_tuple {P : Program} {w : World} {K : PySem.W.Frag} {tg : Expr} (a it : Addr) : Turn P w K tg (Itt K a) [it] it (fun i h => h.IsTupleIter it a i) where
  mem := by simp
  obj := fun i h st b hb => by
    have e : b = it := by simpa using hb
    subst e
    obtain ⟨o, e, c, d⟩ := st
    exact ⟨o, e, fun v z => by rw [d] at z; cases z⟩
  keep := fun i h h' st k => st.at fun o e => k it (by simp) o e
  item := by
    intro X hP hw hK hc i pins s σ H E I hf st hg
    subst hP hw hK
    obtain ⟨xs, x, hq, hx⟩ := hg
    obtain ⟨its, rv, p, hz⟩ := I.tuple hq
    obtain ⟨u, hu, ru⟩ := rv.get hx
    obtain ⟨f0, f1, f2, f3, f4, f5⟩ := hf it (by simp)
    refine wpAny_pyNext_tuple_item st (show s.heap.IsTuple a its.toArray from p) (x := u) (by simpa using hu) fun h' st' sb => ?_
    have I1 : Inv X pins σ H { s with heap := h' } := I.turned (t' := s.toks) (fun b o hb e => (sb.2 b hb).trans e) f0 f1 f3 f4 f5
    obtain ⟨o, e, c, d⟩ := id st'
    exact ⟨u, rfl, go_of (s := { s with heap := h' }) e c d (by decide) ⟨x, H, I1, ru, ⟨rfl, fun ys hy => by rw [I.tuple_inj hy hq]; exact hx⟩, st', fun b hb => (hf b hb).1⟩⟩
  done := by
    intro X hP hw hK hc i pins s σ H E I hf st hg
    subst hP hw hK
    obtain ⟨xs, hq, hx⟩ := hg
    obtain ⟨its, rv, p, hz⟩ := I.tuple hq
    obtain ⟨f0, f1, f2, f3, f4, f5⟩ := hf it (by simp)
    have hl := rv.length
    exact wpAny_pyNext_tuple_end (I.ok.hd hc) st (show s.heap.IsTuple a its.toArray from p) (by simp; omega) fun h' eb => ⟨rfl, I.turned (t' := s.toks) (fun b o hb e => eb b o hb e) f0 f1 f3 f4 f5⟩
  self := fun _ _ _ _ _ st h => wpAny_pyIter_tupleiter st h
theorem turn_range {P : Program} {w : World} {K : PySem.W.Frag} {tg : Expr} (it : Addr) (lo : Int) (n : Nat) : Turn P w K tg (Itr lo n) [it] it (fun i h => IsRangeIter h it (lo + (i : Nat) * 1) ((n : Int) - (i : Nat)) 1) where
  mem := by simp
  obj := fun i h st b hb => by
    have e : b = it := by simpa using hb
    subst e
    exact ⟨_, st, fun v z => by
      have z' : Data.fields _ = Data.cell v := z
      cases z'⟩
  keep := fun i h h' st k => k it (by simp) _ st
  item := by
    intro X hP hw hK hc i pins s σ H E I hf st hg
    subst hP hw hK
    obtain ⟨f0, f1, f2, f3, f4, f5⟩ := hf it (by simp)
    have W := Walks.range (prog := X.prog) (w := X.w) (I.ok.hd hc) it lo 1 n
    refine W.item i s _ _ hg st fun v h' tk hv st' kk => ?_
    obtain ⟨t, rfl⟩ := hv
    have I1 : Inv X pins σ H { s with heap := h', toks := tk } := I.turned (fun b o hb e => kk b o (by simpa using hb) e) f0 f1 f3 f4 f5
    refine ⟨_, rfl, go_of (s := { s with heap := h', toks := tk }) (n := "range_iterator") st' rfl rfl (by decide) ⟨.int (lo + i), H, I1, ⟨t, ?_⟩, ⟨rfl, rfl⟩, st', fun b hb => (hf b hb).1⟩⟩
    rw [Int.mul_one]
  done := by
    intro X hP hw hK hc i pins s σ H E I hf st hg
    subst hP hw hK
    obtain ⟨f0, f1, f2, f3, f4, f5⟩ := hf it (by simp)
    exact wpAny_pyNext_range_end (I.ok.hd hc) st (by have : n ≤ i := hg; omega) fun h' eb => ⟨rfl, I.turned (t' := s.toks) (fun b o hb e => eb b o hb e) f0 f1 f3 f4 f5⟩
  self := fun _ _ _ _ _ st h => wpAny_pyIter_rangeiter st h
end L2
namespace L2
open PySem PySem.Spec PyProof.Rows
section
variable {X : Cx} {tg : Expr}
def iList (K : PySem.W.Frag) (tl : TE) : TI := fun σ H R => tl σ H fun x H1 => ∃ a, x = .ref a ∧ (∃ xs, SqL K H1 a xs) ∧ R (Itl K a) H1
def iTup (K : PySem.W.Frag) (tl : TE) : TI := fun σ H R => tl σ H fun x H1 => ∃ a, x = .ref a ∧ (∃ xs, SqT K H1 a xs) ∧ R (Itt K a) H1
theorem pi_list {l : Expr} {tl : TE} (hl : PE X l tl) : PI X tg l (iList X.K tl) := by
  intro pins s σ H R I h
  refine thn (hl pins s σ H _ I h) fun v s1 ⟨x, H1, I1, r1, q1⟩ => ?_
  obtain ⟨a, e, ⟨xs, hq⟩, q⟩ := q1
  subst e
  cases r1
  obtain ⟨its, rv, p, hz⟩ := I1.list hq
  refine wpAny_pyIter_list p.isList ?_
  refine ⟨s1.heap.objs.size, [s1.heap.objs.size], _, _, H1, rfl, I1.kept (t' := s1.toks) fun b o e => Heap.get?_push_of_some _ e, turn_list a _, ⟨_, Heap.get?_push_size _ rfl, rfl, rfl⟩, fun b hb => ?_, q⟩
  have e : b = s1.heap.objs.size := by simpa using hb
  subst e
  exact I1.fpOk (Nat.le_refl _) (I1.hok.fresh (Nat.le_refl _))
theorem pi_tup {l : Expr} {tl : TE} (hl : PE X l tl) : PI X tg l (iTup X.K tl) := by
  intro pins s σ H R I h
  refine thn (hl pins s σ H _ I h) fun v s1 ⟨x, H1, I1, r1, q1⟩ => ?_
  obtain ⟨a, e, ⟨xs, hq⟩, q⟩ := q1
  subst e
  cases r1
  obtain ⟨its, rv, p, hz⟩ := I1.tuple hq
  refine wpAny_pyIter_tuple (show s1.heap.IsTuple a its.toArray from p) ?_
  refine ⟨s1.heap.objs.size, [s1.heap.objs.size], _, _, H1, rfl, I1.kept (t' := s1.toks) fun b o e => Heap.get?_push_of_some _ e, turn_tuple a _, ⟨_, Heap.get?_push_size _ rfl, rfl, rfl⟩, fun b hb => ?_, q⟩
  have e : b = s1.heap.objs.size := by simpa using hb
  subst e
  exact I1.fpOk (Nat.le_refl _) (I1.hok.fresh (Nat.le_refl _))
theorem range_it {pins : List (Addr × Obj)} {σ : St} {H : Hp} {s : Shared} {R : It → Hp → Prop} {E : Value → Shared → Prop} {lo hi : Int} {t u v : Tok} {tk : Nat} (I : Inv X pins σ H s) (h1 : -(2 ^ 62) ≤ lo) (h2 : lo < 2 ^ 62) (h3 : -(2 ^ 62) ≤ hi) (h4 : hi < 2 ^ 62)
    (q : R (Itr lo (hi - lo).toNat) H) : wpAny (model X.prog X.w) X.A (pyIter (.ref s.heap.objs.size)) (PIE X pins σ tg R) E { s with heap := s.heap.push { cls := .type "range", data := .fields #[.int lo t, .int hi u, .int 1 v] }, toks := tk } := by
  refine wpAny_pyIter_range (IsRange.new ..) (small_one h1 h2 h3 h4) ?_
  have I1 : Inv X pins σ H { s with heap := s.heap.push { cls := .type "range", data := .fields #[.int lo t, .int hi u, .int 1 v] }, toks := tk } := I.kept fun b o e => Heap.get?_push_of_some _ e
  refine ⟨(s.heap.push { cls := .type "range", data := .fields #[.int lo t, .int hi u, .int 1 v] }).objs.size, [(s.heap.push { cls := .type "range", data := .fields #[.int lo t, .int hi u, .int 1 v] }).objs.size], _, _, H, rfl,
    I1.kept (t' := tk) fun b o e => Heap.get?_push_of_some _ e, turn_range _ lo (hi - lo).toNat, ?_, fun b hb => ?_, q⟩
  · have e1 : lo + ((0 : Nat) : Int) * 1 = lo := by simp
    have e2 : (((hi - lo).toNat : Nat) : Int) - ((0 : Nat) : Int) = Builtin.Range.rangeSize lo hi 1 := by rw [rangeSize_one]; split <;> omega
    show IsRangeIter _ _ (lo + ((0 : Nat) : Int) * 1) ((((hi - lo).toNat : Nat) : Int) - ((0 : Nat) : Int)) 1
    rw [e1, e2]
    exact Heap.get?_push_size _ rfl
  · have e : b = (s.heap.push { cls := .type "range", data := .fields #[.int lo t, .int hi u, .int 1 v] }).objs.size := by simpa using hb
    subst e
    exact I1.fpOk (Nat.le_refl _) (I1.hok.fresh (Nat.le_refl _))
def iRng1 (ta : TA) : TI := fun σ H R => ta σ H fun vs H1 => ∃ j : Int, vs = [.int j] ∧ -(2 ^ 62) ≤ j ∧ j < 2 ^ 62 ∧ R (Itr 0 j.toNat) H1
def iRng2 (ta : TA) : TI := fun σ H R => ta σ H fun vs H1 => ∃ i j : Int, vs = [.int i, .int j] ∧ (-(2 ^ 62) ≤ i ∧ i < 2 ^ 62 ∧ -(2 ^ 62) ≤ j ∧ j < 2 ^ 62) ∧ R (Itr i (j - i).toNat) H1
theorem pi_range1 {a : Expr} {ta : TA} {p pos : Pos} (hg : Gl X "range") (hm : X.mg "range" = none) (ha : PA X [a] ta) (hs : starEach [a] X.env = [(false, eval a X.env)] := by rfl) : PI X tg (.Call (.Name "range" p) [a] [] pos) (iRng1 ta) := by
  intro pins s σ H R I h
  refine Call_ (ld_blt I hg hm boot_range (PyProof.Rows.callWith_type1 (thn (ha pos pins s σ H _ I h) fun us s1 ⟨vs, H1, I1, r1, q1⟩ => ?_) hs rfl))
  obtain ⟨j, e, q1, q2, q⟩ := q1
  subst e
  cases r1 with
  | cons r rr =>
    cases rr
    obtain ⟨t, rfl⟩ := r
    exact call_range_1 (range_it I1 (by omega) (by omega) q1 q2 (by simpa using q))
theorem pi_range2 {a b : Expr} {ta : TA} {p pos : Pos} (hg : Gl X "range") (hm : X.mg "range" = none) (ha : PA X [a, b] ta) (hs : starEach [a, b] X.env = [(false, eval a X.env), (false, eval b X.env)] := by rfl) (hs2 : starEach [b] X.env = [(false, eval b X.env)] := by rfl) :
    PI X tg (.Call (.Name "range" p) [a, b] [] pos) (iRng2 ta) := by
  intro pins s σ H R I h
  refine Call_ (ld_blt I hg hm boot_range (PyProof.Rows.callWith_type1 (thn (ha pos pins s σ H _ I h) fun us s1 ⟨vs, H1, I1, r1, q1⟩ => ?_) (by rw [hs, hs2]) (by rw [hs2]; rfl)))
  obtain ⟨i, j, e, ⟨q1, q2, q3, q4⟩, q⟩ := q1
  subst e
  cases r1 with
  | cons r rr =>
    cases rr with
    | cons r' rr =>
      cases rr
      obtain ⟨t, rfl⟩ := r
      obtain ⟨t', rfl⟩ := r'
      exact call_range_2 (range_it I1 q1 q2 q3 q4 q)
def tFor (wi : TI) (g : TG) (tb : TS) : TS := fun D σ H => wi σ H fun J H1 => ∃ W : Nat → Nat → St → Hp → Prop, (∃ m, W 0 m σ H1) ∧ ∀ i m σ H, W i m σ H →
  (J.stop i H ∧ D.nx σ H) ∨ (J.go i H ∧ ∃ N : St → Hp → Prop, (∀ σ' H', N σ' H' → ∃ m', m' < m ∧ W (i + 1) m' σ' H') ∧ ∀ x H', J.yld i H x H' → g x σ H' fun σ2 H2 => tb { D with nx := N, ct := N, bk := D.nx } σ2 H2)
def pinsAt (fp : List Addr) (h : Heap) : List (Addr × Obj) := fp.filterMap fun b => (h.get? b).map fun o => (b, o)
theorem mem_pinsAt {fp : List Addr} {h : Heap} {b : Addr} {o : Obj} (hb : b ∈ fp) (e : h.get? b = some o) : (b, o) ∈ pinsAt fp h := List.mem_filterMap.mpr ⟨b, hb, by rw [e]; rfl⟩
theorem of_pinsAt {fp : List Addr} {h : Heap} {p : Addr × Obj} (hp : p ∈ pinsAt fp h) : p.1 ∈ fp ∧ h.get? p.1 = some p.2 := by
  obtain ⟨b, hb, e⟩ := List.mem_filterMap.mp hp
  cases q : h.get? b with
  | none => rw [q] at e; cases e
  | some o =>
    rw [q] at e
    have e' : (b, o) = p := Option.some.inj e
    subst e'
    exact ⟨hb, q⟩
theorem Inv.pinned {pins : List (Addr × Obj)} {σ : St} {H : Hp} {s : Shared} {fp : List Addr} (I : Inv X pins σ H s) (hf : ∀ b ∈ fp, FpOk X pins H b) (ho : ∀ b ∈ fp, ∃ o, s.heap.get? b = some o ∧ ∀ v, o.data ≠ .cell v) : Inv X (pins ++ pinsAt fp s.heap) σ H s :=
  I.pins_of fun p hp => (List.mem_append.mp hp).elim (fun z => I.pin p (List.mem_append_right _ z)) fun z => by
    obtain ⟨hb, e⟩ := of_pinsAt z
    obtain ⟨f0, f1, f2, _⟩ := hf p.1 hb
    obtain ⟨o, e', d⟩ := ho p.1 hb
    rw [e] at e'; cases e'
    exact ⟨e, f0, f1, f2, d⟩
theorem Inv.unpinned {pins pl : List (Addr × Obj)} {σ : St} {H : Hp} {s : Shared} (I : Inv X (pins ++ pl) σ H s) : Inv X pins σ H s := I.pins_of fun p hp => I.pin p (List.mem_append_right _ (List.mem_append_left _ hp))
theorem ps_for {iter : Expr} {body : List Stmt} {wi : TI} {g : TG} {tb : TS} {pos : Pos} (hp : PassesOwn (model X.prog X.w) X.A X.env X.xe) (hc : X.calm = true) (hi : PI X tg iter wi) (hg : PG X tg g) (hb : PSs X body tb)
    (hs : ∀ x, foldedSetIterable iter X.env x = pure x := by intro _; rfl) : PS X (.For tg iter body [] pos) (tFor wi g tb) := by
  intro pins s σ H D I h
  refine wpAny_For (thn (hi pins s σ H _ I h) fun v s1 h1 => thn h1 fun itv s2 h2 => ?_) hs
  obtain ⟨it, fp, tn, J, H2, e, I2, T, st2, f2, W, ⟨m0, w0⟩, turn⟩ := h2
  subst e
  -- what stays true of the iterator's objects through the loop
  have stat : ∀ {H' : Hp}, (∀ b ∈ fp, H' b = none) → ∀ b ∈ fp, FpOk X pins H' b := fun hn b hb => ⟨hn b hb, (f2 b hb).2⟩
  refine codeAny_forLoop_any (fun n s' => ∃ i σ' H', Inv X pins σ' H' s' ∧ tn i s'.heap ∧ (∀ b ∈ fp, H' b = none) ∧ W i n σ' H') ?_ m0 ⟨0, σ, H2, I2, st2, fun b hb => (f2 b hb).1, w0⟩
  rintro n s3 ⟨i, σ3, H3, I3, st3, fr3, w3⟩
  rcases turn i n σ3 H3 w3 with ⟨stop, qn⟩ | ⟨go, N, hN, step⟩
  · refine wpAny_passesOwn hp (thn (T.done X rfl rfl rfl hc i pins s3 σ3 H3 X.xe I3 (stat fr3) st3 stop) fun r s4 ⟨hr, I4⟩ => ?_)
    subst hr
    exact wpAny_execs_nil ⟨σ3, H3, I4, qn⟩
  · refine wpAny_passesOwn hp (thn (T.item X rfl rfl rfl hc i pins s3 σ3 H3 X.xe I3 (stat fr3) st3 go) fun r s4 ⟨u, hr, h4⟩ => ?_)
    subst hr
    refine wpAny_passesOwn hp (thn h4 fun _ s5 ⟨x, H5, I5, r5, y5, st5, fr5⟩ => ?_)
    have I5' := I5.pinned (stat fr5) (T.obj _ _ st5)
    refine wpAny_passesOwn hp (thn (hg _ s5 σ3 H5 x u _ I5' r5 (step x H5 y5)) fun _ s6 ⟨σ6, H6, I6, q6⟩ => ?_)
    refine wpAny_passesOwn hp (thn (hb _ s6 σ6 H6 _ I6 q6) fun f s7 q7 => ?_)
    have again : ∀ {σ7 : St} {H7 : Hp}, Inv X (pins ++ pinsAt fp s5.heap) σ7 H7 s7 → N σ7 H7 → ∃ m, m < n ∧ ∃ i σ' H', Inv X pins σ' H' s7 ∧ tn i s7.heap ∧ (∀ b ∈ fp, H' b = none) ∧ W i m σ' H' := fun {σ7 H7} I7 n7 => by
      obtain ⟨m', hm, w7⟩ := hN σ7 H7 n7
      refine ⟨m', hm, i + 1, σ7, H7, I7.unpinned, T.keep _ _ _ st5 fun b hb o e => (I7.pin (b, o) (List.mem_append_right _ (List.mem_append_right _ (mem_pinsAt hb e)))).1, fun b hb => ?_, w7⟩
      obtain ⟨o, e, d⟩ := T.obj _ _ st5 b hb
      exact (I7.pin (b, o) (List.mem_append_right _ (List.mem_append_right _ (mem_pinsAt hb e)))).2.1
    cases f with
    | next => obtain ⟨σ7, H7, I7, n7⟩ := q7; exact again I7 n7
    | cont => obtain ⟨σ7, H7, I7, n7⟩ := q7; exact again I7 n7
    | brk => obtain ⟨σ7, H7, I7, q7⟩ := q7; exact ⟨σ7, H7, I7.unpinned, q7⟩
    | ret v => obtain ⟨x7, σ7, H7, I7, r7, q7⟩ := q7; exact ⟨x7, σ7, H7, I7.unpinned, r7, q7⟩
end
theorem for_list {K : PySem.W.Frag} {a : Addr} {xs : List V} {g : TG} {tb : TS} {D : Ends} {σ : St} {H : Hp} (Pv : Nat → St → Hp → Prop) (h0 : Pv 0 σ H) (hl : ∀ i σ H, i ≤ xs.length → Pv i σ H → SqL K H a xs)
    (hs : ∀ i x σ H, xs[i]? = some x → Pv i σ H → g x σ H fun σ2 H2 => tb { D with nx := Pv (i + 1), ct := Pv (i + 1), bk := D.nx } σ2 H2) (hd : ∀ σ H, Pv xs.length σ H → D.nx σ H) :
    ∃ W : Nat → Nat → St → Hp → Prop, (∃ m, W 0 m σ H) ∧ ∀ i m σ H, W i m σ H →
      ((Itl K a).stop i H ∧ D.nx σ H) ∨ ((Itl K a).go i H ∧ ∃ N : St → Hp → Prop, (∀ σ' H', N σ' H' → ∃ m', m' < m ∧ W (i + 1) m' σ' H') ∧ ∀ x H', (Itl K a).yld i H x H' → g x σ H' fun σ2 H2 => tb { D with nx := N, ct := N, bk := D.nx } σ2 H2) := by
  refine ⟨fun i m σ H => m = xs.length - i ∧ i ≤ xs.length ∧ Pv i σ H, ⟨xs.length, by simp, Nat.zero_le _, h0⟩, ?_⟩
  rintro i m σ H ⟨rfl, hi, p⟩
  have q := hl i σ H hi p
  by_cases hlt : i < xs.length
  · refine .inr ⟨⟨xs, xs[i], q, by simp [hlt]⟩, Pv (i + 1), fun σ' H' p' => ⟨xs.length - (i + 1), by omega, rfl, hlt, p'⟩, fun x H' y => ?_⟩
    obtain ⟨e, y⟩ := y
    subst e
    exact hs i x σ _ (y xs q) p
  · have e : i = xs.length := by omega
    subst e
    exact .inl ⟨⟨xs, q, Nat.le_refl _⟩, hd σ H p⟩
theorem for_tup {K : PySem.W.Frag} {a : Addr} {xs : List V} {g : TG} {tb : TS} {D : Ends} {σ : St} {H : Hp} (Pv : Nat → St → Hp → Prop) (h0 : Pv 0 σ H) (hl : ∀ i σ H, i ≤ xs.length → Pv i σ H → SqT K H a xs)
    (hs : ∀ i x σ H, xs[i]? = some x → Pv i σ H → g x σ H fun σ2 H2 => tb { D with nx := Pv (i + 1), ct := Pv (i + 1), bk := D.nx } σ2 H2) (hd : ∀ σ H, Pv xs.length σ H → D.nx σ H) :
    ∃ W : Nat → Nat → St → Hp → Prop, (∃ m, W 0 m σ H) ∧ ∀ i m σ H, W i m σ H →
      ((Itt K a).stop i H ∧ D.nx σ H) ∨ ((Itt K a).go i H ∧ ∃ N : St → Hp → Prop, (∀ σ' H', N σ' H' → ∃ m', m' < m ∧ W (i + 1) m' σ' H') ∧ ∀ x H', (Itt K a).yld i H x H' → g x σ H' fun σ2 H2 => tb { D with nx := N, ct := N, bk := D.nx } σ2 H2) := by
  refine ⟨fun i m σ H => m = xs.length - i ∧ i ≤ xs.length ∧ Pv i σ H, ⟨xs.length, by simp, Nat.zero_le _, h0⟩, ?_⟩
  rintro i m σ H ⟨rfl, hi, p⟩
  have q := hl i σ H hi p
  by_cases hlt : i < xs.length
  · refine .inr ⟨⟨xs, xs[i], q, by simp [hlt]⟩, Pv (i + 1), fun σ' H' p' => ⟨xs.length - (i + 1), by omega, rfl, hlt, p'⟩, fun x H' y => ?_⟩
    obtain ⟨e, y⟩ := y
    subst e
    exact hs i x σ _ (y xs q) p
  · have e : i = xs.length := by omega
    subst e
    exact .inl ⟨⟨xs, q, Nat.le_refl _⟩, hd σ H p⟩
theorem for_range {lo : Int} {n : Nat} {g : TG} {tb : TS} {D : Ends} {σ : St} {H : Hp} (Pv : Nat → St → Hp → Prop) (h0 : Pv 0 σ H)
    (hs : ∀ i σ H, i < n → Pv i σ H → g (.int (lo + i)) σ H fun σ2 H2 => tb { D with nx := Pv (i + 1), ct := Pv (i + 1), bk := D.nx } σ2 H2) (hd : ∀ σ H, Pv n σ H → D.nx σ H) :
    ∃ W : Nat → Nat → St → Hp → Prop, (∃ m, W 0 m σ H) ∧ ∀ i m σ H, W i m σ H →
      ((Itr lo n).stop i H ∧ D.nx σ H) ∨ ((Itr lo n).go i H ∧ ∃ N : St → Hp → Prop, (∀ σ' H', N σ' H' → ∃ m', m' < m ∧ W (i + 1) m' σ' H') ∧ ∀ x H', (Itr lo n).yld i H x H' → g x σ H' fun σ2 H2 => tb { D with nx := N, ct := N, bk := D.nx } σ2 H2) := by
  refine ⟨fun i m σ H => m = n - i ∧ i ≤ n ∧ Pv i σ H, ⟨n, by simp, Nat.zero_le _, h0⟩, ?_⟩
  rintro i m σ H ⟨rfl, hi, p⟩
  by_cases hlt : i < n
  · refine .inr ⟨hlt, Pv (i + 1), fun σ' H' p' => ⟨n - (i + 1), by omega, rfl, hlt, p'⟩, fun x H' y => ?_⟩
    obtain ⟨e, y⟩ := y
    subst e y
    exact hs i σ _ hlt p
  · have e : i = n := by omega
    subst e
    exact .inl ⟨Nat.le_refl _, hd σ H p⟩
end L2
namespace L2
open PySem PySem.Spec PyProof.Rows
abbrev R2 := V → V → Hp → VK → Prop
def OpR (X : Cx) (f : Value → Value → Sem Value) (r : R2) : Prop :=
  ∀ (pins : List (Addr × Obj)) (s : Shared) (σ : St) (H : Hp) (x y : V) (v u : Value) (Q : VK), Inv X pins σ H s → RelV x v → RelV y u → r x y H Q →
    wpAny (model X.prog X.w) X.A (f v u) (EP X pins σ Q) X.xe s
def CallR (X : Cx) (f : Value) (r : List V → Hp → VK → Prop) : Prop :=
  ∀ (pins : List (Addr × Obj)) (s : Shared) (σ : St) (H : Hp) (xs : List V) (us : List Value) (Q : VK), Inv X pins σ H s → Vals xs us → r xs H Q →
    wpAny (model X.prog X.w) X.A (call f us) (EP X pins σ Q) X.xe s
def tOp (r : R2) (ta tb : TE) : TE := fun σ H Q => ta σ H fun x H1 => tb σ H1 fun y H2 => r x y H2 Q
def rI (C : Int → Int → Prop) (g : Int → Int → V) : R2 := fun x y H Q => ∃ i j, x = .int i ∧ y = .int j ∧ C i j ∧ Q (g i j) H
def rI0 (g : Int → Int → V) : R2 := fun x y H Q => ∃ i j, x = .int i ∧ y = .int j ∧ Q (g i j) H
section
variable {X : Cx} {a b c : Expr} {ta tb tc : TE} {pos : Pos}
theorem binT (ha : PE X a ta) (hb : PE X b tb) {pins : List (Addr × Obj)} {s : Shared} {σ : St} {H : Hp} {R : V → V → Hp → Prop} (I : Inv X pins σ H s)
    (h : ta σ H fun x H1 => tb σ H1 fun y H2 => R x y H2) {Q : Value → Shared → Prop} {f : Value → Value → Sem Value}
    (hf : ∀ v u s2 x y H2, Inv X pins σ H2 s2 → RelV x v → RelV y u → R x y H2 → wpAny (model X.prog X.w) X.A (f v u) Q X.xe s2) :
    wpAny (model X.prog X.w) X.A (eval a X.env) (fun v s₁ => wpAny (model X.prog X.w) X.A (eval b X.env) (fun u s₂ => wpAny (model X.prog X.w) X.A (f v u) Q X.xe s₂) X.xe s₁) X.xe s := by
  refine thn (ha pins s σ H _ I h) fun v s1 ⟨x, H1, I1, r1, q1⟩ => ?_
  refine thn (hb pins s1 σ H1 _ I1 q1) fun u s2 ⟨y, H2, I2, r2, q2⟩ => ?_
  exact hf v u s2 x y H2 I2 r1 r2 q2
theorem pe_op {op : Operator} {r : R2} (ho : OpR X (binaryOp op) r) (ha : PE X a ta) (hb : PE X b tb) : PE X (.BinOp a op b pos) (tOp r ta tb) := by
  intro pins s σ H Q I h
  exact wpAny_BinOp (binT ha hb I h fun v u s2 x y H2 I2 rx ry q => ho pins s2 σ H2 x y v u Q I2 rx ry q)
theorem opI {f : Value → Value → Sem Value} {C : Int → Int → Prop} {g : Int → Int → Int}
    (rule : ∀ (i j : Int) (t u : Tok) (s : Shared) (Q : Value → Shared → Prop) (E : Value → Shared → Prop), C i j → Q (.int (g i j) s.toks) { s with toks := s.toks + 1 } → wpAny (model X.prog X.w) X.A (f (.int i t) (.int j u)) Q E s) :
    OpR X f (rI C fun i j => .int (g i j)) := by
  intro pins s σ H x y v u Q I rx ry h
  obtain ⟨i, j, rfl, rfl, hc, q⟩ := h
  obtain ⟨t, rfl⟩ := rx
  obtain ⟨t', rfl⟩ := ry
  exact rule i j t t' s _ _ hc ⟨.int (g i j), H, I.tok _, ⟨_, rfl⟩, q⟩
theorem opI0 {f : Value → Value → Sem Value} {g : Int → Int → Int}
    (rule : ∀ (i j : Int) (t u : Tok) (s : Shared) (Q : Value → Shared → Prop) (E : Value → Shared → Prop), Q (.int (g i j) s.toks) { s with toks := s.toks + 1 } → wpAny (model X.prog X.w) X.A (f (.int i t) (.int j u)) Q E s) :
    OpR X f (rI0 fun i j => .int (g i j)) := by
  intro pins s σ H x y v u Q I rx ry h
  obtain ⟨i, j, rfl, rfl, q⟩ := h
  obtain ⟨t, rfl⟩ := rx
  obtain ⟨t', rfl⟩ := ry
  exact rule i j t t' s _ _ ⟨.int (g i j), H, I.tok _, ⟨_, rfl⟩, q⟩
theorem opB0 {f : Value → Value → Sem Value} {g : Int → Int → Bool}
    (rule : ∀ (i j : Int) (t u : Tok) (s : Shared) (Q : Value → Shared → Prop) (E : Value → Shared → Prop), Q (.bool (g i j)) s → wpAny (model X.prog X.w) X.A (f (.int i t) (.int j u)) Q E s) :
    OpR X f (rI0 fun i j => .bl (g i j)) := by
  intro pins s σ H x y v u Q I rx ry h
  obtain ⟨i, j, rfl, rfl, q⟩ := h
  obtain ⟨t, rfl⟩ := rx
  obtain ⟨t', rfl⟩ := ry
  exact rule i j t t' s _ _ ⟨.bl (g i j), H, I, rfl, q⟩
theorem op_add : OpR X (binaryOp .Add) (rI0 fun i j => .int (i + j)) := opI0 fun _ _ _ _ _ _ _ q => add_int q
theorem op_sub : OpR X (binaryOp .Sub) (rI0 fun i j => .int (i - j)) := opI0 fun _ _ _ _ _ _ _ q => sub_int q
theorem op_mod : OpR X (binaryOp .Mod) (rI (fun _ j => 0 < j) fun i j => .int (i % j)) := opI fun i j _ _ _ _ _ hc q => by
  have h1 : (0 : Int) < j := hc
  exact mod_int' (by omega) (by rw [Int.fmod_eq_emod_of_nonneg i (by omega)]; exact q)
end
def scal : V → V → Bool
  | .non, .non => true | .non, .int _ => true | .int _, .non => true | .non, .bl _ => true | .bl _, .non => true | .non, .str _ => true | .str _, .non => true
  | .int _, .int _ => true | .bl _, .bl _ => true | .str _, .str _ => true | .byt _, .byt _ => true
  | .int _, .str _ => true | .str _, .int _ => true | .bl _, .str _ => true | .str _, .bl _ => true
  | _, _ => false
def rEq : R2 := fun x y H Q => scal x y = true ∧ Q (.bl (decide (x = y))) H
def rNe : R2 := fun x y H Q => scal x y = true ∧ Q (.bl (!decide (x = y))) H
theorem dec_int {i j : Int} : decide (V.int i = V.int j) = (i == j) := by
  rw [Bool.eq_iff_iff]
  simp
theorem dec_bl {i j : Bool} : decide (V.bl i = V.bl j) = (i == j) := by
  rw [Bool.eq_iff_iff]
  simp
theorem dec_str {i j : Str} : decide (V.str i = V.str j) = (i == j) := by
  rw [Bool.eq_iff_iff]
  simp
theorem dec_byt {i j : Array UInt8} : decide (V.byt i = V.byt j) = (i.toList == j.toList) := by
  rw [Bool.eq_iff_iff]
  cases i
  cases j
  simp
section
variable {X : Cx} {a b c : Expr} {ta tb tc : TE} {pos : Pos}
theorem fin_bl {pins : List (Addr × Obj)} {σ : St} {H : Hp} {s : Shared} {Q : VK} {k k' : Bool} (I : Inv X pins σ H s) (q : Q (.bl k) H) (e : k = k') : EP X pins σ Q (.bool k') s := by
  subst e
  exact ⟨.bl k, H, I, rfl, q⟩
theorem op_eq : OpR X (compareOp .Eq) rEq := by
  intro pins s σ H x y v u Q I rx ry h
  obtain ⟨hs, q⟩ := h
  cases x with
  | non =>
    cases rx
    cases y with
    | non => cases ry; exact PySem.EqNone.eq_none_none (fin_bl I q (by simp))
    | bl j => cases ry; exact PySem.EqNone.eq_none_bool (fin_bl I q (by simp))
    | int j => obtain ⟨t', rfl⟩ := ry; exact PySem.EqNone.eq_none_int (fin_bl I q (by simp))
    | str j => obtain ⟨t', rfl⟩ := ry; exact PySem.EqNone.eq_none_str (fin_bl I q (by simp))
    | _ => exact absurd (show false = true from hs) Bool.false_ne_true
  | bl i =>
    cases rx
    cases y with
    | non => cases ry; exact PySem.EqNone.eq_bool_none (fin_bl I q (by simp))
    | bl j => cases ry; exact eq_bool (fin_bl I q dec_bl)
    | str j => obtain ⟨t', rfl⟩ := ry; exact PySem.EqMixed.eq_bool_str (fin_bl I q (by simp))
    | _ => exact absurd (show false = true from hs) Bool.false_ne_true
  | int i =>
    obtain ⟨t, rfl⟩ := rx
    cases y with
    | non => cases ry; exact PySem.EqNone.eq_int_none (fin_bl I q (by simp))
    | int j => obtain ⟨t', rfl⟩ := ry; exact eq_int (fin_bl I q dec_int)
    | str j => obtain ⟨t', rfl⟩ := ry; exact PySem.EqMixed.eq_int_str (fin_bl I q (by simp))
    | _ => exact absurd (show false = true from hs) Bool.false_ne_true
  | str i =>
    obtain ⟨t, rfl⟩ := rx
    cases y with
    | non => cases ry; exact PySem.EqNone.eq_str_none (fin_bl I q (by simp))
    | bl j => cases ry; exact PySem.EqMixed.eq_str_bool (fin_bl I q (by simp))
    | int j => obtain ⟨t', rfl⟩ := ry; exact PySem.EqMixed.eq_str_int (fin_bl I q (by simp))
    | str j => obtain ⟨t', rfl⟩ := ry; exact eq_str (fin_bl I q dec_str)
    | _ => exact absurd (show false = true from hs) Bool.false_ne_true
  | byt i =>
    obtain ⟨t, rfl⟩ := rx
    cases y with
    | byt j => obtain ⟨t', rfl⟩ := ry; exact PySem.W.eq_bytes (fin_bl I q dec_byt)
    | _ => exact absurd (show false = true from hs) Bool.false_ne_true
  | _ => cases y <;> exact absurd (show false = true from hs) Bool.false_ne_true
theorem op_ne : OpR X (compareOp .NotEq) rNe := by
  intro pins s σ H x y v u Q I rx ry h
  obtain ⟨hs, q⟩ := h
  cases x with
  | non =>
    cases rx
    cases y with
    | non => cases ry; exact PySem.EqNone.ne_none_none (fin_bl I q (by simp))
    | bl j => cases ry; exact PySem.EqNone.ne_none_bool (fin_bl I q (by simp))
    | int j => obtain ⟨t', rfl⟩ := ry; exact PySem.EqNone.ne_none_int (fin_bl I q (by simp))
    | str j => obtain ⟨t', rfl⟩ := ry; exact PySem.EqNone.ne_none_str (fin_bl I q (by simp))
    | _ => exact absurd (show false = true from hs) Bool.false_ne_true
  | bl i =>
    cases rx
    cases y with
    | non => cases ry; exact PySem.EqNone.ne_bool_none (fin_bl I q (by simp))
    | bl j => cases ry; exact ne_bool (fin_bl I q (congrArg not dec_bl))
    | str j => obtain ⟨t', rfl⟩ := ry; exact PySem.EqMixed.ne_bool_str (fin_bl I q (by simp))
    | _ => exact absurd (show false = true from hs) Bool.false_ne_true
  | int i =>
    obtain ⟨t, rfl⟩ := rx
    cases y with
    | non => cases ry; exact PySem.EqNone.ne_int_none (fin_bl I q (by simp))
    | int j => obtain ⟨t', rfl⟩ := ry; exact ne_int (fin_bl I q (congrArg not dec_int))
    | str j => obtain ⟨t', rfl⟩ := ry; exact PySem.EqMixed.ne_int_str (fin_bl I q (by simp))
    | _ => exact absurd (show false = true from hs) Bool.false_ne_true
  | str i =>
    obtain ⟨t, rfl⟩ := rx
    cases y with
    | non => cases ry; exact PySem.EqNone.ne_str_none (fin_bl I q (by simp))
    | bl j => cases ry; exact PySem.EqMixed.ne_str_bool (fin_bl I q (by simp))
    | int j => obtain ⟨t', rfl⟩ := ry; exact PySem.EqMixed.ne_str_int (fin_bl I q (by simp))
    | str j => obtain ⟨t', rfl⟩ := ry; exact ne_str (fin_bl I q (congrArg not dec_str))
    | _ => exact absurd (show false = true from hs) Bool.false_ne_true
  | byt i =>
    obtain ⟨t, rfl⟩ := rx
    cases y with
    | byt j => obtain ⟨t', rfl⟩ := ry; exact PySem.W.ne_bytes (fin_bl I q (congrArg not dec_byt))
    | _ => exact absurd (show false = true from hs) Bool.false_ne_true
  | _ => cases y <;> exact absurd (show false = true from hs) Bool.false_ne_true
theorem op_lt : OpR X (compareOp .Lt) (rI0 fun i j => .bl (decide (i < j))) := opB0 fun _ _ _ _ _ _ _ q => lt_int q
theorem op_gt : OpR X (compareOp .Gt) (rI0 fun i j => .bl (decide (j < i))) := opB0 fun _ _ _ _ _ _ _ q => gt_int q
theorem op_ge : OpR X (compareOp .GtE) (rI0 fun i j => .bl (decide (j ≤ i))) := opB0 fun _ _ _ _ _ _ _ q => ge_int q
theorem nomark (b : Expr) {op : CmpOp} (h : op ≠ .In := by decide) (h2 : op ≠ .NotIn := by decide) : behindInMarks op b = false := by
  have e1 : (op == CmpOp.In) = false := by cases op <;> first | rfl | exact absurd rfl h
  have e2 : (op == CmpOp.NotIn) = false := by cases op <;> first | rfl | exact absurd rfl h2
  cases b <;> simp [behindInMarks, e1, e2]
theorem pe_cmpR {op : CmpOp} {r : R2} (ho : OpR X (compareOp op) r) (ha : PE X a ta) (hb : PE X b tb) (hm : behindInMarks op b = false) : PE X (.Compare a [op] [b] pos) (tOp r ta tb) := by
  intro pins s σ H Q I h
  exact wpAny_Compare1 (binT ha hb I h fun v u s2 x y H2 I2 rx ry q => ho pins s2 σ H2 x y v u Q I2 rx ry q) hm
def tTest (t : TE) : TT := fun σ H Q => t σ H fun x H' => ∃ k, x = .bl k ∧ Q k H'
theorem pt_cmpR {op : CmpOp} {r : R2} (ho : OpR X (compareOp op) r) (ha : PE X a ta) (hb : PE X b tb) (hm : behindInMarks op b = false) : PT X (.Compare a [op] [b] pos) (tTest (tOp r ta tb)) := by
  intro pins s σ H Q I h
  refine wpAny_isTrue_Compare1 (thn (ha pins s σ H _ I h) fun v s1 ⟨x, H1, I1, r1, q1⟩ => thn (hb pins s1 σ H1 _ I1 q1) fun u s2 ⟨y, H2, I2, r2, q2⟩ =>
    thn (ho pins s2 σ H2 x y v u _ I2 r1 r2 q2) fun c s3 ⟨z, H3, I3, r3, k, e, q3⟩ => ?_) hm
  subst e
  cases r3
  exact wpAny_truthy_bool ⟨H3, I3, q3⟩
theorem line63 : (sizeLine : Nat) < 2 ^ 63 := by rw [sizeLine_eq]; decide
theorem vals1 {x : V} {us : List Value} (r : Vals [x] us) : ∃ u, us = [u] ∧ RelV x u := by
  cases r with
  | cons r1 r2 => cases r2; exact ⟨_, rfl, r1⟩
theorem vals2 {x y : V} {us : List Value} (r : Vals [x, y] us) : ∃ u w', us = [u, w'] ∧ RelV x u ∧ RelV y w' := by
  cases r with
  | cons r1 r2 =>
    cases r2 with
    | cons r3 r4 => cases r4; exact ⟨_, _, rfl, r1, r3⟩
theorem call_max2 (hc : X.calm = true) : CallR X (.builtin "max") (fun xs H Q => ∃ i j, xs = [.int i, .int j] ∧ Q (.int (if j > i then j else i)) H) := by
  intro pins s σ H xs us Q I r h
  obtain ⟨i, j, rfl, q⟩ := h
  obtain ⟨u, w', rfl, ⟨t, rfl⟩, ⟨t', rfl⟩⟩ := vals2 r
  refine max_two_ints (I.ok.hd hc) fun h' tk k => ⟨_, H, I.kept k, ?_, q⟩
  by_cases hj : j > i
  · rw [if_pos hj, if_pos hj]; exact ⟨_, rfl⟩
  · rw [if_neg hj, if_neg hj]; exact ⟨_, rfl⟩
end
end L2
namespace L2
open PySem PySem.Spec PyProof.Rows
structure ObjM (h : Heap) (x dx C : Addr) (mA : Str → Option Value) : Prop where
  obj : h.get? x = some (PySem.W.instObj C dx)
  ns : h.Ns1 dx mA
  ne : dx ≠ x
theorem lookIn_ns {h : Heap} {dx : Addr} {mA : Str → Option Value} (n : h.Ns1 dx mA) : ∃ od, h.get? dx = some od ∧ ∀ name, PySem.W.lookIn name od = some (mA name) := by
  obtain ⟨o, es, ep, ho, hd, hk, _, hm⟩ := n
  refine ⟨o, ho, fun name => ?_⟩
  have e := hm name
  unfold nsFind findBy at e
  rw [← Array.find?_toList] at e
  unfold PySem.W.lookIn
  rw [hd]
  dsimp only
  split
  · rename_i y q
    rw [q] at e
    exact congrArg some e
  · rename_i q
    rw [q] at e
    have a : es.toList.any (·.refKey) = false := by
      rw [List.any_eq_false]
      intro y hy
      obtain ⟨z, t, hkey⟩ := hk y (Array.mem_toList_iff.mp hy)
      simp [DictEntry.refKey, hkey]
    have a' : ¬ es.toList.any (·.refKey) = true := by rw [a]; exact Bool.false_ne_true
    rw [if_neg a']
    exact congrArg some e
theorem ObjM.look {h : Heap} {x dx C : Addr} {mA : Str → Option Value} (I : ObjM h x dx C mA) : ∃ od, PySem.W.InstAt h x (PySem.W.instObj C dx) C (some od) ∧ ∀ name, PySem.W.lookIn name od = some (mA name) :=
  let ⟨od, ho, hl⟩ := lookIn_ns I.ns
  ⟨od, ⟨I.obj, rfl, rfl, ho⟩, hl⟩
section
variable {prog : Program} {w : World} {A : Around} {E : Value → Shared → Prop} {s : Shared} {K : PySem.W.Frag} {x dx C f : Addr} {mA : Str → Option Value} {name : Str} {v : Value}
theorem get_map {expr : Bool} {Q : Value → Shared → Prop} (X : K.In s.heap) (I : ObjM s.heap x dx C mA) (hg : PySem.W.plainGet K C name = true) (hh : PySem.W.hasDictIn K C = true)
    (ha : PySem.W.findIn K (.ref C) name = some none) (hv : mA name = some v) (hv' : PySem.W.handedIn v = true) (h : Q v { s with toks := s.toks + 1 }) :
    wpAny (model prog w) A (getAttr (.ref x) name expr) Q E s := by
  obtain ⟨od, J, hl⟩ := I.look
  exact PySem.W.get_value X J (PySem.W.plainGet_of hg).1 (PySem.W.findObj_own hh ha rfl (by rw [hl, hv])) hv' h
theorem get_meth {pl : Sem Bool} {Q : Value × List Value → Shared → Prop} (X : K.In s.heap) (I : ObjM s.heap x dx C mA) (hg : PySem.W.plainGet K C name = true)
    (hf : PySem.W.findIn K (.ref C) name = some (some (.ref f))) (ht : PySem.W.isFn K (.ref f) = true) (hv : mA name = none) (h : Q (.ref f, [.ref x]) s) :
    wpAny (model prog w) A (getMethod (.ref x) name pl) Q E s := by
  obtain ⟨od, J, hl⟩ := I.look
  exact PySem.W.method_fn X J (PySem.W.plainGet_of hg).1 (PySem.W.plainGet_of hg).2 hf (beq_iff_eq.mp ht) (by show (PySem.W.lookIn name od).map (·.isSome) = some false; rw [hl, hv]; rfl) h
theorem set_map {ns : List Str} {Q : Unit → Shared → Prop} (X : K.In s.heap) (I : ObjM s.heap x dx C mA)
    (hs : PySem.W.findIn K (.ref C) "__setattr__" = some (some (.builtin "object.__setattr__"))) (hp : PySem.W.plainOver K C = true) (ht : PySem.W.takerIn K C name = some none) (hh : PySem.W.hasDictIn K C = true)
    (hw : PySem.Within mA ns) (hsz : ns.length ≤ sizeLine)
    (h : ∀ h', ObjM h' x dx C (fun y => if y = name then some v else mA y) → Heap.SameBut dx s.heap h' → Q () { s with heap := h', toks := s.toks + 2 }) :
    wpAny (model prog w) A (setAttr (.ref x) name v) Q E s := by
  obtain ⟨od, J, hl⟩ := I.look
  refine PySem.W.set_plain X J hs (PySem.W.osa_open (s := { s with toks := s.toks + 1 }) (r := none) X J hp ht fun b => ?_)
  obtain ⟨cd, hc, hd'⟩ := PySem.W.any_some hh
  have hx : s.heap.get? x = some ⟨.ref C, some dx, .plain, #[]⟩ := I.obj
  refine wpAny_bind (wpAny_pure (wpAny_bind (wpAny_bind (wpAny_loadPart hx (wpAny_bind (PySem.W.Looks.here (s := { s with toks := s.toks + 1 }) (PySem.W.looks_clsIn X hc) ?_))))))
  rw [hd']
  refine wpAny_pure (a := some dx) (wpAny_bind (wpAny_pure (wpAny_bind ?_)))
  refine wpAny_nsSet1 (s := { s with toks := s.toks + 1 }) I.ns fun h' hn2 hs2 => ?_
  obtain ⟨oD, esD, epD, hoD, hdD, hcD⟩ := hn2.count (PySem.Within.cons name v hw)
  refine wpAny_bind (wpAny_lookBehind hoD (by rw [hdD]; exact pastItsLine_dict (Nat.le_trans hcD (by rw [List.length_cons]; omega))) ?_)
  exact wpAny_pure (h _ ⟨(hs2.2 _ (Ne.symm I.ne)).trans I.obj, hn2, I.ne⟩ hs2)
theorem make_map {R : Result → Shared → Prop} {vs : List Value} {kw : List (Str × Value)} (X : K.In s.heap) (hm : PySem.W.makesIn K C = true)
    (hi : PySem.W.findIn K (.ref C) "__init__" = some (some (.ref f))) (hf : PySem.W.typeIn K (.ref f) = some (.type "function"))
    (h : codeAny (model prog w) (A.under (.builtin "type.__call__" ⟨.ref C :: vs, kw⟩)) (.call (.ref f) ⟨.ref (s.heap.objs.size + 1) :: vs, kw⟩) (PySem.W.InitBack (s.heap.objs.size + 1) R)
      { s with heap := (s.heap.push PySem.W.emptyDict).push (PySem.W.instObj C s.heap.objs.size) }) :
    codeAny (model prog w) A (.call (.ref C) ⟨vs, kw⟩) R s := by
  obtain ⟨hh, g, d, t, os⟩ := s
  exact PySem.W.make_core (PySem.W.makes_of X hm) (PySem.W.looks_findIn X hi) (fun self => PySem.W.bind_fn X self hf) (.inl rfl) h
end
def putF (f : Str) (v : V) : List (Str × V) → List (Str × V)
  | [] => [(f, v)]
  | (g, x) :: r => if g = f then (g, v) :: r else (g, x) :: putF f v r
theorem lookup_putF (f g : Str) (v : V) : ∀ fs : List (Str × V), (putF f v fs).lookup g = if g = f then some v else fs.lookup g
  | [] => by
    show List.lookup g [(f, v)] = _
    by_cases h : g = f
    · have hb : (g == f) = true := beq_iff_eq.mpr h
      simp only [List.lookup, hb, if_pos h]
    · have hb : (g == f) = false := beq_eq_false_iff_ne.mpr h
      simp only [List.lookup, hb, if_neg h]
  | (k, x) :: r => by
    have ih := lookup_putF f g v r
    rw [show putF f v ((k, x) :: r) = (if k = f then (k, v) :: r else (k, x) :: putF f v r) from rfl]
    by_cases hk : k = f
    · rw [if_pos hk]
      by_cases h : g = k
      · have hb : (g == k) = true := beq_iff_eq.mpr h
        simp only [List.lookup, hb, if_pos (h.trans hk)]
      · have hb : (g == k) = false := beq_eq_false_iff_ne.mpr h
        simp only [List.lookup, hb, if_neg (fun e : g = f => h (e.trans hk.symm))]
    · rw [if_neg hk]
      by_cases h : g = k
      · have hb : (g == k) = true := beq_iff_eq.mpr h
        simp only [List.lookup, hb, if_neg (fun e : g = f => hk (h.symm.trans e))]
      · have hb : (g == k) = false := beq_eq_false_iff_ne.mpr h
        simp only [List.lookup, hb]
        exact ih
theorem keys_putF (f : Str) (v : V) : ∀ fs : List (Str × V), f ∈ (putF f v fs).map (·.1) ∧ ∀ g, g ∈ fs.map (·.1) → g ∈ (putF f v fs).map (·.1)
  | [] => ⟨by simp [putF], fun g h => by simp at h⟩
  | (k, x) :: r => by
    obtain ⟨i1, i2⟩ := keys_putF f v r
    rw [show putF f v ((k, x) :: r) = (if k = f then (k, v) :: r else (k, x) :: putF f v r) from rfl]
    by_cases hk : k = f
    · rw [if_pos hk]
      subst hk
      exact ⟨by simp, fun g h => by simpa using h⟩
    · rw [if_neg hk]
      refine ⟨?_, fun g h => ?_⟩
      · rw [List.map_cons]
        exact List.mem_cons_of_mem _ i1
      · rw [List.map_cons] at h ⊢
        rcases List.mem_cons.mp h with e | e
        · exact List.mem_cons.mpr (.inl e)
        · exact List.mem_cons_of_mem _ (i2 g e)
theorem length_putF (f : Str) (v : V) : ∀ fs : List (Str × V), (putF f v fs).length ≤ fs.length + 1
  | [] => by simp [putF]
  | (k, x) :: r => by
    have ih := length_putF f v r
    rw [show putF f v ((k, x) :: r) = (if k = f then (k, v) :: r else (k, x) :: putF f v r) from rfl]
    by_cases hk : k = f
    · rw [if_pos hk, List.length_cons, List.length_cons]; omega
    · rw [if_neg hk, List.length_cons, List.length_cons]; omega
theorem RelO.some_of {v : V} {o : Option Value} (r : RelO (some v) o) : ∃ u, o = some u ∧ RelV v u := by
  cases o with
  | none => exact (show False from r).elim
  | some u => exact ⟨u, rfl, r⟩
theorem RelO.none_of {o : Option Value} (r : RelO none o) : o = none := by
  cases o with
  | none => rfl
  | some u => exact (show False from r).elim
theorem handed_of {v : V} {u : Value} (r : RelV v u) : PySem.W.handedIn u = true := by
  cases v with
  | non => cases (show u = Value.none from r); rfl
  | bl b => cases (show u = Value.bool b from r); rfl
  | int i => obtain ⟨t, e⟩ := (show ∃ t, u = Value.int i t from r); cases e; rfl
  | str x => obtain ⟨t, e⟩ := (show ∃ t, u = Value.str x t from r); cases e; rfl
  | byt b => obtain ⟨t, e⟩ := (show ∃ t, u = Value.bytes b t from r); cases e; rfl
  | flt b => obtain ⟨t, e⟩ := (show ∃ t, u = Value.float b t from r); cases e; rfl
  | ref a => cases (show u = Value.ref a from r); rfl
  | ty n => cases (show u = Value.type n from r); rfl
section
variable {P : Program} {w : World} {H H' : Hp} {h h' : Heap} {a C dx : Addr} {fs fs' : List (Str × V)}
theorem ins_get (hok : HOk P w H h) (e : H a = some (.ins C dx fs)) : ∃ mA, ObjM h a dx C mA ∧ (∀ f, RelO (fs.lookup f) (mA f)) ∧ PySem.Within mA (fs.map (·.1)) ∧ fs.length ≤ 1000 ∧ H dx = some (.own a) := by
  obtain ⟨d, z, ne, ob, mA, n, r, q⟩ := (show ObjOk P w H h a (.ins C dx fs) from hok a _ e)
  exact ⟨mA, ⟨ob, n, ne⟩, r, q, z, d⟩
end
structure Cls (K : PySem.W.Frag) (C : Addr) : Prop where
  pg : PySem.W.plainGet K C Str.empty = true
  hd : PySem.W.hasDictIn K C = true
  po : PySem.W.plainOver K C = true
  sa : PySem.W.findIn K (.ref C) "__setattr__" = some (some (.builtin "object.__setattr__"))
theorem Cls.get {K : PySem.W.Frag} {C : Addr} (c : Cls K C) (f : Str) : PySem.W.plainGet K C f = true := c.pg
def NoAttr (K : PySem.W.Frag) (C : Addr) (f : Str) : Prop := PySem.W.findIn K (.ref C) f = some none
theorem NoAttr.taker {K : PySem.W.Frag} {C : Addr} {f : Str} (n : NoAttr K C f) : PySem.W.takerIn K C f = some none := by
  unfold PySem.W.takerIn
  rw [show PySem.W.findIn K (.ref C) f = some none from n]
  rfl
structure Meth (K : PySem.W.Frag) (C : Addr) (m : Str) (f : Addr) : Prop where
  at_ : PySem.W.findIn K (.ref C) m = some (some (.ref f))
  fn : PySem.W.isFn K (.ref f) = true
  kp : PySem.W.keepIn K (.ref f) = true
section
variable {X : Cx} {pins : List (Addr × Obj)} {σ : St} {H : Hp} {s : Shared} {a C dx : Addr} {fs : List (Str × V)} {f : Str} {v : V} {A : Around} {E : Value → Shared → Prop}
theorem getattr_ok {b : Bool} {Q : Value → Shared → Prop} (I : Inv X pins σ H s) (e : H a = some (.ins C dx fs)) (c : Cls X.K C) (n : NoAttr X.K C f) (l : fs.lookup f = some v)
    (h : ∀ u s', Inv X pins σ H s' → RelV v u → Q u s') : wpAny (model X.prog X.w) A (getAttr (.ref a) f b) Q E s := by
  obtain ⟨mA, O, r, _, _, _⟩ := ins_get I.hok e
  obtain ⟨u, hu, ru⟩ := RelO.some_of (v := v) (o := mA f) (by rw [← l]; exact r f)
  exact get_map I.kIn O (c.get f) c.hd n hu (handed_of ru) (h u _ (I.tok _) ru)
theorem getmeth_ok {m : Str} {g : Addr} {pl : Sem Bool} {Q : Value × List Value → Shared → Prop} (I : Inv X pins σ H s) (e : H a = some (.ins C dx fs)) (c : Cls X.K C) (k : Meth X.K C m g) (l : fs.lookup m = none)
    (h : Q (.ref g, [.ref a]) s) : wpAny (model X.prog X.w) A (getMethod (.ref a) m pl) Q E s := by
  obtain ⟨mA, O, r, _, _, _⟩ := ins_get I.hok e
  have hn : mA m = none := RelO.none_of (by rw [← l]; exact r m)
  exact get_meth I.kIn O (c.get m) k.at_ k.fn hn h
theorem setattr_ok {y : V} {u : Value} {Q : Unit → Shared → Prop} (I : Inv X pins σ H s) (e : H a = some (.ins C dx fs)) (c : Cls X.K C) (n : NoAttr X.K C f) (hl : fs.length < 1000) (ry : RelV y u)
    (h : ∀ s', Inv X pins σ (upd H a (.ins C dx (putF f y fs))) s' → Q () s') : wpAny (model X.prog X.w) A (setAttr (.ref a) f u) Q E s := by
  obtain ⟨mA, O, r, wi, _, ho⟩ := ins_get I.hok e
  have hz : (fs.map (·.1)).length ≤ sizeLine := by rw [List.length_map, sizeLine_eq]; omega
  refine set_map I.kIn O c.sa c.po n.taker c.hd wi hz fun h' O' sb => h _ ?_
  have hd : ∃ o, h'.get? dx = some o := let ⟨o, _, _, e', _⟩ := O'.ns; ⟨o, e'⟩
  refine I.write (x := a) (e := dx) (by rw [e]; exact True.intro) (.inr ho) (fun b q hb z => (sb.2 b hb).trans z) hd ?_
  refine ⟨by rw [upd_ne O.ne]; exact ho, ?_, O.ne, O'.obj, _, O'.ns, fun g => ?_, fun g hg => ?_⟩
  · have := length_putF f y fs; omega
  · show RelO ((putF f y fs).lookup g) (if g = f then some u else mA g)
    rw [lookup_putF]
    by_cases q : g = f
    · rw [if_pos q, if_pos q]; exact ry
    · rw [if_neg q, if_neg q]; exact r g
  · by_cases q : g = f
    · rw [q]; exact (keys_putF f y fs).1
    · refine (keys_putF f y fs).2 g (wi g fun z => hg ?_)
      show (if g = f then some u else mA g) = none
      rw [if_neg q]; exact z
theorem Inv.made (I : Inv X pins σ H s) : Inv X pins σ (upd (upd H s.heap.objs.size (.own (s.heap.objs.size + 1))) (s.heap.objs.size + 1) (.ins C s.heap.objs.size []))
    { s with heap := (s.heap.push PySem.W.emptyDict).push (PySem.W.instObj C s.heap.objs.size) } := by
  have e1 : (s.heap.push PySem.W.emptyDict).get? s.heap.objs.size = some PySem.W.emptyDict := Heap.get?_push_size s.heap rfl
  have e2 : ((s.heap.push PySem.W.emptyDict).push (PySem.W.instObj C s.heap.objs.size)).get? (s.heap.objs.size + 1) = some (PySem.W.instObj C s.heap.objs.size) := by
    have := Heap.get?_push_size (s.heap.push PySem.W.emptyDict) (o := PySem.W.instObj C s.heap.objs.size) rfl
    rwa [Heap.size_push] at this
  have e3 : (s.heap.push PySem.W.emptyDict).Ns s.heap.objs.size (fun _ => none) := ⟨PySem.W.emptyDict, #[], _, e1, rfl, (fun e he => absurd he (by simp)), fun _ => rfl⟩
  have I1 := I.laid (a := s.heap.objs.size) (o := .own (s.heap.objs.size + 1)) (h' := s.heap.push PySem.W.emptyDict) (t' := s.toks) (fun b u q => Heap.get?_push_of_some _ q) (Nat.le_refl _) ⟨_, e1⟩
  refine I1.laid (a := s.heap.objs.size + 1) (o := .ins C s.heap.objs.size []) (t' := s.toks) (fun b u q => Heap.get?_push_of_some _ q) (Nat.le_of_eq (Heap.size_push _ _)) ?_
  have ne : s.heap.objs.size ≠ s.heap.objs.size + 1 := Nat.ne_of_lt (Nat.lt_succ_self _)
  refine ⟨by rw [upd_ne ne, upd_same], Nat.zero_le _, ne, e2, fun _ => none, (Heap.Ns1.of_empty e3).at fun o q => Heap.get?_push_of_some _ q, fun _ => True.intro, fun y hy => absurd rfl hy⟩
theorem attr_of {prog : Program} {w : World} {env : Env} {e : Expr} {f : Str} {pos : Pos} {s : Shared} {Q : Value → Shared → Prop} (hb : attributeBase e f env (eval e env) = eval e env)
    (h : wpAny (model prog w) A (eval e env) (fun o s₁ => wpAny (model prog w) A (getAttr o f true) Q E s₁) E s) : wpAny (model prog w) A (eval (.Attribute e f pos) env) Q E s :=
  Attribute_any_ h (by rw [arm_eval_Attribute, hb])
end
def tFld (K : PySem.W.Frag) (ta : TE) (f : Str) : TE := fun σ H Q => ta σ H fun x H1 => ∃ a C dx fs v, x = .ref a ∧ H1 a = some (.ins C dx fs) ∧ Cls K C ∧ NoAttr K C f ∧ fs.lookup f = some v ∧ Q v H1
def sFld (K : PySem.W.Frag) (ta tv : TE) (f : Str) : TS := fun D σ H => tv σ H fun y H1 => ta σ H1 fun x H2 => ∃ a C dx fs, x = .ref a ∧ H2 a = some (.ins C dx fs) ∧ Cls K C ∧ NoAttr K C f ∧ fs.length < 1000 ∧
  D.nx σ (upd H2 a (.ins C dx (putF f y fs)))
section
variable {X : Cx} {o e value : Expr} {f : Str} {pos pos' tpos : Pos} {ta tv : TE}
theorem pe_fld (he : PE X e ta) (hb : attributeBase e f X.env (eval e X.env) = eval e X.env) : PE X (.Attribute e f pos) (tFld X.K ta f) := by
  intro pins s σ H Q I h
  refine attr_of hb (thn (he pins s σ H _ I h) fun u s1 ⟨x, H1, I1, rx, a, C, dx, fs, v, ex, ea, c, n, l, q⟩ => ?_)
  subst ex
  obtain rfl : u = Value.ref a := rx
  exact getattr_ok I1 ea c n l fun u' s2 I2 ru => ⟨v, H1, I2, ru, q⟩
theorem ps_fld (ha : PE X o ta) (hv : PE X value tv) (hs : swapsWith value (some (.Attribute o f pos')) pos.line X.env = pure false) : PS X (.Assign [.Attribute o f pos'] value pos) (sFld X.K ta tv f) := by
  intro pins s σ H D I h
  refine plainObj_wpAny_Assign_Attribute (thn (hv pins s σ H _ I h) fun u s1 ⟨y, H1, I1, ry, q⟩ => thn (ha pins s1 σ H1 _ I1 q) fun ov s2 ⟨x, H2, I2, rx, a, C, dx, fs, ex, ea, c, n, l, q2⟩ => ?_) hs
  subst ex
  obtain rfl : ov = Value.ref a := rx
  exact setattr_ok I2 ea c n l ry fun s3 I3 => ⟨σ, _, I3, q2⟩
end
section
variable {X : Cx} {pins : List (Addr × Obj)} {σ : St} {H : Hp} {s : Shared} {A : Around} {E : Value → Shared → Prop} {Q : Value → Shared → Prop} {c : Value} {b : Bool}
end
end L2
namespace L2
open PySem PySem.Spec PyProof.Rows
structure Room (k : Nat) (A : Around) : Prop where
  hd : A.handled = none
  dp : A.depth + 3 * k + 5 < recursionLimit
  un : A.units + 16 * k + 200 < cLine
theorem Room.mono {j k : Nat} {A : Around} (r : Room k A) (h : j ≤ k) : Room j A := ⟨r.hd, by have := r.dp; omega, by have := r.un; omega⟩
theorem Room.deeper {k : Nat} {A : Around} (r : Room (k + 1) A) (env : Env) : Room k (A.deeper env) :=
  ⟨r.hd, by have := r.dp; show A.depth + 1 + 3 * k + 5 < _; omega, by have := r.un; show A.units + 3 + 16 * k + 200 < _; omega⟩
theorem Room.in1 {k : Nat} {A : Around} (r : Room (k + 1) A) : Room k A.in1 :=
  ⟨r.hd, by have := r.dp; show A.depth + 3 * k + 5 < _; omega, by have := r.un; show A.units + 1 + 16 * k + 200 < _; omega⟩
theorem make_depth {A : Around} {C : Addr} {us : List Value} {kw : List (Str × Value)} : (A.under (.builtin "type.__call__" ⟨.ref C :: us, kw⟩)).depth = A.depth + 1 := by
  first | rfl | simp [Around.under, Code.weight, Code.isCreation, Code.isGuard, Code.isCaller, Code.frames, Code.isFrame, guardIds]
theorem make_units {A : Around} {C : Addr} {us : List Value} {kw : List (Str × Value)} : (A.under (.builtin "type.__call__" ⟨.ref C :: us, kw⟩)).units = A.units + 1 := by
  first | rfl | simp [Around.under, Code.cUnits, Code.frames, Code.isFrame]
theorem Room.make {k : Nat} {A : Around} (r : Room (k + 1) A) (C : Addr) (us : List Value) (kw : List (Str × Value)) : Room k (A.under (.builtin "type.__call__" ⟨.ref C :: us, kw⟩)) :=
  ⟨r.hd, by have := r.dp; rw [make_depth]; omega, by have := r.un; rw [make_units]; omega⟩
theorem Room.depth {k : Nat} {A : Around} (r : Room k A) : A.depth < recursionLimit := by have := r.dp; omega
theorem Room.units {k : Nat} {A : Around} (r : Room k A) : A.units + 64 < cLine := by have := r.un; omega
def tNil : TA := fun _ H Q => Q [] H
def tCons (ta : TE) (tr : TA) : TA := fun σ H Q => ta σ H fun x H1 => tr σ H1 fun xs H2 => Q (x :: xs) H2
section
variable {X : Cx} {e : Expr} {es : List Expr} {te : TE} {t : TA} {pos : Pos}
theorem pa_nil : PA X [] tNil := fun _ _ _ _ H Q I h => Calls.spliced_nil ⟨[], H, I, .nil, h⟩
theorem pa_cons (ha : PE X e te) (hr : PA X es t) (hs : starEach (e :: es) X.env = (false, eval e X.env) :: starEach es X.env := by rfl) : PA X (e :: es) (tCons te t) := by
  intro pos pins s σ H Q I h
  rw [hs]
  show wpAny _ _ (spliced ((false, eval e X.env) :: backTo pos (starEach es X.env))) _ _ s
  refine Calls.spliced_cons (thn (ha pins s σ H _ I h) fun u s1 ⟨x, H1, I1, r1, q1⟩ => ?_)
  exact thn (hr pos pins s1 σ H1 _ I1 q1) fun us s2 ⟨xs, H2, I2, r2, q2⟩ => ⟨x :: xs, H2, I2, .cons r1 r2, q2⟩
def tTup (t : TA) : TE := fun σ H Q => t σ H fun xs H1 => xs.length ≤ sizeLine ∧ ∀ p, H1 p = none → Q (.ref p) (upd H1 p (.tup xs))
def tLst (t : TA) : TE := fun σ H Q => t σ H fun xs H1 => xs.length ≤ sizeLine ∧ ∀ p, H1 p = none → Q (.ref p) (upd H1 p (.lst xs))
theorem pe_tup {x1} (h : PA X es t) : PE X (.Tuple es x1 pos) (tTup t) := by
  intro pins s σ H Q I hq
  refine wpAny_Tuple_spliced (thn (h pos pins s σ H _ I hq) fun us s1 ⟨xs, H1, I1, r, z, q⟩ => ⟨by rw [← r.length]; exact z, ?_⟩)
  have hf : H1 s1.heap.objs.size = none := I1.hok.fresh (Nat.le_refl _)
  refine ⟨.ref s1.heap.objs.size, upd H1 s1.heap.objs.size (.tup xs), I1.laid (t' := s1.toks) (fun b u e => Heap.get?_push_of_some _ e) (Nat.le_refl _) ?_, rfl, q _ hf⟩
  exact ⟨z, us, r, ⟨_, Heap.get?_push_size _ rfl, rfl, _, rfl⟩⟩
theorem pe_lst (h : PA X es t) : PE X (.List es pos) (tLst t) := by
  intro pins s σ H Q I hq
  refine wpAny_List_spliced (thn (h pos pins s σ H _ I hq) fun us s1 ⟨xs, H1, I1, r, z, q⟩ => ⟨by rw [← r.length]; exact z, ?_⟩)
  have hf : H1 s1.heap.objs.size = none := I1.hok.fresh (Nat.le_refl _)
  refine ⟨.ref s1.heap.objs.size, upd H1 s1.heap.objs.size (.lst xs), I1.laid (t' := s1.toks) (fun b u e => Heap.get?_push_of_some _ e) (Nat.le_refl _) ?_, rfl, q _ hf⟩
  exact ⟨z, us, 0, r, Heap.get?_push_size _ rfl⟩
end
abbrev Sp := List V → Hp → VK → XK → Prop
abbrev CXT := List Env → Hp → Shared → XK → Value → Shared → Prop
structure Env0 (P : Program) (w : World) (K : PySem.W.Frag) (mg : Str → Option Value) (base : Heap) (A : Around) (outer : List Env) (s : Shared) (H : Hp) : Prop where
  frames : A.frames = some outer
  mod : Mod K mg base
  bs : ∀ b o, base.get? b = some o → s.heap.get? b = some o ∧ H b = none
  bsz : base.objs.size ≤ s.heap.objs.size
  funs : s.heap.FunFrames base outer
  frf : ∀ b ∈ frs outer, H b = none
  hok : HOk P w H s.heap
  bare : AllBare s.gens
def CE (outer : List Env) (P : Program) (w : World) (H : Hp) (s : Shared) (Q : VK) (u : Value) (s' : Shared) : Prop :=
  ∃ v H', s'.os = s.os ∧ AllBare s'.gens ∧ Un (frs outer) [] H H' s.heap s'.heap ∧ HOk P w H' s'.heap ∧ RelV v u ∧ Q v H'
def CR (CX : CXT) (outer : List Env) (P : Program) (w : World) (H : Hp) (s : Shared) (Q : VK) (E : XK) (r : Result) (s' : Shared) : Prop :=
  match r with
  | .ok (.ret u) => CE outer P w H s Q u s'
  | .ok _ => False
  | .error e => CX outer H s E e s'
structure FnOk (P : Program) (w : World) (K : PySem.W.Frag) (mg : Str → Option Value) (base : Heap) (CX : CXT) (k : Nat) (f : Addr) (fd : FuncData) (ps : List Str) (sp : Sp) : Prop where
  len : ∀ vs H Q E, sp vs H Q E → vs.length = ps.length
  run : ∀ (A : Around) (outer : List Env) (s : Shared) (H : Hp) (args : Args) (us : List Value) (vs : List V) (Q : VK) (E : XK), Room k A → Env0 P w K mg base A outer s H → BindsTo s fd args (ps.zip us) → Vals vs us → sp vs H Q E →
    codeAny (model P w) A (.call (.ref f) args) (CR CX outer P w H s Q E) s
theorem FnOk.mono {P : Program} {w : World} {K : PySem.W.Frag} {mg : Str → Option Value} {base : Heap} {CX : CXT} {j k : Nat} {f : Addr} {fd : FuncData} {ps : List Str} {sp : Sp} (F : FnOk P w K mg base CX j f fd ps sp) (h : j ≤ k) :
    FnOk P w K mg base CX k f fd ps sp := ⟨F.len, fun A outer s H args us vs Q E hr => F.run A outer s H args us vs Q E (hr.mono h)⟩
theorem FnOk.imp {P : Program} {w : World} {K : PySem.W.Frag} {mg : Str → Option Value} {base : Heap} {CX : CXT} {k : Nat} {f : Addr} {fd : FuncData} {ps : List Str} {sp sp' : Sp} (F : FnOk P w K mg base CX k f fd ps sp)
    (h : ∀ vs H Q E, sp' vs H Q E → sp vs H Q E) : FnOk P w K mg base CX k f fd ps sp' :=
  ⟨fun vs H Q E q => F.len vs H Q E (h _ _ _ _ q), fun A outer s H args us vs Q E hr he hb hv hs => F.run A outer s H args us vs Q E hr he hb hv (h _ _ _ _ hs)⟩
theorem Env0.make {P : Program} {w : World} {K : PySem.W.Frag} {mg : Str → Option Value} {base : Heap} {A : Around} {outer : List Env} {s : Shared} {H : Hp} (e : Env0 P w K mg base A outer s H) (C : Addr) (us : List Value) (kw : List (Str × Value)) :
    Env0 P w K mg base (A.under (.builtin "type.__call__" ⟨.ref C :: us, kw⟩)) outer s H := ⟨by first | exact e.frames | (simpa [Around.under, Code.envs, Code.isFrame, pushEnvs] using e.frames), e.mod, e.bs, e.bsz, e.funs, e.frf, e.hok, e.bare⟩
theorem Env0.in1 {P : Program} {w : World} {K : PySem.W.Frag} {mg : Str → Option Value} {base : Heap} {A : Around} {outer : List Env} {s : Shared} {H : Hp} (e : Env0 P w K mg base A outer s H) :
    Env0 P w K mg base A.in1 outer s H := ⟨e.frames, e.mod, e.bs, e.bsz, e.funs, e.frf, e.hok, e.bare⟩
section
variable {X : Cx} {pins : List (Addr × Obj)} {σ : St} {H : Hp} {s s' : Shared}
theorem Inv.env0 (I : Inv X pins σ H s) : Env0 X.prog X.w X.K X.mg X.base X.A X.stack s H :=
  ⟨I.ok.frames, I.ok.mod, I.bs, Nat.le_trans I.ok.bsz I.sz, I.stack, I.stkFree, I.hok, I.bare⟩
theorem Inv.after {Q : VK} {u : Value} (I : Inv X pins σ H s) (h : CE X.stack X.prog X.w H s Q u s') : EP X pins σ Q u s' := by
  obtain ⟨v, H', os, bare, un, hok, r, q⟩ := h
  obtain ⟨hh, g, d, t, os'⟩ := s'
  obtain rfl : os' = s.os := os
  exact ⟨v, H', I.call (h' := hh) (g' := g) (d' := d) (t' := t) (ch := []) un hok bare (fun b z => absurd z (by simp)), r, q⟩
end
def tCall (sp : Sp) (dvs : List V) (E : XK) (t : TA) : TE := fun σ H Q => t σ H fun vs H1 => sp (vs ++ dvs) H1 Q E
def tMeth (C : Addr) (m : Str) (sp : Sp) (dvs : List V) (E : XK) (ta : TE) (t : TA) : TE := fun σ H Q => ta σ H fun x H1 => ∃ a dx fs, x = .ref a ∧ H1 a = some (.ins C dx fs) ∧ fs.lookup m = none ∧
  t σ H1 fun vs H2 => sp (x :: (vs ++ dvs)) H2 Q E
def tMake (C : Addr) (sp : Sp) (dvs : List V) (E : XK) (t : TA) : TE := fun σ H Q => t σ H fun vs H1 => ∀ x dx, H1 x = none → H1 dx = none → dx ≠ x →
  sp (.ref x :: (vs ++ dvs)) (upd (upd H1 dx (.own x)) x (.ins C dx [])) (fun v H2 => v = .non ∧ Q (.ref x) H2) E
def Binds (K : PySem.W.Frag) (fd : FuncData) (ps : List Str) (ds : List Value) : Prop :=
  ∀ (s : Shared) (us : List Value), K.In s.heap → (us ++ ds).length = ps.length → BindsTo s fd ⟨us, []⟩ (ps.zip (us ++ ds))
theorem Binds.all {K : PySem.W.Frag} {fd : FuncData} {ps : List Str} (h : ∀ us : List Value, us.length = ps.length → bindArgs fd ⟨us, []⟩ = pure (ps.zip us)) : Binds K fd ps [] := fun s us _ hl => by
  rw [List.append_nil] at hl ⊢
  exact .of_eq (h us hl)
def Passes (CX : CXT) (X : Cx) (E : XK) : Prop := ∀ (pins : List (Addr × Obj)) (σ : St) (H : Hp) (s : Shared) (e : Value) (s' : Shared), Inv X pins σ H s → CX X.stack H s E e s' → X.xe e s'
section
variable {X : Cx} {CX : CXT} {k : Nat} {f C : Addr} {fd : FuncData} {ps : List Str} {sp : Sp} {dvs : List V} {ds : List Value} {E : XK} {x m : Str} {p pos apos : Pos} {e o : Expr} {es : List Expr} {ta : TE} {t : TA}
theorem run_fn {pins : List (Addr × Obj)} {σ : St} {H : Hp} {s : Shared} {Q : VK} {us : List Value} {vs : List V} (F : FnOk X.prog X.w X.K X.mg X.base CX k f fd ps sp) (hr : Room k X.A) (hb : Binds X.K fd ps ds) (hd : Vals dvs ds) (hx : Passes CX X E)
    (I : Inv X pins σ H s) (r : Vals vs us) (h : sp (vs ++ dvs) H Q E) : wpAny (model X.prog X.w) X.A (call (.ref f) us) (EP X pins σ Q) X.xe s := by
  have r2 : Vals (vs ++ dvs) (us ++ ds) := r.append hd
  have hl : (us ++ ds).length = ps.length := by rw [← r2.length]; exact F.len _ _ _ _ h
  refine wpAny_call (codeAny_mono (F.run X.A X.stack s H ⟨us, []⟩ (us ++ ds) (vs ++ dvs) Q E hr I.env0 (hb s us I.kIn hl) r2 h) fun r s' hq => ?_)
  cases r with
  | error e => exact hx pins σ H s e s' I hq
  | ok fl =>
    cases fl with
    | ret u => exact I.after hq
    | next => exact False.elim hq
    | brk => exact False.elim hq
    | cont => exact False.elim hq
theorem pe_call (F : FnOk X.prog X.w X.K X.mg X.base CX k f fd ps sp) (hr : Room k X.A) (hg : Gl X x) (hm : X.mg x = some (.ref f)) (hk : PySem.W.keepIn X.K (.ref f) = true) (hb : Binds X.K fd ps ds) (hd : Vals dvs ds) (hx : Passes CX X E)
    (ha : PA X (e :: es) t) (hdb : (x == ("__debug__" : Str)) = false := by decide) (he : starEach (e :: es) X.env = (false, eval e X.env) :: starEach es X.env := by rfl) (hpl : (backTo pos (starEach es X.env)).any (·.1) = false := by rfl) :
    PE X (.Call (.Name x p) (e :: es) [] pos) (tCall sp dvs E t) := by
  intro pins s σ H Q I h
  refine wpAny_Call_Name_kw (ld_glob I hg hm ?_ hdb)
  refine PySem.W.callWith_K (h₀ := X.base) I.ok.mod.kin hk (thn (ha pos pins s σ H _ I h) fun us s1 ⟨vs, H1, I1, r, q⟩ => ⟨I1.kIn, ?_⟩) he hpl
  exact run_fn F hr hb hd hx I1 r q
theorem pe_meth {pl : Sem Bool} (he : PE X o ta) (c : Cls X.K C) (hm : Meth X.K C m f) (F : FnOk X.prog X.w X.K X.mg X.base CX k f fd ps sp) (hr : Room k X.A) (hb : Binds X.K fd ps ds) (hd : Vals dvs ds) (hx : Passes CX X E) (ha : PA X (e :: es) t)
    (hst : starEach (e :: es) X.env = (false, eval e X.env) :: starEach es X.env := by rfl) (hpl : (backTo pos (starEach es X.env)).any (·.1) = false := by rfl)
    (ht : eval (.Call (.Attribute o m apos) (e :: es) [] pos) X.env = (do
      let ov ← eval o X.env
      standAt apos.atName
      let (f, first) ← holding [ov] (getMethod ov m pl)
      callWith pos f first (backTo pos (starEach (e :: es) X.env)) (backToKw pos (keywordEach [] X.env))) := by rfl) :
    PE X (.Call (.Attribute o m apos) (e :: es) [] pos) (tMeth C m sp dvs E ta t) := by
  intro pins s σ H Q I h
  refine PySem.W.methodCall_KW (pl := pl) (thn (he pins s σ H _ I h) fun u s1 ⟨x, H1, I1, rx, a, dx, fs, ex, ea, l, q⟩ => ?_) ht
  subst ex
  obtain rfl : u = Value.ref a := rx
  refine getmeth_ok I1 ea c hm l ?_
  refine PySem.W.callWith_K (first := [.ref a]) (h₀ := X.base) I.ok.mod.kin hm.kp (thn (ha pos pins s1 σ H1 _ I1 q) fun us s2 ⟨vs, H2, I2, r, q2⟩ => ⟨I2.kIn, ?_⟩) hst hpl
  exact run_fn (us := .ref a :: us) (vs := .ref a :: vs) F hr hb hd hx I2 (.cons rfl r) q2
theorem pe_meth0 {pl : Sem Bool} (he : PE X o ta) (c : Cls X.K C) (hm : Meth X.K C m f) (F : FnOk X.prog X.w X.K X.mg X.base CX k f fd ps sp) (hr : Room k X.A) (hb : Binds X.K fd ps ds) (hd : Vals dvs ds) (hx : Passes CX X E)
    (ht : eval (.Call (.Attribute o m apos) [] [] pos) X.env = (do
      let ov ← eval o X.env
      standAt apos.atName
      let (f, first) ← holding [ov] (getMethod ov m pl)
      callWith pos f first (backTo pos (starEach [] X.env)) (backToKw pos (keywordEach [] X.env))) := by rfl) :
    PE X (.Call (.Attribute o m apos) [] [] pos) (tMeth C m sp dvs E ta tNil) := by
  intro pins s σ H Q I h
  refine PySem.W.methodCall_KW (pl := pl) (thn (he pins s σ H _ I h) fun u s1 ⟨x, H1, I1, rx, a, dx, fs, ex, ea, l, q⟩ => ?_) ht
  subst ex
  obtain rfl : u = Value.ref a := rx
  refine getmeth_ok I1 ea c hm l ?_
  exact PySem.W.callWith_K0 (first := [.ref a]) I1.kIn hm.kp (run_fn (us := [.ref a]) (vs := [.ref a]) F hr hb hd hx I1 (.cons rfl .nil) q)
structure Mk (K : PySem.W.Frag) (C f : Addr) : Prop where
  makes : PySem.W.makesIn K C = true
  init : PySem.W.findIn K (.ref C) "__init__" = some (some (.ref f))
  fn : PySem.W.isFn K (.ref f) = true
  kp : PySem.W.keepIn K (.ref C) = true
theorem run_make {pins : List (Addr × Obj)} {σ : St} {H : Hp} {s : Shared} {Q : VK} {us : List Value} {vs : List V} (M : Mk X.K C f) (F : FnOk X.prog X.w X.K X.mg X.base CX k f fd ps sp) (hr : Room (k + 1) X.A) (hb : Binds X.K fd ps ds) (hd : Vals dvs ds)
    (hx : Passes CX X E) (I : Inv X pins σ H s) (r : Vals vs us)
    (h : ∀ x dx, H x = none → H dx = none → dx ≠ x → sp (.ref x :: (vs ++ dvs)) (upd (upd H dx (.own x)) x (.ins C dx [])) (fun v H2 => v = .non ∧ Q (.ref x) H2) E) :
    wpAny (model X.prog X.w) X.A (call (.ref C) us) (EP X pins σ Q) X.xe s := by
  have hq := h (s.heap.objs.size + 1) s.heap.objs.size (I.hok.fresh (Nat.le_succ _)) (I.hok.fresh (Nat.le_refl _)) (Nat.ne_of_lt (Nat.lt_succ_self _))
  have I2 := Inv.made (C := C) I
  have r2 : Vals (V.ref (s.heap.objs.size + 1) :: (vs ++ dvs)) (Value.ref (s.heap.objs.size + 1) :: (us ++ ds)) := .cons rfl (r.append hd)
  have hl : (Value.ref (s.heap.objs.size + 1) :: us ++ ds).length = ps.length := by
    have e := r2.length
    rw [F.len _ _ _ _ hq] at e
    exact e.symm
  refine wpAny_call (make_map (f := f) I.kIn M.makes M.init (beq_iff_eq.mp M.fn) (codeAny_mono (F.run _ X.stack _ _ ⟨Value.ref (s.heap.objs.size + 1) :: us, []⟩ (Value.ref (s.heap.objs.size + 1) :: (us ++ ds)) _ _ E (hr.make C us [])
    (I2.env0.make C us []) (hb _ (Value.ref (s.heap.objs.size + 1) :: us) I2.kIn hl) r2 hq) fun r s' hq' => ?_))
  cases r with
  | error e => exact hx pins σ _ _ e s' I2 hq'
  | ok fl =>
    cases fl with
    | ret u =>
      obtain ⟨v, H', I3, rv, ev, q3⟩ := I2.after hq'
      subst ev
      exact ⟨rv, ⟨V.ref (s.heap.objs.size + 1), H', I3, rfl, q3⟩⟩
    | next => exact False.elim hq'
    | brk => exact False.elim hq'
    | cont => exact False.elim hq'
theorem pe_make0 (M : Mk X.K C f) (F : FnOk X.prog X.w X.K X.mg X.base CX k f fd ps sp) (hr : Room (k + 1) X.A) (hg : Gl X x) (hm : X.mg x = some (.ref C)) (hb : Binds X.K fd ps ds) (hd : Vals dvs ds) (hx : Passes CX X E)
    (hdb : (x == ("__debug__" : Str)) = false := by decide) : PE X (.Call (.Name x p) [] [] pos) (tMake C sp dvs E tNil) := by
  intro pins s σ H Q I h
  refine wpAny_Call_Name_kw (ld_glob I hg hm ?_ hdb)
  exact PySem.W.callWith_K0 I.kIn M.kp (run_make (us := []) M F hr hb hd hx I .nil h)
end
def PK (X : Cx) (kws : List Keyword) (t : TA) : Prop :=
  ∀ (pos : Pos) (pins : List (Addr × Obj)) (s : Shared) (σ : St) (H : Hp) (Q : List V → Hp → Prop), Inv X pins σ H s → t σ H Q → wpAny (model X.prog X.w) X.A (evalAll ((backToKw pos (keywordEach kws X.env)).map (·.2))) (AP X pins σ Q) X.xe s
section
variable {X : Cx} {CX : CXT} {k : Nat} {f C : Addr} {fd : FuncData} {ps ks : List Str} {sp : Sp} {E : XK} {x m : Str} {p pos apos kpos : Pos} {e o : Expr} {es : List Expr} {kws : List Keyword} {te ta : TE} {t tk : TA} {nm : Option Str}
theorem pk_nil : PK X [] tNil := fun _ _ _ _ H Q I h => wpAny_evalAll_nil ⟨[], H, I, .nil, h⟩
theorem pk_cons (ha : PE X e te) (hr : PK X kws t) : PK X (⟨nm, e, kpos⟩ :: kws) (tCons te t) := by
  intro pos pins s σ H Q I h
  show wpAny _ _ (evalAll ((do let v ← eval e X.env; standAt pos; pure v) :: (backToKw pos (keywordEach kws X.env)).map (·.2))) _ _ s
  refine wpAny_evalAll_cons (wpAny_bind (thn (ha pins s σ H _ I h) fun u s1 ⟨x, H1, I1, r1, q1⟩ => wpAny_bind (wpAny_standAt (wpAny_pure ?_))))
  exact thn (hr pos pins s1 σ H1 _ I1 q1) fun us s2 ⟨xs, H2, I2, r2, q2⟩ => ⟨x :: xs, H2, I2, .cons r1 r2, q2⟩
variable {g : List Value → List Value → List Value} {gV : List V → List V → List V}
end
structure FnScope (N P : List Str) (sc : Scope) : Prop where
  kind : sc.kind = .function
  co : sc.isCoroutine = false
  gen : sc.isGenerator = false
  nd : N.Nodup
  pre : N.take P.length = P
  par : ∀ x ∈ P, sc.names.lookup x = some .local ∨ sc.names.lookup x = some .cell
  nofree : ∀ y ∈ sc.names, y.2 ≠ .free
theorem bindL_out {kindOf : Str → Option NameKind} {x : Str} : ∀ {binds : List (Str × Value)} {m : Str → Option Value}, (∀ v, (x, v) ∉ binds) → bindL kindOf binds m x = m x
  | [], _, _ => rfl
  | (n, v) :: r, m, h => by
    unfold bindL
    rw [bindL_out fun w hw => h w (List.mem_cons_of_mem _ hw)]
    split
    · have : x ≠ n := by rintro rfl; exact h v List.mem_cons_self
      simp [this]
    · rfl
theorem bindC_out {kindOf : Str → Option NameKind} {x : Str} : ∀ {binds : List (Str × Value)} {m : Str → Option Value}, (∀ v, (x, v) ∉ binds) → bindC kindOf binds m x = m x
  | [], _, _ => rfl
  | (n, v) :: r, m, h => by
    unfold bindC
    rw [bindC_out fun w hw => h w (List.mem_cons_of_mem _ hw)]
    split
    · rfl
    · have : x ≠ n := by rintro rfl; exact h v List.mem_cons_self
      simp [this]
theorem bindL_get {kindOf : Str → Option NameKind} {x : Str} {v : Value} : ∀ {P : List Str} {vs : List Value} {i : Nat} {m : Str → Option Value}, P.Nodup → P[i]? = some x → vs[i]? = some v → kindOf x = some .local →
    bindL kindOf (P.zip vs) m x = some v
  | [], _, _, _, _, h, _, _ => by simp at h
  | _ :: _, [], _, _, _, _, h, _ => by simp at h
  | p :: P, w :: vs, 0, m, nd, h1, h2, hk => by
    simp at h1 h2; subst h1; subst h2
    show bindL kindOf ((p, w) :: P.zip vs) m p = _
    unfold bindL
    rw [bindL_out fun v hv => (List.nodup_cons.mp nd).1 (List.of_mem_zip hv).1, if_pos hk]
    simp
  | p :: P, w :: vs, i + 1, m, nd, h1, h2, hk => by
    show bindL kindOf ((p, w) :: P.zip vs) m x = _
    unfold bindL
    exact bindL_get (i := i) (List.nodup_cons.mp nd).2 (by simpa using h1) (by simpa using h2) hk
theorem bindC_get {kindOf : Str → Option NameKind} {x : Str} {v : Value} : ∀ {P : List Str} {vs : List Value} {i : Nat} {m : Str → Option Value}, P.Nodup → P[i]? = some x → vs[i]? = some v → kindOf x ≠ some .local →
    bindC kindOf (P.zip vs) m x = some v
  | [], _, _, _, _, h, _, _ => by simp at h
  | _ :: _, [], _, _, _, _, h, _ => by simp at h
  | p :: P, w :: vs, 0, m, nd, h1, h2, hk => by
    simp at h1 h2; subst h1; subst h2
    show bindC kindOf ((p, w) :: P.zip vs) m p = _
    unfold bindC
    rw [bindC_out fun v hv => (List.nodup_cons.mp nd).1 (List.of_mem_zip hv).1, if_neg hk]
    simp
  | p :: P, w :: vs, i + 1, m, nd, h1, h2, hk => by
    show bindC kindOf ((p, w) :: P.zip vs) m x = _
    unfold bindC
    exact bindC_get (i := i) (List.nodup_cons.mp nd).2 (by simpa using h1) (by simpa using h2) hk
def start (N : List Str) (vs : List V) : St := vs.map some ++ List.replicate (N.length - vs.length) none
def cxOf (CX : CXT) (P : Program) (w : World) (K : PySem.W.Frag) (mg : Str → Option Value) (base : Heap) (N : List Str) (qual : Str) (scope : Scope) (f : Addr) (cd : Value) (A : Around) (outer : List Env) (s : Shared) (H : Hp) (E : XK) : Cx where
  prog := P
  w := w
  K := K
  mg := mg
  base := base
  A := A.deeper (envOfC qual scope s.heap.objs.size f cd)
  N := N
  s_0 := s
  H_0 := H
  env := envOfC qual scope s.heap.objs.size f cd
  outer := outer
  stack := envOfC qual scope s.heap.objs.size f cd :: outer
  ex := []
  calm := true
  fn := fun _ => true
  pn := []
  xe := fun e s' => wpAny (model P w) (A.deeper (envOfC qual scope s.heap.objs.size f cd)) (leaving (envOfC qual scope s.heap.objs.size f cd) e) (fun _ s'' => CX outer H s E e s'') (fun e' s'' => CX outer H s E e' s'') s'
theorem cell_has {sc : Scope} {n : Nat} {x : Str} (h : sc.names.lookup x = some .cell) : ∃ c, (cellsFrom n sc.names []).lookup x = some c := by
  have q := PySem.W.cellsFrom_some sc.names n [] (.inl h)
  exact Option.isSome_iff_exists.mp q
theorem inv_start {CX : CXT} {P : Program} {w : World} {K : PySem.W.Frag} {mg : Str → Option Value} {base : Heap} {N ps : List Str} {qual : Str} {scope : Scope} {f : Addr} {cd : Value} {A : Around} {outer : List Env} {s s1 : Shared} {H : Hp} {E : XK} {us : List Value} {vs : List V}
    (S : FnScope N ps scope) (hd : A.handled = none) (e0 : Env0 P w K mg base A outer s H) (hl : vs.length = ps.length) (r : Vals vs us)
    (x : InCallC s s.heap.objs.size (bindL (envOfC qual scope s.heap.objs.size f cd).kindOf (ps.zip us) fun _ => none) (cellsFrom (s.heap.objs.size + 1) scope.names []) (bindC (envOfC qual scope s.heap.objs.size f cd).kindOf (ps.zip us) fun _ => none) s1) :
    Inv (cxOf CX P w K mg base N qual scope f cd A outer s H E) [] (start N vs) H s1 := by
  have hpl : ps.length ≤ N.length := by have := congrArg List.length S.pre; rw [List.length_take] at this; omega
  obtain ⟨h1, tk, rfl, hk⟩ := x.done
  have noA : ∀ b : Addr, b ∉ (cxOf CX P w K mg base N qual scope f cd A outer s H E).ex := fun b z => absurd (show b ∈ ([] : List Addr) from z) (by simp)
  refine ⟨⟨e0.mod, S.kind, rfl, rfl, Nat.le_refl _, fun y z c h1 h2 => ?_, fun y hy => ?_, fun y c _ h => ?_, fun _ => hd, Around.frames_deeper e0.frames, .inr ⟨rfl, rfl⟩, fun b z => absurd z (noA b), e0.bs, e0.bsz, fun b _ _ => noA b, fun b z => absurd z (noA b), e0.funs, e0.frf⟩,
    rfl, e0.bare, Un.kept hk, ⟨_, x.toInCall.ns, fun i y v h1 h2 h3 => ?_⟩, fun y c h => ⟨_, x.cell y c h⟩, e0.hok.fresh (Nat.le_refl _), fun y c h => ?_, fun p hp => absurd (show p ∈ ([] : List (Addr × Obj)) from hp) (by simp), e0.hok.kept hk, ?_⟩
  · exact name_of_addr x.apart (PySem.mem_of_lookup h1) (PySem.mem_of_lookup h2)
  · have hy : scope.names.lookup y = some .cell ∨ scope.names.lookup y = some .free := hy
    rcases hy with hy | hy
    · exact cell_has hy
    · exact absurd rfl (S.nofree _ (PySem.mem_of_lookup hy))
  · exact Nat.le_of_lt (x.above y c (PySem.mem_of_lookup h))
  · have hi : i < vs.length := by
      unfold start at h2
      by_cases hi : i < vs.length
      · exact hi
      · rw [List.getElem?_append_right (by simpa using hi)] at h2
        rw [List.getElem?_replicate] at h2
        split at h2 <;> cases h2
    have ha : vs[i]? = some v := by
      unfold start at h2
      rw [List.getElem?_append_left (by simpa using hi), List.getElem?_map] at h2
      cases e : vs[i]? with
      | none => rw [e] at h2; cases h2
      | some a => rw [e] at h2; cases h2; rfl
    obtain ⟨u, hu, rv⟩ := r.get ha
    have hp : ps[i]? = some y := by
      rw [← S.pre, List.getElem?_take_of_lt (by omega)]; exact h1
    have ndP : ps.Nodup := by rw [← S.pre]; exact S.nd.sublist (List.take_sublist _ _)
    refine ⟨u, rv, ?_⟩
    rcases S.par y (List.mem_of_getElem? hp) with k | k
    · exact .inl ⟨k, bindL_get ndP hp hu k⟩
    · obtain ⟨c, e⟩ := cell_has (n := s.heap.objs.size + 1) k
      refine .inr ⟨.inl k, c, e, ?_⟩
      have q := x.cell y c e
      rw [bindC_get ndP hp hu (by show scope.names.lookup y ≠ _; rw [k]; decide)] at q
      exact q
  · exact e0.hok.fresh (Nat.le_of_lt (x.above y c (PySem.mem_of_lookup h)))
  · unfold start
    show _ = N.length
    rw [List.length_append, List.length_map, List.length_replicate]
    omega
theorem fn_of {CX : CXT} {P : Program} {w : World} {K : PySem.W.Frag} {mg : Str → Option Value} {base : Heap} {k : Nat} {f : Addr} {name qual : Str} {params : Arguments} {body : List Stmt} {scope : Scope} {dV kV doc pm cdv ct oc : Value} {an od : Option Addr}
    {osl : Array (Option Value)} {N ps : List Str} {sp : Sp} (lk : K.lookup f = some ⟨oc, od, .func (PySem.W.fnOf name qual params body scope dV kV doc pm an cdv ct), osl⟩) (hcd : PySem.W.codeIn K cdv qual = true) (S : FnScope N ps scope)
    (len : ∀ vs H Q E, sp vs H Q E → vs.length = ps.length)
    (hbody : ∀ (A : Around) (outer : List Env) (s : Shared) (H : Hp) (vs : List V) (Q : VK) (E : XK), Room k (A.deeper (envOfC qual scope s.heap.objs.size f cdv)) → sp vs H Q E →
      ∃ t, PSs (cxOf CX P w K mg base N qual scope f cdv A outer s H E) body t ∧ t { nx := fun _ H' => Q .non H', rt := Q } (start N vs) H) :
    FnOk P w K mg base CX (k + 1) f (PySem.W.fnOf name qual params body scope dV kV doc pm an cdv ct) ps sp := by
  refine ⟨len, fun A outer s H args us vs Q E hr e0 hb r hsp => ?_⟩
  have hl := len _ _ _ _ hsp
  have KX : K.In s.heap := e0.mod.kin.keeps fun b o e => (e0.bs b o e).1
  have lim : s.heap.NoLimit := e0.mod.nolimit.keeps fun b o e => (e0.bs b o e).1
  have hkind : ∀ y ∈ ps.zip us, scope.names.lookup y.1 = some .local ∨ (scope.names.lookup y.1 = some .cell ∧ ((cellsFrom (s.heap.objs.size + 1) scope.names []).lookup y.1).isSome = true) := fun ⟨n, v⟩ hy => by
    rcases S.par n (List.of_mem_zip hy).1 with q | q
    · exact .inl q
    · exact .inr ⟨q, PySem.W.cellsFrom_some _ _ _ (.inl q)⟩
  refine codeAny_call_function hr.depth (KX _ _ lk) rfl S.co S.gen rfl (PySem.W.codeRec_of KX hcd) (hb _ _ _ _ ?_)
  refine wpAny_newFunctionEnv_cells S.kind hkind fun env he s1 x => ?_
  subst he
  refine ⟨lim.keeps x.toInCall.keep, codeAny_func ?_⟩
  obtain ⟨t, ht, hq⟩ := hbody A outer s H vs Q E (hr.deeper _) hsp
  have I : Inv (cxOf CX P w K mg base N qual scope f cdv A outer s H E) [] (start N vs) H s1 := inv_start S hr.hd e0 hl r x
  refine wpAny_mono (ht [] s1 (start N vs) H _ I hq) (fun fl s' hs => ?_) fun e s' hs => hs
  have fin : ∀ {σ' : St} {H' : Hp} {v : V} {u : Value}, Inv (cxOf CX P w K mg base N qual scope f cdv A outer s H E) [] σ' H' s' → RelV v u → Q v H' → CE outer P w H s Q u s' :=
    fun {σ' H' v u} J rv q => ⟨v, H', J.os, J.bare, J.base, J.hok, rv, q⟩
  cases fl with
  | ret u =>
    obtain ⟨v, σ', H', J, rv, q⟩ := hs
    exact fin J rv q
  | next =>
    obtain ⟨σ', H', J, q⟩ := hs
    exact fin (v := V.non) (u := Value.none) J rfl q
  | brk =>
    obtain ⟨_, _, _, q⟩ := hs
    exact False.elim q
  | cont =>
    obtain ⟨_, _, _, q⟩ := hs
    exact False.elim q
end L2
namespace L2
open PySem PySem.Spec PyProof.Rows
section
variable {X : Cx} {x : Str} {p pos : Pos} {e : Expr} {es : List Expr} {t : TA} {id T : String} {r : List V → Hp → VK → Prop}
def tCB (r : List V → Hp → VK → Prop) (t : TA) : TE := fun σ H Q => t σ H fun vs H1 => r vs H1 Q
theorem pe_callB (hc : CallR X (.builtin id) r) (hg : Gl X x) (hm : X.mg x = none) (hv : bootBuiltins x = some (.builtin id)) (ha : PA X (e :: es) t) (hn : x ≠ "__name__" := by decide) (hdb : (x == ("__debug__" : Str)) = false := by decide)
    (he : starEach (e :: es) X.env = (false, eval e X.env) :: starEach es X.env := by rfl) (hpl : (backTo pos (starEach es X.env)).any (·.1) = false := by rfl) : PE X (.Call (.Name x p) (e :: es) [] pos) (tCB r t) := by
  intro pins s σ H Q I h
  refine wpAny_Call_Name_kw (ld_blt I hg hm hv ?_ hn hdb)
  exact PyProof.Rows.callWith_builtin1 (thn (ha pos pins s σ H _ I h) fun us s1 ⟨vs, H1, I1, r1, q1⟩ => hc pins s1 σ H1 vs us Q I1 r1 q1) he hpl
theorem pe_callTy (hc : CallR X (.type T) r) (hg : Gl X x) (hm : X.mg x = none) (hv : bootBuiltins x = some (.type T)) (ha : PA X (e :: es) t) (hn : x ≠ "__name__" := by decide) (hdb : (x == ("__debug__" : Str)) = false := by decide)
    (he : starEach (e :: es) X.env = (false, eval e X.env) :: starEach es X.env := by rfl) (hpl : (backTo pos (starEach es X.env)).any (·.1) = false := by rfl) : PE X (.Call (.Name x p) (e :: es) [] pos) (tCB r t) := by
  intro pins s σ H Q I h
  refine wpAny_Call_Name_kw (ld_blt I hg hm hv ?_ hn hdb)
  exact PyProof.Rows.callWith_type1 (thn (ha pos pins s σ H _ I h) fun us s1 ⟨vs, H1, I1, r1, q1⟩ => hc pins s1 σ H1 vs us Q I1 r1 q1) he hpl
end
end L2
namespace HT
open PySem PyProof.Rows
section
open PySem.SeqAt
open PySem.AutoSeq1 (wpAny_loadPart')
open PySem.MeetsSeq PySem.MeetsSeq2 PySem.MeetsSeq3
end
section
variable {prog : Program} {w : World} {A : Around} {E : Value → Shared → Prop} {s : Shared}
def sIx (n d : Nat) : Option Int → Nat
  | none => d
  | some v => if v < 0 then (v + (n : Int)).toNat else min v.toNat n
theorem sIx_nat (n d k : Nat) : sIx n d (some (k : Int)) = min k n := by
  show (if (k : Int) < 0 then ((k : Int) + (n : Int)).toNat else min (k : Int).toNat n) = min k n
  rw [if_neg (by omega), Int.toNat_natCast]
end
end HT
namespace L2
open PySem PySem.Spec PyProof.Rows
abbrev TO := St → Hp → (Option Int → Hp → Prop) → Prop
def PO (X : Cx) (e : Option Expr) (t : TO) : Prop :=
  ∀ (pins : List (Addr × Obj)) (s : Shared) (σ : St) (H : Hp) (Q : Option Int → Hp → Prop), Inv X pins σ H s → t σ H Q →
    wpAny (model X.prog X.w) X.A (evalPart e X.env) (fun u s' => ∃ o H', Inv X pins σ H' s' ∧ IsPart u o ∧ Q o H') X.xe s
def tPart (t : TE) : TO := fun σ H Q => t σ H fun x H1 => ∃ i, x = .int i ∧ Q (some i) H1
section
variable {X : Cx} {e : Expr} {te : TE} {lo hi : Option Expr} {tl th : TO} {pos p2 : Pos}
theorem po_some (h : PE X e te) : PO X (some e) (tPart te) := by
  intro pins s σ H Q I hw
  rw [evalPart_some]
  refine thn (h pins s σ H _ I hw) fun u s1 ⟨x, H1, I1, r1, q1⟩ => ?_
  obtain ⟨i, rfl, q⟩ := q1
  obtain ⟨t, rfl⟩ := r1
  exact ⟨some i, H1, I1, .int i t, q⟩
def SlR (X : Cx) (r : V → Option Int → Option Int → Hp → VK → Prop) : Prop :=
  ∀ (pins : List (Addr × Obj)) (s : Shared) (σ : St) (H : Hp) (x : V) (v vl vu : Value) (lo hi : Option Int) (sl : Addr) (Q : VK), Inv X pins σ H s → RelV x v → s.heap.IsSliceOf sl vl vu .none → IsPart vl lo → IsPart vu hi → r x lo hi H Q →
    ∃ T id, typeLookup (.type T) "__getitem__" = pure (some (.builtin id)) ∧ s.TypeIs v T ∧ wpAny (model X.prog X.w) X.A (getItem v (.ref sl)) (EP X pins σ Q) X.xe s
def tSl (r : V → Option Int → Option Int → Hp → VK → Prop) (te : TE) (tl th : TO) : TE := fun σ H Q => te σ H fun x H1 => tl σ H1 fun l H2 => th σ H2 fun u H3 => r x l u H3 Q
theorem pe_slice {r : V → Option Int → Option Int → Hp → VK → Prop} (hr : SlR X r) (he : PE X e te) (hl : PO X lo tl) (hu : PO X hi th) : PE X (.Subscript e (.Slice lo hi none p2) pos) (tSl r te tl th) := by
  intro pins s σ H Q I h
  refine Subscript_ (thn (he pins s σ H _ I h) fun v s1 ⟨x, H1, I1, r1, q1⟩ => ?_)
  refine wpAny_Slice (thn (hl pins s1 σ H1 _ I1 q1) fun vl s2 ⟨l, H2, I2, pl, q2⟩ => thn (hu pins s2 σ H2 _ I2 q2) fun vu s3 ⟨u, H3, I3, pu, q3⟩ => ?_)
  rw [evalPart_none]
  refine wpAny_pure ?_
  have I4 : Inv X pins σ H3 { s3 with heap := s3.heap.push { cls := .type "slice", data := .fields #[vl, vu, .none] } } := I3.kept (t' := s3.toks) fun b ob q => Heap.get?_push_of_some _ q
  obtain ⟨T, id, hT, ht, hg⟩ := hr pins { s3 with heap := s3.heap.push { cls := .type "slice", data := .fields #[vl, vu, .none] } } σ H3 x v vl vu l u s3.heap.objs.size Q I4 r1 (Heap.IsSliceOf.new ..) pl pu q3
  show wpAny (model X.prog X.w) X.A (subscriptTail e (.Slice lo hi none p2) v (.ref s3.heap.objs.size)) (EP X pins σ Q) X.xe { s3 with heap := s3.heap.push { cls := .type "slice", data := .fields #[vl, vu, .none] } }
  exact tail_any (ops := [.ref s3.heap.objs.size, v]) ht hT hg (by with_unfolding_all rfl)
def cutV (xs : List V) (lo hi : Option Int) : List V := (xs.drop (HT.sIx xs.length 0 lo)).take (HT.sIx xs.length xs.length hi - HT.sIx xs.length 0 lo)
theorem cutV_length (xs : List V) (lo hi : Option Int) : (cutV xs lo hi).length ≤ xs.length := by
  unfold cutV
  rw [List.length_take, List.length_drop]
  omega
end
end L2
namespace L2
open PySem PySem.Spec PyProof.Rows
def ixN (n : Nat) (i : Int) : Option Nat := if 0 ≤ i then (if i < n then some i.toNat else none) else if -(n : Int) ≤ i then some (i + n).toNat else none
def atI {α : Type} (xs : List α) (i : Int) : Option α := (ixN xs.length i).bind fun j => xs[j]?
theorem ixN_seq {n : Nat} {i : Int} {j : Nat} (h : ixN n i = some j) : seqIndex? i n = some j ∧ j < n ∧ -(n : Int) ≤ i ∧ i < n := by
  unfold ixN at h
  by_cases h0 : 0 ≤ i
  · rw [if_pos h0] at h
    by_cases h1 : i < n
    · rw [if_pos h1] at h
      have e : i.toNat = j := Option.some.inj h
      exact ⟨by rw [seqIndex_of h0 h1, e], by omega, by omega, h1⟩
    · rw [if_neg h1] at h; cases h
  · rw [if_neg h0] at h
    by_cases h1 : -(n : Int) ≤ i
    · rw [if_pos h1] at h
      have e : (i + n).toNat = j := Option.some.inj h
      exact ⟨by rw [seqIndex_neg (by omega) h1, e], by omega, h1, by omega⟩
    · rw [if_neg h1] at h; cases h
theorem atI_get {α : Type} {xs : List α} {i : Int} {v : α} (h : atI xs i = some v) : ∃ j, seqIndex? i xs.length = some j ∧ xs[j]? = some v ∧ j < xs.length ∧ -(xs.length : Int) ≤ i ∧ i < xs.length := by
  unfold atI at h
  cases e : ixN xs.length i with
  | none => rw [e] at h; cases h
  | some j =>
    rw [e] at h
    obtain ⟨h1, h2, h3, h4⟩ := ixN_seq e
    exact ⟨j, h1, h, h2, h3, h4⟩
theorem atI_nat {α : Type} {xs : List α} {j : Nat} {v : α} (h : xs[j]? = some v) : atI xs (j : Int) = some v := by
  have hj : j < xs.length := (List.getElem?_eq_some_iff.mp h).1
  have e : ixN xs.length (j : Int) = some j := by
    unfold ixN
    rw [if_pos (by omega), if_pos (by omega)]; simp
  unfold atI; rw [e]; exact h
def PlainIx (b : Expr) : Prop := ∀ o i, subscripted b false o i = operate [o, i] (getItem o i)
def IxR (X : Cx) (r : R2) : Prop :=
  ∀ (value slice : Expr) (pins : List (Addr × Obj)) (s : Shared) (σ : St) (H : Hp) (x y : V) (v u : Value) (Q : VK), Inv X pins σ H s → RelV x v → RelV y u → r x y H Q →
    subscripted slice false v u = operate [v, u] (getItem v u) → wpAny (model X.prog X.w) X.A (subscriptTail value slice v u) (EP X pins σ Q) X.xe s
def MtR (X : Cx) (id : String) (r : V → List V → Hp → VK → Prop) : Prop :=
  ∀ (pins : List (Addr × Obj)) (s : Shared) (σ : St) (H : Hp) (x : V) (xs : List V) (v : Value) (us : List Value) (Q : VK), Inv X pins σ H s → RelV x v → Vals xs us → r x xs H Q →
    wpAny (model X.prog X.w) X.A (call (.builtin id) (v :: us)) (EP X pins σ Q) X.xe s
section
variable {X : Cx} {a b : Expr} {ta tb : TE} {pos : Pos}
theorem pe_ix {r : R2} (hr : IxR X r) (ha : PE X a ta) (hb : PE X b tb) (hs : PlainIx b) : PE X (.Subscript a b pos) (tOp r ta tb) := by
  intro pins s σ H Q I h
  exact Subscript_ (binT ha hb I h fun v u s2 x y H2 I2 rx ry q => hr a b pins s2 σ H2 x y v u Q I2 rx ry q (hs _ _))
def rIxL (K : PySem.W.Frag) : R2 := fun x y H Q => ∃ p xs i v, x = .ref p ∧ y = .int i ∧ SqL K H p xs ∧ atI xs i = some v ∧ Q v H
def rIxT (K : PySem.W.Frag) : R2 := fun x y H Q => ∃ p xs i v, x = .ref p ∧ y = .int i ∧ SqT K H p xs ∧ atI xs i = some v ∧ Q v H
theorem ix_list : IxR X (rIxL X.K) := by
  intro value slice pins s σ H x y v u Q I rx ry h hs
  obtain ⟨p, xs, i, z, rfl, rfl, hq, he, q⟩ := h
  cases rx
  obtain ⟨t, rfl⟩ := ry
  obtain ⟨its, r, pl, hz⟩ := I.list hq
  obtain ⟨j, h1, h2, h3, h4, h5⟩ := atI_get he
  obtain ⟨w, ew, rw'⟩ := r.get h2
  have hl := r.length
  have hn := line63
  have fin : EP X pins σ Q w s := ⟨z, H, I, rw', q⟩
  by_cases h0 : 0 ≤ i
  · have hj : i.toNat = j := by
      rw [seqIndex_of h0 h5] at h1
      exact Option.some.inj h1
    exact item_listR pl.isList h0 (by omega) (by rw [hj]; simpa using ew) fin hs
  · have hj : (i + (its.toArray.size : Int)).toNat = j := by
      rw [seqIndex_neg (by omega) h4] at h1
      rw [List.size_toArray, ← hl]
      exact Option.some.inj h1
    exact subscriptTail_builtinR (x := w) pl.isList.typeIs slot_list_getitem.lookup
      (wpAny_getItem_list_neg (Q := fun r s' => r = w ∧ EP X pins σ Q r s') pl.isList (by omega) (by rw [List.size_toArray] <;> omega) (by omega) (by rw [hj]; simpa using ew) ⟨rfl, fin⟩) hs
theorem ix_tup : IxR X (rIxT X.K) := by
  intro value slice pins s σ H x y v u Q I rx ry h hs
  obtain ⟨p, xs, i, z, rfl, rfl, hq, he, q⟩ := h
  cases rx
  obtain ⟨t, rfl⟩ := ry
  obtain ⟨its, r, pl, hz⟩ := I.tuple hq
  obtain ⟨j, h1, h2, h3, h4, h5⟩ := atI_get he
  obtain ⟨w, ew, rw'⟩ := r.get h2
  have hl := r.length
  have hn := line63
  have fin : EP X pins σ Q w s := ⟨z, H, I, rw', q⟩
  exact subscriptTail_builtinR (x := w) pl.typeIs slot_tuple_getitem.lookup
    (getItem_tuple (j := j) (Q := fun r s' => r = w ∧ EP X pins σ Q r s') pl (by omega) (by omega) (by rw [List.size_toArray, ← hl]; exact h1) (by simpa using ew) ⟨rfl, fin⟩) hs
theorem mapSeq_set (its : List Value) (n j : Nat) (u : Value) : Obj.mapSeq (·.setIfInBounds j u) { cls := .type "list", data := .seq its.toArray n } = { cls := .type "list", data := .seq (its.set j u).toArray n } := by
  simp [Obj.mapSeq]
theorem Inv.lst {pins : List (Addr × Obj)} {σ : St} {H : Hp} {s : Shared} {p : Addr} {xs : List V} (I : Inv X pins σ H s) (h : H p = some (.lst xs)) :
    ∃ (its : List Value) (n : Nat), Vals xs its ∧ s.heap.get? p = some { cls := .type "list", data := .seq its.toArray n } ∧ xs.length ≤ sizeLine := by
  obtain ⟨z, its, n, r, e⟩ := I.hok p _ h
  exact ⟨its, n, r, e, z⟩
theorem Inv.lstUpd {pins : List (Addr × Obj)} {σ : St} {H : Hp} {s : Shared} {p : Addr} {xs ys : List V} {its its' : List Value} {n n' : Nat} {f : Obj → Obj} (I : Inv X pins σ H s) (h : H p = some (.lst xs))
    (ho : s.heap.get? p = some { cls := .type "list", data := .seq its.toArray n }) (hf : f { cls := .type "list", data := .seq its.toArray n } = { cls := .type "list", data := .seq its'.toArray n' }) (r : Vals ys its') (hz : ys.length ≤ sizeLine) (t : Nat) :
    Inv X pins σ (upd H p (.lst ys)) { s with heap := s.heap.update p f, toks := t } := by
  have e : (s.heap.update p f).get? p = some { cls := .type "list", data := .seq its'.toArray n' } := by
    rw [Heap.get?_update_self f ho (by rw [hf] <;> rfl), hf]
  refine I.write (x := p) (e := p) (by rw [h]; trivial) (.inl rfl) (fun b u hb q => (Heap.get?_update_other _ _ (Ne.symm hb)).trans q) ⟨_, e⟩ ?_
  exact ⟨hz, its', n', r, e⟩
def rSetL : V → V → V → Hp → (Hp → Prop) → Prop := fun o i v H Q => ∃ p xs k j, o = .ref p ∧ i = .int k ∧ H p = some (.lst xs) ∧ ixN xs.length k = some j ∧ Q (upd H p (.lst (xs.set j v)))
theorem set_list : PSet X rSetL := by
  intro pins s σ H o i v ov iv u Q I ro ri rv h
  obtain ⟨p, xs, k, j, rfl, rfl, hp, hj, q⟩ := h
  cases ro
  obtain ⟨t, rfl⟩ := ri
  obtain ⟨its, n, r, ho, hz⟩ := I.lst hp
  obtain ⟨h1, h2, h3, h4⟩ := ixN_seq hj
  have hl := r.length
  have hn := line63
  have I' : Inv X pins σ (upd H p (.lst (xs.set j v))) { s with heap := s.heap.update p (Obj.mapSeq (·.setIfInBounds j u)) } :=
    I.lstUpd hp ho (mapSeq_set its n j u) (r.set rv j) (by rw [List.length_set]; exact hz) s.toks
  by_cases h0 : 0 ≤ k
  · have hk : k.toNat = j := by
      rw [seqIndex_of h0 h4] at h1
      exact Option.some.inj h1
    exact PySem.W.ki_setAt ho h0 (by omega) (by rw [List.size_toArray, ← hl]; exact h4) (by rw [hk]; exact ⟨_, I', q⟩)
  · have hk : (k + (its.toArray.size : Int)).toNat = j := by
      rw [seqIndex_neg (by omega) h3] at h1
      rw [List.size_toArray, ← hl]
      exact Option.some.inj h1
    exact PySem.W.ki_setBack ho (by omega) (by rw [List.size_toArray, ← hl]; exact h3) (by omega) (by rw [hk]; exact ⟨_, I', q⟩)
theorem slice_bounds (lo hi : Option Int) (n : Nat) : (sliceBounds lo hi none n).1 = ((HT.sIx n 0 lo : Nat) : Int) ∧ (sliceBounds lo hi none n).2.1 = ((HT.sIx n n hi : Nat) : Int) ∧ (sliceBounds lo hi none n).2.2 = 1 := by
  refine ⟨?_, ?_, rfl⟩
  · cases lo with
    | none => simp [sliceBounds, HT.sIx]
    | some i =>
      simp only [sliceBounds, HT.sIx, Option.getD_none, show (1 : Int) > 0 by decide, if_true]
      by_cases h : i < 0
      · simp only [h, if_true] <;> omega
      · simp only [h, if_false] <;> omega
  · cases hi with
    | none => simp [sliceBounds, HT.sIx]
    | some i =>
      simp only [sliceBounds, HT.sIx, Option.getD_none, show (1 : Int) > 0 by decide, if_true]
      by_cases h : i < 0
      · simp only [h, if_true] <;> omega
      · simp only [h, if_false] <;> omega
theorem slicePick_cut (its : List Value) (lo hi : Option Int) : slicePick its.toArray lo hi none = ((its.drop (HT.sIx its.length 0 lo)).take (HT.sIx its.length its.length hi - HT.sIx its.length 0 lo)).toArray := by
  obtain ⟨h1, h2, h3⟩ := slice_bounds lo hi its.toArray.size
  unfold slicePick
  rw [h1, h2, h3]
  simp only [sliceRange_one, pick_run, List.size_toArray] <;> rfl
def rSlL (K : PySem.W.Frag) : V → Option Int → Option Int → Hp → VK → Prop := fun x lo hi H Q => ∃ a xs, x = .ref a ∧ SqL K H a xs ∧ ∀ p, H p = none → Q (.ref p) (upd H p (.lst (cutV xs lo hi)))
theorem sl_list : SlR X (rSlL X.K) := by
  intro pins s σ H x v vl vu lo hi sl Q I rx hs pl pu h
  obtain ⟨a, xs, rfl, hx, q⟩ := h
  cases rx
  obtain ⟨its, r, ht, hz⟩ := I.list hx
  have hlen := r.length
  refine ⟨"list", _, slot_list_getitem.lookup, ht.isList.typeIs, ?_⟩
  refine wpAny_getItem_list_slice ht.isList hs pl pu .none (by simp) ?_ (by rw [List.size_toArray] <;> omega)
  rw [slicePick_cut, ← hlen]
  refine ⟨.ref s.heap.objs.size, _, I.laid (t' := s.toks) (o := .lst (cutV xs lo hi)) (fun b ob q => Heap.get?_push_of_some _ q) (Nat.le_refl _) ?_, rfl, q _ (I.hok.fresh (Nat.le_refl _))⟩
  exact ⟨Nat.le_trans (cutV_length xs lo hi) hz, _, 0, (r.drop (HT.sIx xs.length 0 lo)).take (HT.sIx xs.length xs.length hi - HT.sIx xs.length 0 lo), Heap.get?_push_size _ rfl⟩
def flatV : V → Bool
  | .non => true
  | .bl _ => true
  | .int _ => true
  | .str _ => true
  | _ => false
def eqV : V → V → Bool
  | .non, .non => true
  | .bl a, .bl b => a == b
  | .bl a, .int b => (if a then 1 else 0) == b
  | .int a, .bl b => a == (if b then 1 else 0)
  | .int a, .int b => a == b
  | .str a, .str b => a == b
  | _, _ => false
theorem eqAt_V {A : Around} {s : Shared} {y x : V} {u v : Value} (ry : RelV y u) (rx : RelV x v) (fy : flatV y = true) (fx : flatV x = true) : SeqAt.EqAt A s u v (eqV y x) := by
  cases y with
  | non =>
    cases ry
    cases x with
    | non => cases rx; exact SeqAt.EqAt.same _
    | bl b => cases rx; exact SeqAt.EqAt.none_bool b
    | int b => obtain ⟨t, rfl⟩ := rx; exact SeqAt.EqAt.none_int b t
    | str b => obtain ⟨t, rfl⟩ := rx; exact SeqAt.EqAt.none_str b t
    | _ => exact absurd (show false = true from fx) Bool.false_ne_true
  | bl a =>
    cases ry
    cases x with
    | non => cases rx; exact SeqAt.EqAt.bool_none a
    | bl b => cases rx; exact SeqAt.EqAt.bool_bool a b
    | int b => obtain ⟨t, rfl⟩ := rx; exact SeqAt.EqAt.bool_int a b t
    | str b => obtain ⟨t, rfl⟩ := rx; exact SeqAt.EqAt.bool_str a b t
    | _ => exact absurd (show false = true from fx) Bool.false_ne_true
  | int a =>
    obtain ⟨t', rfl⟩ := ry
    cases x with
    | non => cases rx; exact SeqAt.EqAt.int_none a t'
    | bl b => cases rx; exact SeqAt.EqAt.int_bool a t' b
    | int b => obtain ⟨t, rfl⟩ := rx; exact SeqAt.EqAt.int_int a t' b t
    | str b => obtain ⟨t, rfl⟩ := rx; exact SeqAt.EqAt.int_str a t' b t
    | _ => exact absurd (show false = true from fx) Bool.false_ne_true
  | str a =>
    obtain ⟨t', rfl⟩ := ry
    cases x with
    | non => cases rx; exact SeqAt.EqAt.str_none a t'
    | bl b => cases rx; exact SeqAt.EqAt.str_bool a t' b
    | int b => obtain ⟨t, rfl⟩ := rx; exact SeqAt.EqAt.str_int a t' b t
    | str b => obtain ⟨t, rfl⟩ := rx; exact SeqAt.EqAt.str_str a t' b t
    | _ => exact absurd (show false = true from fx) Bool.false_ne_true
  | _ => exact absurd (show false = true from fy) Bool.false_ne_true
def eqU (x : V) (u : Value) : Bool := match u with
  | .none => eqV .non x
  | .bool b => eqV (.bl b) x
  | .int i _ => eqV (.int i) x
  | .str z _ => eqV (.str z) x
  | _ => false
theorem eqU_of {x y : V} {u : Value} (r : RelV y u) (f : flatV y = true) : eqU x u = eqV y x := by
  cases y with
  | non => cases r; rfl
  | bl b => cases r; rfl
  | int i => obtain ⟨t, rfl⟩ := r; rfl
  | str z => obtain ⟨t, rfl⟩ := r; rfl
  | _ => exact absurd (show false = true from f) Bool.false_ne_true
theorem any_eqU {x : V} : ∀ {xs : List V} {us : List Value}, Vals xs us → xs.all flatV = true → us.any (eqU x) = xs.any fun y => eqV y x
  | _, _, .nil, _ => rfl
  | y :: xs, u :: us, .cons r t, f => by
    rw [List.all_cons, Bool.and_eq_true] at f
    rw [List.any_cons, List.any_cons, eqU_of r f.1, any_eqU t f.2]
theorem mem_eqAt {A : Around} {s : Shared} {x : V} {v : Value} (rx : RelV x v) (fx : flatV x = true) : ∀ {xs : List V} {us : List Value}, Vals xs us → xs.all flatV = true → ∀ u ∈ us, SeqAt.EqAt A s u v (eqU x u)
  | _, _, .nil, _ => fun u hu => by cases hu
  | y :: xs, u :: us, .cons r t, f => fun u' hu => by
    rw [List.all_cons, Bool.and_eq_true] at f
    rcases List.mem_cons.mp hu with rfl | hu
    · rw [eqU_of r f.1]; exact eqAt_V r rx f.1 fx
    · exact mem_eqAt rx fx t f.2 u' hu
def inV (x : V) (xs : List V) : Bool := xs.any fun y => eqV y x
def rIn (K : PySem.W.Frag) (neg : Bool) : R2 := fun x y H Q => ∃ p xs, y = .ref p ∧ (SqL K H p xs ∨ SqT K H p xs) ∧ flatV x = true ∧ xs.all flatV = true ∧ Q (.bl (if neg then !inV x xs else inV x xs)) H
theorem op_in_seq : OpR X (compareOp .In) (rIn X.K false) := by
  intro pins s σ H x y v u Q I rx ry h
  obtain ⟨p, xs, rfl, hq, fx, fs, q⟩ := h
  cases ry
  rcases hq with hq | hq
  · obtain ⟨its, r, pl, hz⟩ := I.list hq
    refine SeqAt.in_listAt (eqU x) pl.isList (fun w hw => mem_eqAt rx fx r fs w (by simpa using hw)) ⟨.bl _, H, I, rfl, ?_⟩
    rw [show its.toArray.any (eqU x) = its.any (eqU x) by simp, any_eqU r fs]
    exact q
  · obtain ⟨its, r, pl, hz⟩ := I.tuple hq
    refine SeqAt.in_tupleAt (eqU x) pl (fun w hw => mem_eqAt rx fx r fs w (by simpa using hw)) ⟨.bl _, H, I, rfl, ?_⟩
    rw [show its.toArray.any (eqU x) = its.any (eqU x) by simp, any_eqU r fs]
    exact q
theorem op_notIn_seq : OpR X (compareOp .NotIn) (rIn X.K true) := by
  intro pins s σ H x y v u Q I rx ry h
  obtain ⟨p, xs, rfl, hq, fx, fs, q⟩ := h
  cases ry
  rcases hq with hq | hq
  · obtain ⟨its, r, pl, hz⟩ := I.list hq
    refine SeqAt.notIn_listAt (eqU x) pl.isList (fun w hw => mem_eqAt rx fx r fs w (by simpa using hw)) ⟨.bl _, H, I, rfl, ?_⟩
    rw [show its.toArray.any (eqU x) = its.any (eqU x) by simp, any_eqU r fs]
    exact q
  · obtain ⟨its, r, pl, hz⟩ := I.tuple hq
    refine SeqAt.notIn_tupleAt (eqU x) pl (fun w hw => mem_eqAt rx fx r fs w (by simpa using hw)) ⟨.bl _, H, I, rfl, ?_⟩
    rw [show its.toArray.any (eqU x) = its.any (eqU x) by simp, any_eqU r fs]
    exact q
theorem call_len_seq : CallR X (.builtin "len") (fun xs H Q => ∃ p ys, xs = [.ref p] ∧ (SqL X.K H p ys ∨ SqT X.K H p ys) ∧ Q (.int ys.length) H) := by
  intro pins s σ H xs us Q I r h
  obtain ⟨p, ys, rfl, hq, q⟩ := h
  obtain ⟨u, rfl, rx⟩ := vals1 r
  cases rx
  have hn := line63
  rcases hq with hq | hq
  · obtain ⟨its, r', pl, hz⟩ := I.list hq
    have hlen := r'.length
    exact Calls.call_len_list pl.isList (by simp only [List.size_toArray] <;> omega) ⟨.int ys.length, H, I.tok _, ⟨s.toks + 1, by rw [List.size_toArray, hlen]⟩, q⟩
  · obtain ⟨its, r', pl, hz⟩ := I.tuple hq
    have hlen := r'.length
    exact len_tuple pl (by simp only [List.size_toArray] <;> omega) ⟨.int ys.length, H, I.tok _, ⟨s.toks + 1, by rw [List.size_toArray, hlen]⟩, q⟩
theorem call_list_of : CallR X (.type "list") (fun xs H Q => ∃ p ys, xs = [.ref p] ∧ (SqL X.K H p ys ∨ SqT X.K H p ys) ∧ ∀ l, H l = none → Q (.ref l) (upd H l (.lst ys))) := by
  intro pins s σ H xs us Q I r h
  obtain ⟨p, ys, rfl, hq, q⟩ := h
  obtain ⟨u, rfl, rx⟩ := vals1 r
  cases rx
  have fin : ∀ (its : List Value), Vals ys its → ys.length ≤ sizeLine → ∀ (h' : Heap) (c' : Nat), (∀ b o', s.heap.get? b = some o' → h'.get? b = some o') →
      h'.get? s.heap.objs.size = some { cls := .type "list", dict := none, data := .seq its.toArray c', slots := #[] } → EP X pins σ Q (.ref s.heap.objs.size) { s with heap := h' } := fun its r' hz h' c' kp e =>
    ⟨.ref s.heap.objs.size, _, I.laid (t' := s.toks) kp (Nat.le_refl _) (show ObjOk X.prog X.w _ h' _ (.lst ys) from ⟨hz, its, c', r', e⟩), rfl, q _ (I.hok.fresh (Nat.le_refl _))⟩
  rcases hq with hq | hq
  · obtain ⟨its, r', pl, hz⟩ := I.list hq
    have hlen := r'.length
    obtain ⟨o, ho, hc, n, hd⟩ := pl.isList
    exact call_list_seq p (.inl rfl) ho hc hd (fun h' c' kp e => fin its r' hz h' c' kp e) (by simp only [List.size_toArray] <;> omega)
  · obtain ⟨its, r', pl, hz⟩ := I.tuple hq
    have hlen := r'.length
    obtain ⟨o, ho, hc, n, hd⟩ := pl
    exact call_list_seq p (.inr rfl) ho hc hd (fun h' c' kp e => fin its r' hz h' c' kp e) (by simp only [List.size_toArray] <;> omega)
def tyV (K : PySem.W.Frag) (T : String) (x : V) (H : Hp) : Prop := match x with
  | .str _ => T = "str"
  | .int _ => T = "int"
  | .ref p => (T = "list" ∧ ∃ xs, SqL K H p xs) ∨ (T = "tuple" ∧ ∃ o, K.lookup p = some o ∧ o.cls = .type "tuple" ∧ o.dict = none) ∨
      (T = "dict" ∧ ((∃ kvs, H p = some (.dK kvs)) ∨ ∃ kvs, H p = some (.dT kvs))) ∨ (T = "set" ∧ ∃ S n, H p = some (.set S n))
  | _ => False
theorem tyV_is {pins : List (Addr × Obj)} {σ : St} {H : Hp} {s : Shared} {T : String} {x : V} {v : Value} (I : Inv X pins σ H s) (r : RelV x v) (ty : tyV X.K T x H) :
    s.TypeIs v T ∧ ∀ a, v = .ref a → ∃ ob, s.heap.get? a = some ob ∧ ob.dict = none := by
  cases x with
  | str z =>
    obtain ⟨t, rfl⟩ := r
    cases (show T = "str" from ty)
    exact ⟨typeIs_str s z t, fun _ e => nomatch e⟩
  | int i =>
    obtain ⟨t, rfl⟩ := r
    cases (show T = "int" from ty)
    exact ⟨typeIs_int s i t, fun _ e => nomatch e⟩
  | ref p =>
    cases r
    rcases ty with ⟨rfl, xs, hq⟩ | ⟨rfl, o, hk, hc, hd⟩ | ⟨rfl, hk⟩ | ⟨rfl, S, n, hk⟩
    · obtain ⟨its, _, pl, _⟩ := I.list hq
      refine ⟨pl.isList.typeIs, fun a e => ?_⟩
      cases e
      obtain ⟨o, n, e, c, hd, _⟩ := pl
      exact ⟨o, e, hd⟩
    · refine ⟨⟨o, I.kIn p o hk, hc⟩, fun a e => ?_⟩
      cases e
      exact ⟨o, I.kIn _ o hk, hd⟩
    · have z : ∃ o, s.heap.get? p = some o ∧ o.ExactDict := by
        rcases hk with ⟨kvs, hk⟩ | ⟨kvs, hk⟩
        · obtain ⟨_, _, _, _, o, _, _, e, ex, _⟩ := I.hok p _ hk
          exact ⟨o, e, ex⟩
        · obtain ⟨_, _, _, _, o, _, _, e, ex, _⟩ := I.hok p _ hk
          exact ⟨o, e, ex⟩
      obtain ⟨o, e, ex⟩ := z
      refine ⟨⟨o, e, ex.1⟩, fun a e2 => ?_⟩
      cases e2
      exact ⟨o, e, ex.2.1⟩
    · obtain ⟨o, _, _, _, e, ex, _⟩ := I.hok p _ hk
      refine ⟨⟨o, e, ex.1⟩, fun a e2 => ?_⟩
      cases e2
      exact ⟨o, e, ex.2.1⟩
  | _ => exact False.elim ty
def tBM (K : PySem.W.Frag) (T : String) (r : V → List V → Hp → VK → Prop) (to : TE) (t : TA) : TE := fun σ H Q => to σ H fun x H1 => tyV K T x H1 ∧ t σ H1 fun xs H2 => r x xs H2 Q
variable {o e : Expr} {es : List Expr} {to : TE} {t : TA} {name : Str} {apos cpos : Pos} {T id : String} {r : V → List V → Hp → VK → Prop}
theorem pe_bm (pa : PlainAttrs T) (slot : Slot T name id) (hty : typeOf (.builtin id) = pure (.type "method_descriptor")) (hm : MtR X id r) (ho : PE X o to) (ha : PA X (e :: es) t)
    (hbase : attributeBase o name X.env (eval o X.env) = eval o X.env := by rfl)
    (hfew : ((backTo cpos (starEach (e :: es) X.env)).all (fun x => !x.1) && (backToKw cpos (keywordEach [] X.env)).all (fun x => x.1.isSome)
      && decide ((e :: es).length + ([] : List Keyword).length + (if ([] : List Keyword).isEmpty then 0 else 1) < 30)) = true := by rfl)
    (hline : (apos.endLine == cpos.line) = true := by rfl) (hs : starEach (e :: es) X.env = (false, eval e X.env) :: starEach es X.env := by rfl) (hplain : (backTo cpos (starEach es X.env)).any (·.1) = false := by rfl) :
    PE X (.Call (.Attribute o name apos) (e :: es) [] cpos) (tBM X.K T r to t) := by
  intro pins s σ H Q I h
  refine wpAny_Call_method_late hbase hfew hline rfl (thn (ho pins s σ H _ I h) fun v s1 ⟨x, H1, I1, r1, ty, q1⟩ => ?_)
  obtain ⟨h1, h2⟩ := tyV_is I1 r1 ty
  refine ⟨T, id, pa, slot, hty, h1, h2, ?_⟩
  have hA := ha cpos pins s1 σ H1 _ I1 q1
  rw [hs] at hA ⊢
  refine Calls.callWith_builtin (by show (false || (backTo cpos (starEach es X.env)).any (·.1)) = false; rw [hplain] <;> rfl) (Calls.evalArgs_plain ?_)
  exact thn hA fun us s2 ⟨vs, H2, I2, r2, q2⟩ => hm pins s2 σ H2 x vs v us Q I2 r1 r2 q2
end
end L2
namespace L2
open PySem PySem.Spec PyProof.Rows
def MtM (X : Cx) (id : String) (r : V → List V → Hp → VK → Prop) : Prop :=
  ∀ (pins : List (Addr × Obj)) (s : Shared) (σ : St) (H : Hp) (x : V) (xs : List V) (v : Value) (us : List Value) (Q : VK), Inv X pins σ H s → RelV x v → Vals xs us → r x xs H Q →
    wpAny (model X.prog X.w) X.A (call (.builtin id) (v :: us)) (EP X pins σ Q) X.xe s
theorem Vals.one : ∀ {x : V} {us : List Value}, Vals [x] us → ∃ u, us = [u] ∧ RelV x u
  | _, _, .cons r .nil => ⟨_, rfl, r⟩
theorem Vals.two : ∀ {x y : V} {us : List Value}, Vals [x, y] us → ∃ u v, us = [u, v] ∧ RelV x u ∧ RelV y v
  | _, _, _, .cons r (.cons q .nil) => ⟨_, _, rfl, r, q⟩
theorem Vals.zero : ∀ {us : List Value}, Vals [] us → us = []
  | _, .nil => rfl
theorem Vals.dropLast {xs : List V} {us : List Value} (h : Vals xs us) : Vals xs.dropLast us.dropLast := by
  induction h with
  | nil => exact .nil
  | cons r t ih =>
    cases t with
    | nil => exact .nil
    | cons q t' => exact .cons r ih
theorem Vals.reverse {xs : List V} {us : List Value} (h : Vals xs us) : Vals xs.reverse us.reverse := by
  induction h with
  | nil => exact .nil
  | cons r t ih => rw [List.reverse_cons, List.reverse_cons]; exact Vals.append ih (.cons r .nil)
section
variable {X : Cx} {pins : List (Addr × Obj)} {σ : St} {H : Hp} {s : Shared} {l b : Addr} {xs ys zs : List V}
theorem Inv.lset {its its' : List Value} {n : Nat} {f : Array Value → Array Value} {t' : Nat} (I : Inv X pins σ H s) (hH : H l = some (.lst xs))
    (e : s.heap.get? l = some { cls := .type "list", data := .seq its.toArray n }) (hf : f its.toArray = its'.toArray) (hv : Vals ys its') (hz : ys.length ≤ sizeLine) :
    Inv X pins σ (upd H l (.lst ys)) { s with heap := s.heap.update l (Obj.mapSeq f), toks := t' } := by
  have q := PySem.IsL.update e f
  rw [hf] at q
  refine I.write (x := l) (e := l) (by rw [hH]; exact trivial) (.inl rfl) (fun b' u hb hu => (Heap.get?_update_other s.heap (Obj.mapSeq f) (Ne.symm hb)).trans hu) ⟨_, q⟩ ?_
  exact ⟨hz, its', _, hv, q⟩
theorem Inv.lnew {its : List Value} {t' : Nat} (I : Inv X pins σ H s) (hv : Vals ys its) (hz : ys.length ≤ sizeLine) :
    Inv X pins σ (upd H s.heap.objs.size (.lst ys)) { s with heap := s.heap.push { cls := .type "list", data := .seq its.toArray }, toks := t' } :=
  I.laid (fun _ _ q => Heap.get?_push_of_some _ q) (Nat.le_refl _) ⟨hz, its, 0, hv, Heap.get?_push_size _ rfl⟩
theorem Inv.fresh (I : Inv X pins σ H s) : H s.heap.objs.size = none := I.hok.fresh (Nat.le_refl _)
theorem Inv.lstM (I : Inv X pins σ H s) (hH : H l = some (.lst xs)) : xs.length ≤ sizeLine ∧ ∃ (its : List Value) (n : Nat), Vals xs its ∧ xs.length = its.length ∧ s.heap.get? l = some { cls := .type "list", data := .seq its.toArray n } := by
  obtain ⟨z, its, n, r, e⟩ := I.hok l _ hH
  exact ⟨z, its, n, r, r.length, e⟩
theorem notLongL {n : Nat} (h : n ≤ sizeLine) : Builtin.List.listTooLong n = false := by
  unfold Builtin.List.listTooLong
  exact decide_eq_false (by omega)
end
section
variable {X : Cx}
def rAppend : V → List V → Hp → VK → Prop := fun x vs H Q => ∃ l xs y, x = .ref l ∧ vs = [y] ∧ H l = some (.lst xs) ∧ xs.length < sizeLine ∧ Q .non (upd H l (.lst (xs ++ [y])))
theorem mt_append : MtM X "list.append" rAppend := by
  intro pins s σ H x vs v us Q I rx rv h
  obtain ⟨l, xs, y, rfl, rfl, hH, hz, q⟩ := h
  cases rx
  obtain ⟨u, rfl, ru⟩ := rv.one
  obtain ⟨z, its, n, r, hl, e⟩ := I.lstM hH
  refine call_meets F.slot_list_append ⟨_, e, rfl⟩ F.entry_list_append (F.args_list_append_2 _ _) (PySem.list_append l its.toArray n u (by rw [List.size_toArray]; omega)) ⟨e, ?_⟩
  refine ⟨.non, _, I.lset (its' := its ++ [u]) hH e (by simp) (r.append (.cons ru .nil)) ?_, rfl, q⟩
  rw [List.length_append, List.length_singleton]
  omega
def rExtend : V → List V → Hp → VK → Prop := fun x vs H Q => ∃ l b xs zs, x = .ref l ∧ vs = [.ref b] ∧ H l = some (.lst xs) ∧ H b = some (.lst zs) ∧ xs.length + zs.length ≤ sizeLine ∧ Q .non (upd H l (.lst (xs ++ zs)))
theorem mt_extend : MtM X "list.extend" rExtend := by
  intro pins s σ H x vs v us Q I rx rv h
  obtain ⟨l, b, xs, zs, rfl, rfl, hH, hB, hz, q⟩ := h
  cases rx
  obtain ⟨u, rfl, ru⟩ := rv.one
  cases ru
  obtain ⟨z, its, n, r, hl, e⟩ := I.lstM hH
  obtain ⟨z2, its2, n2, r2, hl2, e2⟩ := I.lstM hB
  have hsz : its.toArray.size + its2.toArray.size ≤ sizeLine := by rw [List.size_toArray, List.size_toArray]; omega
  have hlong : ¬ (!its.toArray.isEmpty && Builtin.List.listTooLong (its.toArray.size + its2.toArray.size)) = true := by
    rw [notLongL hsz, Bool.and_false]
    exact Bool.false_ne_true
  refine call_meets F.slot_list_extend ⟨_, e, rfl⟩ F.entry_list_extend (F.args_list_extend_2 _ _)
    (AutoSeq1.list_extend_list_list_0 l its.toArray n b its2.toArray n2 hlong (by rw [List.size_toArray]; omega) (by omega)) ⟨e, e2, ?_⟩
  refine ⟨.non, _, I.lset (its' := its ++ its2) hH e (by simp) (r.append r2) ?_, rfl, q⟩
  rw [List.length_append]
  omega
def rCat : R2 := fun x y H Q => ∃ l b xs zs, x = .ref l ∧ y = .ref b ∧ H l = some (.lst xs) ∧ H b = some (.lst zs) ∧ xs.length + zs.length ≤ sizeLine ∧ ∀ p, H p = none → Q (.ref p) (upd H p (.lst (xs ++ zs)))
theorem op_cat : OpR X (binaryOp .Add) rCat := by
  intro pins s σ H x y v u Q I rx ry h
  obtain ⟨l, b, xs, zs, rfl, rfl, hH, hB, hz, q⟩ := h
  cases rx
  cases ry
  obtain ⟨z, its, n, r, hl, e⟩ := I.lstM hH
  obtain ⟨z2, its2, n2, r2, hl2, e2⟩ := I.lstM hB
  refine PySem.P.add_list e e2 ?_ (by rw [List.size_toArray, List.size_toArray]; omega)
  have ea : its.toArray ++ its2.toArray = (its ++ its2).toArray := by simp
  rw [ea]
  exact ⟨.ref _, _, I.lnew (t' := s.toks) (r.append r2) (by rw [List.length_append]; omega), rfl, q _ I.fresh⟩
end
section
variable {prog : Program} {w : World} {A : Around} {E : Value → Shared → Prop} {s : Shared}
set_option maxRecDepth 100000 in
end
section
variable {X : Cx}
end
end L2
namespace L2
open PySem PySem.Spec PyProof.Rows
theorem Vals.ints : ∀ {ns : List Int} {us : List Value}, Vals (ns.map V.int) us → IntsAre us ns
  | [], us, h => by
    rw [List.map_nil] at h
    cases h
    exact IntsAre.nil
  | n :: ns, us, h => by
    rw [List.map_cons] at h
    cases h with
    | cons r t =>
      obtain ⟨k, rfl⟩ := r
      exact IntsAre.cons n k (Vals.ints t)
theorem vals_of_ints : ∀ {us : List Value} {ns : List Int}, IntsAre us ns → Vals (ns.map V.int) us
  | _, _, .nil => by rw [List.map_nil]; exact Paired.nil
  | _, _, .cons n t h => by rw [List.map_cons]; exact Paired.cons (show RelV (V.int n) (Value.int n t) from ⟨t, rfl⟩) (vals_of_ints h)
theorem Vals.strs : ∀ {xs : List Str} {us : List Value}, Vals (xs.map V.str) us → StrsAre us xs
  | [], us, h => by
    rw [List.map_nil] at h
    cases h
    exact StrsAre.nil
  | x :: xs, us, h => by
    rw [List.map_cons] at h
    cases h with
    | cons r t =>
      obtain ⟨k, rfl⟩ := r
      exact StrsAre.cons x k (Vals.strs t)
section
variable {prog : Program} {w : World} {A : Around} {E : Value → Shared → Prop} {s : Shared} {l : Addr} {its : List Value} {ns : List Int} {Q : Value → Shared → Prop}
end
section
variable {X : Cx}
end
section
variable {X : Cx}
def rIndex (K : PySem.W.Frag) : V → List V → Hp → VK → Prop := fun x xs H Q => ∃ (a : Addr) (ys : List V) (y : V) (j : Nat) (z : V), x = V.ref a ∧ xs = [y] ∧ SqL K H a ys ∧ flatV y = true ∧ ys.all flatV = true ∧ ys[j]? = some z ∧ eqV z y = true ∧
  (∀ (m : Nat) (z' : V), m < j → ys[m]? = some z' → eqV z' y = false) ∧ Q (.int (j : Nat)) H
theorem flat_at {ys : List V} (f : ys.all flatV = true) {j : Nat} {z : V} (h : ys[j]? = some z) : flatV z = true := List.all_eq_true.mp f z (List.mem_of_getElem? h)
theorem mt_index : MtR X "list.index" (rIndex X.K) := by
  intro pins s σ H x xs v us Q I rx rxs h
  obtain ⟨a, ys, y, j, z, rfl, rfl, hs, fy, fys, hz, hzj, hno, q⟩ := h
  cases rx
  cases rxs with
  | cons ry rt =>
    rename_i uy ut
    cases rt
    obtain ⟨its, rv, ⟨⟨cls, dd, data, sl⟩, n, ho, hc, hdn, hd⟩, hlen⟩ := I.list hs
    simp only at hc hd
    subst hc hd
    obtain ⟨u, hu, ru⟩ := rv.get hz
    obtain ⟨hjl, hje⟩ := List.getElem?_eq_some_iff.mp hu
    have hvl := rv.length
    have hj : j < its.toArray.size := by simpa using hjl
    have hsl := sizeLine_eq
    refine call_meets PySem.F.slot_list_index ⟨_, ho, rfl⟩ PySem.F.entry_list_index (PySem.F.args_list_index_2 _ _)
      (SeqAt.list_indexAt a its.toArray n dd sl uy (eqU y) j hj (by omega) ?_ ?_) ⟨ho, fun u' hu' => mem_eqAt ry fy rv fys u' (by simpa using hu'), ?_⟩
    · have e1 : its.toArray[j] = u := by simpa using hje
      rw [e1, eqU_of ru (flat_at fys hz)]
      exact hzj
    · intro m hm hmj
      have hml : m < its.length := by simpa using hm
      have hmy : m < ys.length := by omega
      have hy' : ys[m]? = some ys[m] := List.getElem?_eq_getElem hmy
      obtain ⟨u2, hu2, ru2⟩ := rv.get hy'
      obtain ⟨_, hme⟩ := List.getElem?_eq_some_iff.mp hu2
      have e1 : its.toArray[m] = u2 := by simpa using hme
      rw [e1, eqU_of ru2 (flat_at fys hy')]
      exact hno m _ hmj hy'
    · exact ⟨.int (j : Nat), H, I.tok _, ⟨_, rfl⟩, q⟩
end
section
variable {X : Cx}
end
section
variable {X : Cx}
end
mutual
inductive Dp (K : PySem.W.Frag) (H : Hp) : V → PyData → Prop
  | non : Dp K H .non .none
  | bl (b : Bool) : Dp K H (.bl b) (.bool b)
  | int (i : Int) : Dp K H (.int i) (.int i)
  | str (x : Str) : Dp K H (.str x) (.str x)
  | lst {a : Addr} {xs : List V} {ds : List PyData} : SqL K H a xs → DpAll K H xs ds → Dp K H (.ref a) (.list ds)
  | tup {a : Addr} {xs : List V} {ds : List PyData} : SqT K H a xs → DpAll K H xs ds → Dp K H (.ref a) (.tuple ds)
inductive DpAll (K : PySem.W.Frag) (H : Hp) : List V → List PyData → Prop
  | nil : DpAll K H [] []
  | cons {v : V} {vs : List V} {d : PyData} {ds : List PyData} : Dp K H v d → DpAll K H vs ds → DpAll K H (v :: vs) (d :: ds)
end
section
variable {X : Cx} {pins : List (Addr × Obj)} {σ : St} {H : Hp} {s : Shared}
mutual
theorem Dp.reads (I : Inv X pins σ H s) : ∀ (d : PyData) (v : V) (u : Value), Dp X.K H v d → RelV v u → ∃ as, Reads s.heap u d as
  | .none, _, _, h, r => by
    cases h
    cases r
    exact ⟨_, Reads.none⟩
  | .bool b, _, _, h, r => by
    cases h
    cases r
    exact ⟨_, Reads.bool b⟩
  | .int i, _, _, h, r => by
    cases h
    obtain ⟨t, rfl⟩ := r
    exact ⟨_, Reads.int i t⟩
  | .str x, _, _, h, r => by
    cases h
    obtain ⟨t, rfl⟩ := r
    exact ⟨_, Reads.str x t⟩
  | .list ds, _, _, h, r => by
    cases h with
    | lst hs ha =>
      cases r
      obtain ⟨its, rv, ⟨o, n, ho, hc, _, hd⟩, _⟩ := I.list hs
      obtain ⟨as, hr⟩ := Dp.readsAll I ds _ its ha rv
      exact ⟨_, Reads.list ho hc hd hr⟩
  | .tuple ds, _, _, h, r => by
    cases h with
    | tup hs ha =>
      cases r
      obtain ⟨its, rv, ⟨o, ho, hc, n, hd⟩, _⟩ := I.tuple hs
      obtain ⟨as, hr⟩ := Dp.readsAll I ds _ its ha rv
      exact ⟨_, Reads.tuple ho hc hd hr⟩
  | .dict _, _, _, h, _ => by cases h
theorem Dp.readsAll (I : Inv X pins σ H s) : ∀ (ds : List PyData) (vs : List V) (us : List Value), DpAll X.K H vs ds → Vals vs us → ∃ as, ReadsAll s.heap us ds as
  | [], _, _, h, r => by
    cases h
    cases r
    exact ⟨_, ReadsAll.nil⟩
  | d :: ds, _, _, h, r => by
    cases h with
    | cons h1 h2 =>
      cases r with
      | cons r1 r2 =>
        obtain ⟨as, q1⟩ := Dp.reads I d _ _ h1 r1
        obtain ⟨bs, q2⟩ := Dp.readsAll I ds _ _ h2 r2
        exact ⟨_, ReadsAll.cons q1 q2⟩
end
end
section
variable {X : Cx}
def rEqD (K : PySem.W.Frag) : R2 := fun x y H Q => ∃ d e, Dp K H x d ∧ Dp K H y e ∧ SeqAt.shaped d = true ∧ SeqAt.shaped e = true ∧ Q (.bl (PyData.eqv d e)) H
def rNeD (K : PySem.W.Frag) : R2 := fun x y H Q => ∃ d e, Dp K H x d ∧ Dp K H y e ∧ SeqAt.shaped d = true ∧ SeqAt.shaped e = true ∧ Q (.bl (!PyData.eqv d e)) H
theorem op_eqD (hu : X.A.units + 64 < cLine) : OpR X (compareOp .Eq) (rEqD X.K) := by
  intro pins s σ H x y v u Q I rx ry h
  obtain ⟨d, e, hd, he, sd, se, q⟩ := h
  obtain ⟨as, r1⟩ := Dp.reads I d x v hd rx
  obtain ⟨bs, r2⟩ := Dp.reads I e y u he ry
  exact SeqAt.compareEq_shaped r1 r2 sd se hu ⟨.bl _, H, I, rfl, q⟩
theorem op_neD (hu : X.A.units + 64 < cLine) : OpR X (compareOp .NotEq) (rNeD X.K) := by
  intro pins s σ H x y v u Q I rx ry h
  obtain ⟨d, e, hd, he, sd, se, q⟩ := h
  obtain ⟨as, r1⟩ := Dp.reads I d x v hd rx
  obtain ⟨bs, r2⟩ := Dp.reads I e y u he ry
  exact SeqAt.compareNe_shaped r1 r2 sd se hu ⟨.bl _, H, I, rfl, q⟩
end
end L2
namespace L2
open PySem PySem.Spec PyProof.Rows
abbrev CellAt (h : Heap) (c : Addr) (v : Option Value) : Prop := h.IsCell c v
def relS (scope sc : Scope) : Scope :=
  { scope with names := scope.names.map fun (n, k) => if (k == .free && sc.kind == .function && sc.names.lookup n == some .cell) then (n, .cell) else (n, k) }
def cloFrom (cells : List (Str × Addr)) : List (Str × NameKind) → List (Str × Addr) → List (Str × Addr)
  | [], acc => acc
  | (n, k) :: r, acc => if k == .free then cloFrom cells r ((n, (cells.lookup n).getD 0) :: acc) else cloFrom cells r acc
theorem closure_loop (env : Env) (f : Str × NameKind → List (Str × Addr) → Sem (ForInStep (List (Str × Addr))))
    (hf : ∀ n k c, f (n, k) c = if k == .free then (do let a ← cellOf env n; pure (.yield ((n, a) :: c))) else pure (.yield c)) :
    ∀ (names : List (Str × NameKind)) (acc : List (Str × Addr)), (∀ y ∈ names, y.2 = .free → ∃ c, env.cells.lookup y.1 = some c) → forIn names acc f = pure (cloFrom env.cells names acc)
  | [], acc, _ => by rw [List.forIn_nil]; rfl
  | (n, k) :: r, acc, h => by
    rw [List.forIn_cons, hf]
    have ih := fun acc => closure_loop env f hf r acc fun y hy => h y (List.mem_cons_of_mem _ hy)
    unfold cloFrom
    by_cases hk : (k == NameKind.free) = true
    · rw [if_pos hk, if_pos hk]
      obtain ⟨c, hc⟩ := h (n, k) List.mem_cons_self (by simpa using hk)
      have e : cellOf env n = pure c := by unfold cellOf; rw [hc]
      rw [e]
      have e2 : (env.cells.lookup n).getD 0 = c := by rw [hc]; rfl
      rw [e2]
      exact ih _
    · rw [if_neg hk, if_neg hk]
      exact ih _
theorem closure_ok {scope : Scope} {env : Env} (h : ∀ y ∈ scope.names, y.2 = .free → ∃ c, env.cells.lookup y.1 = some c) : closureFor scope env = pure (cloFrom env.cells scope.names []) := by
  simp only [closureFor]
  rw [closure_loop env _ (fun n k c => rfl) scope.names [] h]
  rfl
theorem mem_lookup {α : Type} : ∀ {l : List (Str × α)} {n : Str} {c : α}, (n, c) ∈ l → ∃ c', l.lookup n = some c'
  | (k, v) :: r, n, c, h => by
    rw [List.lookup_cons]
    cases hb : n == k with
    | true => exact ⟨_, rfl⟩
    | false =>
      rcases List.mem_cons.mp h with e | h
      · cases e; simp at hb
      · exact mem_lookup h
theorem cloFrom_mem {cells : List (Str × Addr)} : ∀ {names : List (Str × NameKind)} {acc : List (Str × Addr)} {n : Str} {c : Addr}, (n, c) ∈ cloFrom cells names acc → (n, c) ∈ acc ∨ ((n, .free) ∈ names ∧ c = (cells.lookup n).getD 0)
  | [], _, _, _, h => .inl h
  | (m, k) :: r, acc, n, c, h => by
    unfold cloFrom at h
    split at h
    · rename_i hk
      have hk : k = .free := by simpa using hk
      rcases cloFrom_mem h with h | ⟨h1, h2⟩
      · rcases List.mem_cons.mp h with e | h
        · cases e; exact .inr ⟨hk ▸ List.mem_cons_self, rfl⟩
        · exact .inl h
      · exact .inr ⟨List.mem_cons_of_mem _ h1, h2⟩
    · rcases cloFrom_mem h with h | ⟨h1, h2⟩
      · exact .inl h
      · exact .inr ⟨List.mem_cons_of_mem _ h1, h2⟩
theorem cloFrom_acc {cells : List (Str × Addr)} : ∀ {names : List (Str × NameKind)} {acc : List (Str × Addr)} {p : Str × Addr}, p ∈ acc → p ∈ cloFrom cells names acc
  | [], _, _, h => h
  | (m, k) :: r, acc, p, h => by
    unfold cloFrom
    split
    · exact cloFrom_acc (List.mem_cons_of_mem _ h)
    · exact cloFrom_acc h
theorem cloFrom_has {cells : List (Str × Addr)} : ∀ {names : List (Str × NameKind)} {acc : List (Str × Addr)} {n : Str}, (n, .free) ∈ names → (n, (cells.lookup n).getD 0) ∈ cloFrom cells names acc
  | (m, k) :: r, acc, n, h => by
    unfold cloFrom
    rcases List.mem_cons.mp h with e | h
    · cases e
      exact cloFrom_acc List.mem_cons_self
    · split
      · exact cloFrom_has h
      · exact cloFrom_has h
theorem cells_mem : ∀ {names : List (Str × NameKind)} {h : Heap} {acc : List (Str × Addr)} {x : Str} {c : Addr}, (x, c) ∈ cellsFrom h.objs.size names acc →
    (x, c) ∈ acc ∨ ((x, .cell) ∈ names ∧ h.objs.size ≤ c ∧ CellAt (pushCells h names) c none)
  | [], _, _, _, _, h => .inl h
  | (n, k) :: r, h, acc, x, c, hm => by
    unfold cellsFrom at hm
    unfold pushCells
    split at hm
    · rename_i hk
      rw [if_pos hk]
      have hk : k = .cell := by simpa using hk
      rw [← Heap.size_push h { cls := .type "cell", data := .cell none }] at hm
      rcases cells_mem hm with hm | ⟨h1, h2, h3⟩
      · rcases List.mem_cons.mp hm with e | hm
        · cases e
          exact .inr ⟨hk ▸ List.mem_cons_self, Nat.le_refl _, _, pushCells_keeps r _ _ _ (Heap.get?_push_size _ rfl), rfl⟩
        · exact .inl hm
      · rw [Heap.size_push] at h2
        exact .inr ⟨List.mem_cons_of_mem _ h1, Nat.le_of_succ_le h2, h3⟩
    · rename_i hk
      rw [if_neg hk]
      rcases cells_mem hm with hm | ⟨h1, h2, h3⟩
      · exact .inl hm
      · exact .inr ⟨List.mem_cons_of_mem _ h1, h2, h3⟩
theorem cells_acc : ∀ {names : List (Str × NameKind)} {n : Nat} {acc : List (Str × Addr)} {p : Str × Addr}, p ∈ acc → p ∈ cellsFrom n names acc
  | [], _, _, _, h => h
  | (m, k) :: r, n, acc, p, h => by
    unfold cellsFrom
    split
    · exact cells_acc (List.mem_cons_of_mem _ h)
    · exact cells_acc h
theorem cells_has : ∀ {names : List (Str × NameKind)} {n : Nat} {acc : List (Str × Addr)} {x : Str}, (x, .cell) ∈ names → ∃ c, (x, c) ∈ cellsFrom n names acc
  | (m, k) :: r, n, acc, x, h => by
    unfold cellsFrom
    rcases List.mem_cons.mp h with e | h
    · cases e
      exact ⟨n, cells_acc List.mem_cons_self⟩
    · split
      · exact cells_has h
      · exact cells_has h
theorem cells_inj : ∀ {names : List (Str × NameKind)} {h : Heap} {acc : List (Str × Addr)} {x y : Str} {c : Addr}, (∀ p ∈ acc, p.2 < h.objs.size) → (∀ x y c, (x, c) ∈ acc → (y, c) ∈ acc → x = y) →
    (x, c) ∈ cellsFrom h.objs.size names acc → (y, c) ∈ cellsFrom h.objs.size names acc → x = y
  | [], _, _, _, _, _, _, hi, h1, h2 => hi _ _ _ h1 h2
  | (n, k) :: r, h, acc, x, y, c, hl, hi, h1, h2 => by
    unfold cellsFrom at h1 h2
    split at h1
    · rename_i hk
      rw [if_pos hk] at h2
      rw [← Heap.size_push h { cls := .type "cell", data := .cell none }] at h1 h2
      refine cells_inj (h := h.push _) (fun p hp => ?_) (fun x y c a b => ?_) h1 h2
      · rw [Heap.size_push]
        rcases List.mem_cons.mp hp with rfl | hp
        · exact Nat.lt_succ_self _
        · exact Nat.lt_succ_of_lt (hl p hp)
      · rcases List.mem_cons.mp a with e | a <;> rcases List.mem_cons.mp b with e' | b
        · cases e; cases e'; rfl
        · cases e; exact absurd (hl _ b) (Nat.lt_irrefl _)
        · cases e'; exact absurd (hl _ a) (Nat.lt_irrefl _)
        · exact hi _ _ _ a b
    · rename_i hk
      rw [if_neg hk] at h2
      exact cells_inj hl hi h1 h2
theorem newEnv_comp {M : Model} {A : Around} {E : Value → Shared → Prop} {s : Shared} {scope : Scope} {globals : Addr} {closure : List (Str × Addr)} {qual : Str} {func : Option Addr} {code : Value} {around : Env} {builtins : Addr} {Q : Env → Shared → Prop}
    (h : Q (newEnv scope s.heap.objs.size globals (cellsFrom (s.heap.objs.size + 1) scope.names closure) qual func code (some around) builtins)
      { s with heap := pushCells (s.heap.push { cls := .type "dict", data := .dict #[] }) scope.names }) :
    wpAny M A (newFunctionEnv scope globals closure [] qual func code (some around) builtins) Q E s := by
  simp only [newFunctionEnv, Option.isSome_some, if_true]
  refine wpAny_bind (wpAny_alloc ?_)
  refine wpAny_bind (wpAny_layCells _ (fun n k c => rfl) scope.names closure _ _ ?_)
  rw [show ({ s with heap := s.heap.push { cls := .type "dict", data := .dict #[] } } : Shared).heap.objs.size = s.heap.objs.size + 1 from Heap.size_push ..]
  rw [List.forIn_nil]
  exact wpAny_bind (wpAny_pure (wpAny_pure h))
theorem lookup_relS {sc : Scope} : ∀ {names : List (Str × NameKind)} {x : Str} {k : NameKind},
    (names.map fun (n, k) => if (k == NameKind.free && sc.kind == .function && sc.names.lookup n == some .cell) then (n, NameKind.cell) else (n, k)).lookup x = some k →
    ∃ k', names.lookup x = some k' ∧ (k = k' ∨ (k' = .free ∧ k = .cell))
  | [], _, _, h => by simp at h
  | (n, k₀) :: r, x, k, h => by
    have ih := @lookup_relS sc r x k
    have h' : List.lookup x ((if (k₀ == NameKind.free && sc.kind == .function && sc.names.lookup n == some .cell) = true then (n, NameKind.cell) else (n, k₀)) :: (r.map _)) = some k := h
    cases hx : x == n with
    | true =>
      simp only [List.lookup_cons, hx]
      by_cases hc : (k₀ == NameKind.free && sc.kind == .function && sc.names.lookup n == some .cell) = true
      · rw [if_pos hc] at h'
        simp only [List.lookup_cons, hx] at h'
        cases h'
        simp only [Bool.and_eq_true, beq_iff_eq] at hc
        exact ⟨k₀, rfl, .inr ⟨hc.1.1, rfl⟩⟩
      · rw [if_neg hc] at h'
        simp only [List.lookup_cons, hx] at h'
        cases h'
        exact ⟨_, rfl, .inl rfl⟩
    | false =>
      simp only [List.lookup_cons, hx]
      by_cases hc : (k₀ == NameKind.free && sc.kind == .function && sc.names.lookup n == some .cell) = true
      · rw [if_pos hc] at h'
        simp only [List.lookup_cons, hx] at h'
        exact ih h'
      · rw [if_neg hc] at h'
        simp only [List.lookup_cons, hx] at h'
        exact ih h'
structure BlkOk (N : List Str) (sc scope : Scope) (own : List (Str × Nat)) : Prop where
  kind : scope.kind = .function
  uniq : ∀ y ∈ scope.names, scope.names.lookup y.1 = some y.2
  ix : ∀ p ∈ own, N[p.2]? = some p.1
  free : ∀ y ∈ scope.names, y.2 = .free → sc.names.lookup y.1 = some .cell ∨ sc.names.lookup y.1 = some .free
  own : ∀ y ∈ scope.names, y.2 = .local ∨ y.2 = .cell → y.1 ∈ own.map (·.1) ∨ y.1 ∉ N
def wipe (σ : St) : List Nat → St
  | [] => σ
  | v :: vs => (wipe σ vs).set v none
theorem wipe_length (σ : St) : ∀ vs : List Nat, (wipe σ vs).length = σ.length
  | [] => rfl
  | v :: vs => by unfold wipe; rw [List.length_set, wipe_length σ vs]
theorem wipe_some {σ : St} {i : Nat} {x : V} : ∀ {vs : List Nat}, (wipe σ vs)[i]? = some (some x) → σ[i]? = some (some x) ∧ i ∉ vs
  | [], h => ⟨h, by simp⟩
  | v :: vs, h => by
    unfold wipe at h
    by_cases hi : v = i
    · subst hi
      by_cases hv : v < (wipe σ vs).length
      · rw [List.getElem?_set_self hv] at h; cases h
      · rw [List.getElem?_eq_none (by simpa using hv)] at h; cases h
    · rw [List.getElem?_set_ne hi] at h
      obtain ⟨h1, h2⟩ := wipe_some h
      exact ⟨h1, by simp only [List.mem_cons, not_or]; exact ⟨fun e => hi e.symm, h2⟩⟩
abbrev Cx.blk (X : Cx) (s : Shared) (H : Hp) (scope : Scope) (cenv : Env) (fp : List Addr) : Cx := { X with s_0 := s, H_0 := H, env := cenv, outer := X.stack, ex := fp, fn := fun x => scope.names.lookup x == some .cell, pn := [], xe := fun _ _ => False }
section
variable {X : Cx} {pins : List (Addr × Obj)} {σ : St} {H : Hp} {s : Shared}
theorem block_start {scope : Scope} {own : List (Str × Nat)} {fp : List Addr} (I : Inv X pins σ H s) (ok : BlkOk X.N X.env.scope scope own) (hN : X.N.Nodup) (hfp : ∀ b ∈ fp, FpOk X pins H b ∧ b < s.heap.objs.size) :
    Inv (X.blk s H scope (compEnvC scope (cellsFrom (s.heap.objs.size + 1) scope.names (cloFrom X.env.cells scope.names [])) s.heap.objs.size X.env) fp) [] (wipe σ (own.map (·.2))) H { s with heap := pushCells (s.heap.push { cls := .type "dict", data := .dict #[] }) scope.names } := by
  have hfree : ∀ y ∈ scope.names, y.2 = .free → ∃ c, X.env.cells.lookup y.1 = some c := fun y hy e => by
    rcases ok.free y hy e with k | k
    · exact I.ok.has _ (.inl k)
    · exact I.ok.has _ (.inr k)
  generalize hcenv : compEnvC scope (cellsFrom (s.heap.objs.size + 1) scope.names (cloFrom X.env.cells scope.names [])) s.heap.objs.size X.env = cenv
  have kp : ∀ b o, s.heap.get? b = some o → (pushCells (s.heap.push { cls := .type "dict", data := .dict #[] }) scope.names).get? b = some o := fun b o e => pushCells_keeps _ _ _ _ (Heap.get?_push_of_some _ e)
  have hL : cenv.locals = s.heap.objs.size := by rw [← hcenv]; rfl
  have hcl : cenv.cells = cellsFrom (s.heap.objs.size + 1) scope.names (cloFrom X.env.cells scope.names []) := by rw [← hcenv]; rfl
  have hsc : cenv.scope = relS scope X.env.scope := by rw [← hcenv]; rfl
  rw [← Heap.size_push s.heap { cls := .type "dict", data := .dict #[] }] at hcl
  have cm : ∀ {y c}, (y, c) ∈ cloFrom X.env.cells scope.names [] → X.env.cells.lookup y = some c ∧ c < s.heap.objs.size := fun {y c} hm => by
    rcases cloFrom_mem hm with hm | ⟨h1, rfl⟩
    · cases hm
    · obtain ⟨c, hc⟩ := hfree _ h1 rfl
      rw [hc]
      obtain ⟨w, z⟩ := I.cell _ _ hc
      exact ⟨rfl, z.lt⟩
  have mem : ∀ {y c}, cenv.cells.lookup y = some c → (X.env.cells.lookup y = some c ∧ c < s.heap.objs.size) ∨ (s.heap.objs.size + 1 ≤ c ∧ CellAt (pushCells (s.heap.push { cls := .type "dict", data := .dict #[] }) scope.names) c none) := fun {y c} e => by
    rw [hcl] at e
    rcases cells_mem (PySem.mem_of_lookup e) with hm | ⟨_, h2, h3⟩
    · exact .inl (cm hm)
    · rw [Heap.size_push] at h2; exact .inr ⟨h2, h3⟩
  have look : ∀ {y}, scope.names.lookup y = some .free → ∃ c, cenv.cells.lookup y = some c ∧ X.env.cells.lookup y = some c := fun {y} hl => by
    have hy : (y, NameKind.free) ∈ scope.names := PySem.mem_of_lookup hl
    obtain ⟨c', e'⟩ := mem_lookup (cells_acc (names := scope.names) (n := (s.heap.push { cls := .type "dict", data := .dict #[] }).objs.size) (cloFrom_has (cells := X.env.cells) (acc := []) hy))
    rw [← hcl] at e'
    refine ⟨c', e', ?_⟩
    rw [hcl] at e'
    rcases cells_mem (PySem.mem_of_lookup e') with hm | ⟨h1, _, _⟩
    · exact (cm hm).1
    · have := ok.uniq _ h1
      rw [hl] at this; cases this
  have okB : (X.blk s H scope cenv fp).Ok := by
    refine ⟨I.ok.mod, by show cenv.scope.kind = _; rw [hsc]; exact ok.kind, by show cenv.globals = _; rw [← hcenv]; exact I.ok.glob, by show cenv.builtins = _; rw [← hcenv]; exact I.ok.blt, by show s.heap.objs.size ≤ cenv.locals; rw [hL]; exact Nat.le_refl _,
      fun y z c e1 e2 => ?_, fun y hy => ?_, fun y c z e => ?_, I.ok.hd, I.ok.frames, .inl rfl, fun b hb => ⟨?_, fun y c e z => ?_⟩, I.bs, Nat.le_trans I.ok.bsz I.sz, fun b o e hb => ?_, fun b hb z => ?_, I.stack, I.stkFree⟩
    · have e1 : cenv.cells.lookup y = some c := e1
      have e2 : cenv.cells.lookup z = some c := e2
      rw [hcl] at e1 e2
      refine cells_inj (fun p hp => ?_) (fun y z c a b => I.ok.inj y z c (cm a).1 (cm b).1) (PySem.mem_of_lookup e1) (PySem.mem_of_lookup e2)
      rw [Heap.size_push]
      exact Nat.lt_succ_of_lt (cm (y := p.1) (c := p.2) hp).2
    · show ∃ c, cenv.cells.lookup y = some c
      have key : ∀ k, cenv.kindOf y = some k → (k = .cell ∨ k = .free) → ∃ c, cenv.cells.lookup y = some c := fun k hk hk' => by
        unfold Env.kindOf at hk
        rw [hsc] at hk
        obtain ⟨k', e, r⟩ := lookup_relS hk
        have : k' = .cell ∨ k' = .free := by
          rcases r with rfl | ⟨rfl, _⟩
          · exact hk'
          · exact .inr rfl
        rcases this with rfl | rfl
        · obtain ⟨c, hm⟩ := cells_has (n := (s.heap.push { cls := .type "dict", data := .dict #[] }).objs.size) (acc := cloFrom X.env.cells scope.names []) (PySem.mem_of_lookup e)
          obtain ⟨c', e'⟩ := mem_lookup hm
          exact ⟨c', by rw [hcl]; exact e'⟩
        · obtain ⟨c, h1, _⟩ := look e
          exact ⟨c, h1⟩
      rcases hy with hy | hy
      · exact key _ hy (.inl rfl)
      · exact key _ hy (.inr rfl)
    · have z : (scope.names.lookup y == some NameKind.cell) = true := z
      have z : scope.names.lookup y = some .cell := by simpa using z
      have e : cenv.cells.lookup y = some c := e
      rw [hcl] at e
      rcases cells_mem (PySem.mem_of_lookup e) with hm | ⟨_, h2, _⟩
      · rcases cloFrom_mem hm with hm | ⟨h1, _⟩
        · cases hm
        · have q := ok.uniq _ h1
          rw [z] at q; cases q
      · rw [Heap.size_push] at h2
        exact Nat.le_of_succ_le h2
    · show b ≠ cenv.locals
      rw [hL]; exact Nat.ne_of_lt (hfp b hb).2
    · have e : cenv.cells.lookup y = some c := e
      rcases mem e with ⟨h1, _⟩ | ⟨h1, _⟩
      · exact (hfp b hb).1.2.2.2.2.1 y c h1 z
      · have h2 : s.heap.objs.size + 1 ≤ b := by rw [← z]; exact h1
        exact absurd (Nat.lt_of_lt_of_le (hfp b hb).2 (Nat.le_of_succ_le h2)) (Nat.lt_irrefl _)
    · rcases (hfp b hb).1.2.2.2.1 with z | z
      · exact I.ok.noex b o e z
      · exact absurd (Nat.lt_of_lt_of_le (Heap.lt_size e) (Nat.le_trans I.ok.bsz z)) (Nat.lt_irrefl _)
    · rcases List.mem_cons.mp (I.stkSub b z) with z | z
      · exact (hfp b hb).1.2.1 z
      · exact (hfp b hb).1.2.2.1 z
  refine ⟨okB, rfl, I.bare, Un.kept kp, ⟨fun _ => none, ?_, fun i y av e1 e2 e3 => ?_⟩, fun y c e => ?_, ?_, fun y c e => ?_, fun p hp => ?_, I.hok.kept kp, by rw [wipe_length]; exact I.len⟩
  · show Heap.Ns _ cenv.locals _
    rw [hL]
    exact Heap.Ns.keeps (Heap.Ns.new ..) fun b o e => pushCells_keeps _ _ _ _ e
  · obtain ⟨e2, hne⟩ := wipe_some e2
    have hfr : scope.names.lookup y = some .free ∧ (cenv.kindOf y = some .cell ∨ cenv.kindOf y = some .free) := by
      have key : ∀ k, cenv.scope.names.lookup y = some k → k = .local ∨ k = .cell ∨ k = .free → scope.names.lookup y = some .free ∧ (cenv.kindOf y = some .cell ∨ cenv.kindOf y = some .free) := fun k hk hk' => by
        have hk0 := hk
        rw [hsc] at hk
        obtain ⟨k', e, r⟩ := lookup_relS hk
        have no : ¬ (k' = .local ∨ k' = .cell) := fun hh => by
          rcases ok.own _ (PySem.mem_of_lookup e) hh with e' | e'
          · obtain ⟨p, hp, hpy⟩ := List.mem_map.mp e'
            have e3 := ok.ix p hp
            have : p.1 = y := hpy
            rw [this] at e3
            exact hne (List.mem_map.mpr ⟨p, hp, nodup_ix hN e3 e1⟩)
          · exact e' (List.mem_of_getElem? e1)
        rcases r with rfl | ⟨rfl, rfl⟩
        · rcases hk' with rfl | rfl | rfl
          · exact absurd (.inl rfl) no
          · exact absurd (.inr rfl) no
          · exact ⟨e, .inr hk0⟩
        · exact ⟨e, .inl hk0⟩
      have e3 : Vis cenv.scope y := e3
      rcases e3 with e3 | e3 | e3
      · exact key _ e3 (.inl rfl)
      · exact key _ e3 (.inr (.inl rfl))
      · exact key _ e3 (.inr (.inr rfl))
    obtain ⟨m, hn, hl⟩ := I.loc
    have hvis : Vis X.env.scope y := (ok.free _ (PySem.mem_of_lookup hfr.1) rfl).elim (fun k => .inr (.inl k)) (fun k => .inr (.inr k))
    obtain ⟨w, r, q⟩ := hl i y av e1 e2 hvis
    refine ⟨w, r, .inr ⟨hfr.2, ?_⟩⟩
    obtain ⟨c, h1, h2⟩ := look hfr.1
    rcases q with ⟨k, _⟩ | ⟨_, c', e', z⟩
    · have k : X.env.scope.names.lookup y = some .local := k
      rcases ok.free _ (PySem.mem_of_lookup hfr.1) rfl with k' | k' <;> rw [show X.env.scope.names.lookup y = _ from k'] at k <;> cases k
    · rw [h2] at e'; cases e'
      exact ⟨c, h1, z.keeps kp⟩
  · have e : cenv.cells.lookup y = some c := e
    rcases mem e with ⟨h1, _⟩ | ⟨_, z⟩
    · obtain ⟨w, z⟩ := I.cell y c h1
      exact ⟨w, z.keeps kp⟩
    · exact ⟨_, z⟩
  · show H cenv.locals = none
    rw [hL]; exact I.hok.fresh (Nat.le_refl _)
  · have e : cenv.cells.lookup y = some c := e
    rcases mem e with ⟨h1, _⟩ | ⟨h1, _⟩
    · exact I.freeC y c h1
    · exact I.hok.fresh (Nat.le_of_succ_le h1)
  · exact absurd (show p ∈ ([] : List (Addr × Obj)) ++ [] from hp) (by simp)
theorem app_ok {E : Value → Shared → Prop} {D : Addr} {xs : List V} {y : V} {v : Value} {Q : Value → Shared → Prop} (I : Inv X pins σ H s) (hD : H D = some (.lst xs)) (hz : xs.length < sizeLine) (r : RelV y v)
    (h : ∀ s', Inv X pins σ (upd H D (.lst (xs ++ [y]))) s' → Q .none s') : wpAny (model X.prog X.w) X.A (call (.builtin "list.append") [.ref D, v]) Q E s := by
  obtain ⟨hz', its, n, ri, e⟩ := I.hok D _ hD
  have hl := ri.length
  refine append_at (hsz := by rw [List.size_toArray]; omega) e fun h' sb ho' => ?_
  refine h { s with heap := h' } (I.write (t' := s.toks) (by rw [hD]; trivial) (.inl rfl) (fun b u hb q => (sb.2 b hb).trans q) ⟨_, ho'⟩ ⟨by rw [List.length_append]; exact hz, its ++ [v], n + 1, ri.append (.cons r .nil), ?_⟩)
  rw [ho']
  simp
def PTs (X : Cx) (ifs : List Expr) (t : TT) : Prop :=
  ∀ (pins : List (Addr × Obj)) (s : Shared) (σ : St) (H : Hp) (Q : Bool → Hp → Prop), Inv X pins σ H s → t σ H Q →
    wpAny (model X.prog X.w) X.A (forIn ifs true fun c r => if r = true then do let ok ← isTrue c X.env (eval c X.env); pure (ForInStep.yield ok) else pure (ForInStep.yield r)) (TP X pins σ Q) X.xe s
def tYes : TT := fun _ H Q => Q true H
theorem pts_nil : PTs X [] tYes := fun _ _ _ H _ I h => wpAny_tests_nil ⟨H, I, h⟩
theorem pts_one {c : Expr} {t : TT} (h : PT X c t) : PTs X [c] t := fun pins s σ H Q I hw => wpAny_tests_one (h pins s σ H Q I hw)
end
theorem thnF {α : Type} {t : Sem α} {Q Q' : α → Shared → Prop} {M : Model} {A : Around} {E : Value → Shared → Prop} {s : Shared} (h : wpAny M A t Q (fun _ _ => False) s) (hQ : ∀ a s, Q a s → Q' a s) : wpAny M A t Q' E s := wpAny_mono h hQ fun _ _ z => False.elim z
theorem compLoop_any {prog : Program} {w : World} {A : Around} {R : Result → Shared → Prop} {s : Shared} {elt target iter : Expr} {ifs : List Expr} {scope : Scope} {pos : Pos} {it acc : Value} {env : Env} (I : Nat → Shared → Prop)
    (turn : ∀ n s, I n s → wpAny (model prog w) A (pyNext it) (fun r s₁ => match r with
      | none => R (.ok .next) s₁
      | some v => wpAny (model prog w) A (letOwnedTupleGo target it v) (fun _ s₁' => wpAny (model prog w) A (assign target env v) (fun _ s₂ =>
          wpAny (model prog w) A (forIn ifs true fun c r => if r = true then do let ok ← isTrue c env (eval c env); pure (ForInStep.yield ok) else pure (ForInStep.yield r)) (fun ok s₃ =>
            if ok = true then wpAny (model prog w) A (eval elt env) (fun x s₄ =>
              wpAny (model prog w) A (call (.builtin "list.append") [acc, x]) (fun _ s₅ => ∃ m, m < n ∧ I m s₅) (notedBy (model prog w) A env fun e s' => R (.error e) s') s₄) (notedBy (model prog w) A env fun e s' => R (.error e) s') s₃
            else ∃ m, m < n ∧ I m s₃) (notedBy (model prog w) A env fun e s' => R (.error e) s') s₂) (notedBy (model prog w) A env fun e s' => R (.error e) s') s₁') (notedBy (model prog w) A env fun e s' => R (.error e) s') s₁) (notedBy (model prog w) A env fun e s' => R (.error e) s') s)
    (n : Nat) (h : I n s) :
    codeAny (model prog w) A (.compLoop (.ListComp elt [⟨target, iter, ifs, 0⟩] scope pos) 0 it acc env) R s := by
  refine codeAny_loop rfl I (fun n s hI => ?_) n h
  show wpAny _ A ((compTurn (.ListComp elt [⟨target, iter, ifs, 0⟩] scope pos) 0 it acc env).onRaise (fun x => do noteFrame x env; theTreesLotGoes x)) _ _ s
  refine wpAny_noted ?_
  rw [compTurn_list]
  refine wpAny_bind (wpAny_standAt (wpAny_bind (wpAny_mono (turn n s hI) (fun r s₁ h₁ => ?_) fun _ _ h' => h')))
  cases r with
  | none => exact wpAny_pure h₁
  | some v =>
    refine wpAny_bind (wpAny_mono h₁ (fun _ s₁' h₁' => ?_) fun _ _ h' => h')
    refine wpAny_bind (wpAny_mono h₁' (fun _ s₂ h₂ => wpAny_bind (wpAny_mono h₂ (fun ok s₃ h₃ => ?_) fun _ _ h' => h')) fun _ _ h' => h')
    cases ok with
    | false => exact wpAny_pure ⟨rfl, h₃⟩
    | true =>
      exact wpAny_bind (wpAny_bind (wpAny_mono h₃ (fun x s₄ h₄ => wpAny_bind (wpAny_mono h₄ (fun _ s₅ h₅ => wpAny_pure (wpAny_pure ⟨rfl, h₅⟩)) fun _ _ h' => h')) fun _ _ h' => h'))
section
variable {X : Cx}
def tLc (wi : TI) (g : TG) (tt : TT) (te : TE) (vs : List Nat) : TE := fun σ H Q => wi σ H fun J H1 => ∀ D, H1 D = none → ∃ W : Nat → Nat → Hp → Prop, (∃ m, W 0 m (upd H1 D (.lst []))) ∧ ∀ i m H, W i m H →
  (J.stop i H ∧ Q (.ref D) H) ∨ (J.go i H ∧ ∃ Nx : Hp → Prop, (∀ H', Nx H' → ∃ m', m' < m ∧ W (i + 1) m' H') ∧ ∀ x H', J.yld i H x H' → g x (wipe σ vs) H' fun σ2 H2 => wipe σ2 vs = wipe σ vs ∧ tt σ2 H2 fun b H3 =>
    if b = true then te σ2 H3 fun y H4 => ∃ acc, H4 D = some (.lst acc) ∧ acc.length < sizeLine ∧ Nx (upd H4 D (.lst (acc ++ [y]))) else Nx H3)
theorem lc_core {pins : List (Addr × Obj)} {s : Shared} {σ : St} {H : Hp} {Q : VK} {elt tg iter : Expr} {ifs : List Expr} {scope : Scope} {own : List (Str × Nat)} {pos pos' : Pos} {wi : TI} {g : TG} {tt : TT} {te : TE} {use : Option (Value → Sem Unit)} {Qf : Value → Shared → Prop}
    (hc : X.calm = true) (hN : X.N.Nodup) (I : Inv X pins σ H s) (hi : PI X tg iter wi) (ok : BlkOk X.N X.env.scope scope own)
    (hg : ∀ (s : Shared) (H : Hp) (C : Addr) (cl : List (Str × Addr)) (fp : List Addr), PG (X.blk s H scope (compEnvC scope cl C X.env) fp) tg g) (ht : ∀ (s : Shared) (H : Hp) (C : Addr) (cl : List (Str × Addr)) (fp : List Addr), PTs (X.blk s H scope (compEnvC scope cl C X.env) fp) ifs tt)
    (he : ∀ (s : Shared) (H : Hp) (C : Addr) (cl : List (Str × Addr)) (fp : List Addr), PE (X.blk s H scope (compEnvC scope cl C X.env) fp) elt te) (hs : ∀ x, foldedSetIterable iter X.env x = pure x)
    (h : tLc wi g tt te (own.map (·.2)) σ H Q)
    (hRR : ∀ D C s' m H', Inv X pins σ H' s' → Q (.ref D) H' → s'.heap.Ns C m → FpOk X pins H' C → compPost (model X.prog X.w) X.A X.xe use Qf (.ref D) C (.ok .next) s') :
    wpAny (model X.prog X.w) X.A (comprehension (.ListComp elt [⟨tg, iter, ifs, 0⟩] scope pos) scope X.env pos' (newList []) false (eval iter X.env) use) Qf X.xe s := by
  have hfree : ∀ y ∈ scope.names, y.2 = .free → ∃ c, X.env.cells.lookup y.1 = some c := fun y hy e => by
    rcases ok.free y hy e with k | k
    · exact I.ok.has _ (.inl k)
    · exact I.ok.has _ (.inr k)
  refine wpAny_comprehension_free (use := use) rfl hs (closure_ok hfree) ok.kind (fun y hy e => by rw [ok.uniq y hy, e])
    (thn (hi pins s σ H _ I h) fun xv s1 hx => thn hx fun itv s2 h2 => ?_)
  obtain ⟨it, fp, tn, J, H2, e, I2, T, st2, f2, q⟩ := h2
  subst e
  refine wpAny_newObj_type (newEnv_comp ?_) (by show 0 ≤ sizeLine; decide)
  generalize hD : s2.heap.objs.size = D
  have hDn : H2 D = none := I2.hok.fresh (Nat.le_of_eq hD)
  obtain ⟨W, ⟨m0, w0⟩, turn⟩ := q D hDn
  -- the new list
  generalize hs3 : ({ s2 with heap := s2.heap.push { cls := .type "list", data := .seq ([] : List Value).toArray } } : Shared) = s3
  have I3 : Inv X pins σ (upd H2 D (.lst [])) s3 := by
    rw [← hs3]
    refine I2.laid (t' := s2.toks) (fun b o e => Heap.get?_push_of_some _ e) (Nat.le_of_eq hD) ⟨Nat.zero_le _, [], 0, .nil, ?_⟩
    rw [← hD]
    exact Heap.get?_push_size _ rfl
  have h3 : s3.heap = s2.heap.push { cls := .type "list", data := .seq ([] : List Value).toArray } := by rw [← hs3]
  have sz : ∀ b ∈ fp, b < s2.heap.objs.size := fun b hb => by
    obtain ⟨o, e, _⟩ := T.obj _ _ st2 b hb
    exact Heap.lt_size e
  have f3 : ∀ b ∈ fp, FpOk X pins (upd H2 D (.lst [])) b ∧ b < s3.heap.objs.size := fun b hb => by
    have hlt := sz b hb
    refine ⟨⟨?_, (f2 b hb).2⟩, by rw [h3, Heap.size_push]; exact Nat.lt_succ_of_lt hlt⟩
    rw [upd_ne (by rw [← hD]; exact Nat.ne_of_lt hlt)]
    exact (f2 b hb).1
  have st3 : tn 0 s3.heap := T.keep _ _ _ st2 fun b _ o e => by rw [h3]; exact Heap.get?_push_of_some _ e
  have I4 := block_start I3 ok hN f3
  have pg := hg s3 (upd H2 D (.lst [])) s3.heap.objs.size (cellsFrom (s3.heap.objs.size + 1) scope.names (cloFrom X.env.cells scope.names [])) fp
  have pt := ht s3 (upd H2 D (.lst [])) s3.heap.objs.size (cellsFrom (s3.heap.objs.size + 1) scope.names (cloFrom X.env.cells scope.names [])) fp
  have pe := he s3 (upd H2 D (.lst [])) s3.heap.objs.size (cellsFrom (s3.heap.objs.size + 1) scope.names (cloFrom X.env.cells scope.names [])) fp
  show codeAny _ _ (.compStart (.ListComp elt [⟨tg, iter, ifs, 0⟩] scope pos) 0 (.ref it) (.ref D) (compEnvC scope (cellsFrom (s3.heap.objs.size + 1) scope.names (cloFrom X.env.cells scope.names [])) s3.heap.objs.size X.env)) (compPost (model X.prog X.w) X.A X.xe use Qf (.ref D) s3.heap.objs.size) { s3 with heap := pushCells (s3.heap.push { cls := .type "dict", data := .dict #[] }) scope.names }
  have nfp : ∀ b ∈ fp, (upd H2 D (.lst [])) b = none := fun b hb => (f3 b hb).1.1
  generalize hce : compEnvC scope (cellsFrom (s3.heap.objs.size + 1) scope.names (cloFrom X.env.cells scope.names [])) s3.heap.objs.size X.env = ce at I4 pg pt pe ⊢
  have cL : ce.locals = s3.heap.objs.size := by subst hce; rfl
  generalize hH3 : upd H2 D (.lst []) = H3 at I3 I4 pg pt pe w0 nfp f3
  generalize hs4 : ({ s3 with heap := pushCells (s3.heap.push { cls := .type "dict", data := .dict #[] }) scope.names } : Shared) = s4 at I4 ⊢
  have st4 : tn 0 s4.heap := T.keep _ _ _ st3 fun b _ o e => by rw [← hs4]; exact pushCells_keeps _ _ _ _ (Heap.get?_push_of_some _ e)
  have stat : ∀ {σ' : St} {H' : Hp} {s' : Shared}, Inv (X.blk s3 H3 scope ce fp) [] σ' H' s' → (∀ b ∈ fp, H' b = none) → ∀ b ∈ fp, FpOk (X.blk s3 H3 scope ce fp) [] H' b := fun {σ' H' s'} I' hn b hb =>
    ⟨hn b hb, (I'.ok.exf b hb).1, I'.ok.exfs b hb, .inl hb, fun x c e => (I'.ok.exf b hb).2 x c e, fun p hp => absurd (show p ∈ ([] : List (Addr × Obj)) ++ [] from hp) (by simp)⟩
  have loop : codeAny (model X.prog X.w) X.A (.compLoop (.ListComp elt [⟨tg, iter, ifs, 0⟩] scope pos) 0 (.ref it) (.ref D) ce) (compPost (model X.prog X.w) X.A X.xe use Qf (.ref D) s3.heap.objs.size) s4 := by
    refine compLoop_any (fun n s' => ∃ i H', Inv (X.blk s3 H3 scope ce fp) [] (wipe σ (own.map (·.2))) H' s' ∧ tn i s'.heap ∧ (∀ b ∈ fp, H' b = none) ∧ W i n H') ?_ m0 ⟨0, H3, I4, st4, nfp, w0⟩
    rintro n s5 ⟨i, H5, I5, st5, n5, w5⟩
    rcases turn i n H5 w5 with ⟨stop, qq⟩ | ⟨go, Nx, hNx, step⟩
    · have td := T.done (X.blk s3 H3 scope ce fp) rfl rfl rfl hc i [] s5 _ H5 (fun _ _ => False) I5 (stat I5 n5) st5 stop
      refine thnF td fun r s6 ⟨hr, I6⟩ => ?_
      subst hr
      -- back in the def's context
      have I7 : Inv X pins σ H5 s6 := I3.call' (ch := fp) I6.os I6.base I6.hok I6.bare fun b hb => ⟨(f3 b hb).1.2.2.2.1, (f3 b hb).1.2.1, (f3 b hb).1.2.2.2.2.1, (f3 b hb).1.2.2.2.2.2⟩
      have nC : H5 s3.heap.objs.size = none := by
        have z : H5 ce.locals = none := I6.free
        rw [cL] at z
        exact z
      obtain ⟨m, hn, _⟩ := I6.loc
      have hn : s6.heap.Ns ce.locals m := hn
      rw [cL] at hn
      exact hRR D s3.heap.objs.size s6 m H5 I7 qq hn (I3.fpOk (Nat.le_refl _) nC)
    · have ti := T.item (X.blk s3 H3 scope ce fp) rfl rfl rfl hc i [] s5 _ H5 (fun _ _ => False) I5 (stat I5 n5) st5 go
      refine thnF ti fun r s6 ⟨u, hr, h6⟩ => ?_
      subst hr
      refine thnF h6 fun _ s7 ⟨x, H7, I7, r7, y7, st7, n7⟩ => ?_
      have I7' := I7.pinned (stat I7 n7) (T.obj _ _ st7)
      refine thnF (pg _ s7 _ H7 x u _ I7' r7 (step x H7 y7)) fun _ s8 ⟨σ8, H8, I8, hw8, q8⟩ => ?_
      refine thnF (pt _ s8 σ8 H8 _ I8 q8) fun b s9 ⟨H9, I9, q9⟩ => ?_
      -- the turn's end
      have fin : ∀ {s' : Shared} {H' : Hp}, Inv (X.blk s3 H3 scope ce fp) ([] ++ pinsAt fp s7.heap) σ8 H' s' → Nx H' → ∃ m, m < n ∧ ∃ i H', Inv (X.blk s3 H3 scope ce fp) [] (wipe σ (own.map (·.2))) H' s' ∧ tn i s'.heap ∧ (∀ b ∈ fp, H' b = none) ∧ W i m H' := fun {s' H'} I' nx => by
        obtain ⟨m', hm, w'⟩ := hNx H' nx
        have pin' : ∀ b ∈ fp, ∀ o, s7.heap.get? b = some o → s'.heap.get? b = some o ∧ H' b = none := fun b hb o e =>
          let z := I'.pin (b, o) (List.mem_append_right _ (List.mem_append_right _ (mem_pinsAt hb e)))
          ⟨z.1, z.2.1⟩
        have hl : (wipe σ (own.map (·.2))).length = σ8.length := by rw [← hw8, wipe_length]
        refine ⟨m', hm, i + 1, H', (I'.unpinned (pins := [])).weak hl (fun j v e => ?_), T.keep _ _ _ st7 fun b hb o e => (pin' b hb o e).1, fun b hb => ?_, w'⟩
        · rw [← hw8] at e
          exact (wipe_some e).1
        · obtain ⟨o, e, _⟩ := T.obj _ _ st7 b hb
          exact (pin' b hb o e).2
      cases b with
      | false =>
        simp only [Bool.false_eq_true, if_false] at q9 ⊢
        exact fin I9 q9
      | true =>
        simp only [if_true] at q9 ⊢
        refine thnF (pe _ s9 σ8 H9 _ I9 q9) fun z s10 ⟨yv, H10, I10, r10, acc, hD10, hz10, nx⟩ => ?_
        exact app_ok (X := X.blk s3 H3 scope ce fp) I10 hD10 hz10 r10 fun s11 I11 => fin I11 nx
  exact codeAny_compStart_list loop (T.self X.A 0 _ _ _ st4 loop)
theorem pe_lc {elt tg iter : Expr} {ifs : List Expr} {scope : Scope} {own : List (Str × Nat)} {pos : Pos} {wi : TI} {g : TG} {tt : TT} {te : TE} (hc : X.calm = true) (hN : X.N.Nodup) (hi : PI X tg iter wi) (ok : BlkOk X.N X.env.scope scope own)
    (hg : ∀ (s : Shared) (H : Hp) (C : Addr) (cl : List (Str × Addr)) (fp : List Addr), PG (X.blk s H scope (compEnvC scope cl C X.env) fp) tg g) (ht : ∀ (s : Shared) (H : Hp) (C : Addr) (cl : List (Str × Addr)) (fp : List Addr), PTs (X.blk s H scope (compEnvC scope cl C X.env) fp) ifs tt)
    (he : ∀ (s : Shared) (H : Hp) (C : Addr) (cl : List (Str × Addr)) (fp : List Addr), PE (X.blk s H scope (compEnvC scope cl C X.env) fp) elt te) (hs : ∀ x, foldedSetIterable iter X.env x = pure x := by intro _; rfl) :
    PE X (.ListComp elt [⟨tg, iter, ifs, 0⟩] scope pos) (tLc wi g tt te (own.map (·.2))) := by
  intro pins s σ H Q I h
  rw [eval_ListComp]
  refine lc_core hc hN I hi ok hg ht he hs h fun D C s' m H' I' q hn f => ⟨m, hn, fun h'' sb => ?_⟩
  obtain ⟨f0, f1, f2, f3, f4, f5⟩ := f
  exact ⟨.ref D, H', I'.turned (t' := s'.toks) (fun b o hb e => (sb.2 b hb).trans e) f0 f1 f3 f4 f5, rfl, q⟩
theorem ps_setLc {i : Nat} {y : Str} {py : Pos} {elt tg iter : Expr} {ifs : List Expr} {scope : Scope} {own : List (Str × Nat)} {pos spos : Pos} {wi : TI} {g : TG} {tt : TT} {te : TE} (hc : X.calm = true) (hN : X.N.Nodup) (hy : X.N[i]? = some y) (hyl : X.env.scope.names.lookup y = some .local)
    (hsw : swapsWith (.ListComp elt [⟨tg, iter, ifs, 0⟩] scope pos) (some (.Name y py)) spos.line X.env = pure true) (hi : PI X tg iter wi) (ok : BlkOk X.N X.env.scope scope own)
    (hg : ∀ (s : Shared) (H : Hp) (C : Addr) (cl : List (Str × Addr)) (fp : List Addr), PG (X.blk s H scope (compEnvC scope cl C X.env) fp) tg g) (ht : ∀ (s : Shared) (H : Hp) (C : Addr) (cl : List (Str × Addr)) (fp : List Addr), PTs (X.blk s H scope (compEnvC scope cl C X.env) fp) ifs tt)
    (he : ∀ (s : Shared) (H : Hp) (C : Addr) (cl : List (Str × Addr)) (fp : List Addr), PE (X.blk s H scope (compEnvC scope cl C X.env) fp) elt te) (hs : ∀ x, foldedSetIterable iter X.env x = pure x := by intro _; rfl) :
    PS X (.Assign [.Name y py] (.ListComp elt [⟨tg, iter, ifs, 0⟩] scope pos) spos) (tAsg (tLc wi g tt te (own.map (·.2))) (gName i)) := by
  intro pins s σ H D I h
  rw [exec_Assign_Name_used _ _ _ _ hsw]
  refine wpAny_bind (wpAny_standAt (wpAny_bind ?_))
  show wpAny _ X.A (do let _ ← comprehension (.ListComp elt [⟨tg, iter, ifs, 0⟩] scope pos) scope X.env (firstIterPos [⟨tg, iter, ifs, 0⟩] pos) (newList []) false (eval iter X.env) (some (assign (.Name y py) X.env))) _ _ s
  have h : tLc wi g tt te (own.map (·.2)) σ H (fun x H1 => gName i x σ H1 D.nx) := h
  refine wpAny_bind (thn (lc_core (Qf := fun _ s' => SP X pins D .next s') hc hN I hi ok hg ht he hs h fun L C s' m H' I' q hn f => ?_) fun _ s' hq => wpAny_pure (wpAny_pure hq))
  show wpAny _ _ (assign (.Name y py) X.env (.ref L)) _ _ _
  refine wpAny_assign_Name (store_ok2 (v := V.ref L) I' hN hy (.inl hyl) rfl (fun s2 I2 ⟨a, sb, ha⟩ => ?_) (.inr hyl))
  obtain ⟨f0, f1, f2, f3, f4, f5⟩ := f
  have haC : C ≠ a := by
    rcases ha with z | z
    · rw [z]; exact f1
    · exact fun e => f4 y a z e.symm
  refine ⟨m, hn.sameBut sb haC, fun h3 sb3 => ?_⟩
  exact ⟨_, H', I2.turned (t' := s2.toks) (fun b o hb e => (sb3.2 b hb).trans e) f0 f1 f3 f4 f5, q⟩
theorem sw_true {elt : Expr} {gs : List Comprehension} {scope : Scope} {pos py : Pos} {y : Str} {l : Nat} {env : Env} (hk : env.scope.kind = .function) (hy : env.scope.names.lookup y = some .local) (hl : (py.line == pos.line) = true)
    (ha : (scope.names.any fun (n, k) => n == y && (k == .local || k == .cell)) = false) : swapsWith (.ListComp elt gs scope pos) (some (.Name y py)) l env = pure true := by
  have ky : env.kindOf y = some .local := hy
  have hb : env.blockKind = .function := by unfold Env.blockKind; rw [hk]; rfl
  unfold swapsWith
  simp only [hb, ky, ha, Expr.pos, hl]
  rfl
end
theorem lc_range {lo : Int} {n : Nat} {g : TG} {tt : TT} {te : TE} {vs : List Nat} {σ : St} {H1 : Hp} {D : Addr} {Qd : Hp → Prop} (Pv : Nat → Hp → Prop) (h0 : Pv 0 (upd H1 D (.lst [])))
    (hs : ∀ i H, i < n → Pv i H → g (.int (lo + i)) (wipe σ vs) H fun σ2 H2 => wipe σ2 vs = wipe σ vs ∧ tt σ2 H2 fun b H3 =>
      if b = true then te σ2 H3 fun y H4 => ∃ acc, H4 D = some (.lst acc) ∧ acc.length < sizeLine ∧ Pv (i + 1) (upd H4 D (.lst (acc ++ [y]))) else Pv (i + 1) H3) (hd : ∀ H, Pv n H → Qd H) :
    ∃ W : Nat → Nat → Hp → Prop, (∃ m, W 0 m (upd H1 D (.lst []))) ∧ ∀ i m H, W i m H →
      ((Itr lo n).stop i H ∧ Qd H) ∨ ((Itr lo n).go i H ∧ ∃ Nx : Hp → Prop, (∀ H', Nx H' → ∃ m', m' < m ∧ W (i + 1) m' H') ∧ ∀ x H', (Itr lo n).yld i H x H' → g x (wipe σ vs) H' fun σ2 H2 => wipe σ2 vs = wipe σ vs ∧ tt σ2 H2 fun b H3 =>
        if b = true then te σ2 H3 fun y H4 => ∃ acc, H4 D = some (.lst acc) ∧ acc.length < sizeLine ∧ Nx (upd H4 D (.lst (acc ++ [y]))) else Nx H3) := by
  refine ⟨fun i m H => m = n - i ∧ i ≤ n ∧ Pv i H, ⟨n, by simp, Nat.zero_le _, h0⟩, ?_⟩
  rintro i m H ⟨rfl, hi, p⟩
  by_cases hlt : i < n
  · refine .inr ⟨hlt, Pv (i + 1), fun H' p' => ⟨n - (i + 1), by omega, rfl, hlt, p'⟩, fun x H' y => ?_⟩
    obtain ⟨e, y⟩ := y
    subst e y
    exact hs i _ hlt p
  · have e : i = n := by omega
    subst e
    exact .inl ⟨Nat.le_refl _, hd H p⟩
theorem lc_list {K : PySem.W.Frag} {a : Addr} {xs : List V} {g : TG} {tt : TT} {te : TE} {vs : List Nat} {σ : St} {H1 : Hp} {D : Addr} {Qd : Hp → Prop} (Pv : Nat → Hp → Prop) (h0 : Pv 0 (upd H1 D (.lst []))) (hl : ∀ i H, i ≤ xs.length → Pv i H → SqL K H a xs)
    (hs : ∀ i x H, xs[i]? = some x → Pv i H → g x (wipe σ vs) H fun σ2 H2 => wipe σ2 vs = wipe σ vs ∧ tt σ2 H2 fun b H3 =>
      if b = true then te σ2 H3 fun y H4 => ∃ acc, H4 D = some (.lst acc) ∧ acc.length < sizeLine ∧ Pv (i + 1) (upd H4 D (.lst (acc ++ [y]))) else Pv (i + 1) H3) (hd : ∀ H, Pv xs.length H → Qd H) :
    ∃ W : Nat → Nat → Hp → Prop, (∃ m, W 0 m (upd H1 D (.lst []))) ∧ ∀ i m H, W i m H →
      ((Itl K a).stop i H ∧ Qd H) ∨ ((Itl K a).go i H ∧ ∃ Nx : Hp → Prop, (∀ H', Nx H' → ∃ m', m' < m ∧ W (i + 1) m' H') ∧ ∀ x H', (Itl K a).yld i H x H' → g x (wipe σ vs) H' fun σ2 H2 => wipe σ2 vs = wipe σ vs ∧ tt σ2 H2 fun b H3 =>
        if b = true then te σ2 H3 fun y H4 => ∃ acc, H4 D = some (.lst acc) ∧ acc.length < sizeLine ∧ Nx (upd H4 D (.lst (acc ++ [y]))) else Nx H3) := by
  refine ⟨fun i m H => m = xs.length - i ∧ i ≤ xs.length ∧ Pv i H, ⟨xs.length, by simp, Nat.zero_le _, h0⟩, ?_⟩
  rintro i m H ⟨rfl, hi, p⟩
  have q := hl i H hi p
  by_cases hlt : i < xs.length
  · refine .inr ⟨⟨xs, xs[i], q, by simp [hlt]⟩, Pv (i + 1), fun H' p' => ⟨xs.length - (i + 1), by omega, rfl, hlt, p'⟩, fun x H' y => ?_⟩
    obtain ⟨e, y⟩ := y
    subst e
    exact hs i x _ (y xs q) p
  · have e : i = xs.length := by omega
    subst e
    exact .inl ⟨⟨xs, q, Nat.le_refl _⟩, hd H p⟩
def blkC (N : List Str) (sc scope : Scope) (own : List (Str × Nat)) : Bool :=
  (match scope.kind with | .function => true | _ => false) && (scope.names.all fun y => decide (scope.names.lookup y.1 = some y.2)) && (own.all fun p => decide (N[p.2]? = some p.1)) &&
    (scope.names.all fun y => match y.2 with
      | .free => (match sc.names.lookup y.1 with | some .cell => true | some .free => true | _ => false)
      | .local => decide (y.1 ∈ own.map (·.1)) || decide (y.1 ∉ N)
      | .cell => decide (y.1 ∈ own.map (·.1)) || decide (y.1 ∉ N)
      | _ => true)
theorem blkOk_by {N : List Str} {sc scope : Scope} {own : List (Str × Nat)} (h : blkC N sc scope own = true) : BlkOk N sc scope own := by
  unfold blkC at h
  simp only [Bool.and_eq_true, List.all_eq_true, decide_eq_true_eq] at h
  obtain ⟨⟨⟨h1, h2⟩, h3⟩, h4⟩ := h
  refine ⟨?_, h2, h3, fun y hy e => ?_, fun y hy e => ?_⟩
  · split at h1
    · assumption
    · cases h1
  · have q := h4 y hy
    simp only [e] at q
    split at q <;> first | exact .inl (by assumption) | exact .inr (by assumption) | cases q
  · have q := h4 y hy
    rcases e with e | e <;> (simp only [e, Bool.or_eq_true, decide_eq_true_eq] at q; exact q)
end L2
namespace L2
open PySem PySem.Spec PyProof.Rows
section
variable {prog : Program} {w : World} {A : Around} {R : Result → Shared → Prop} {s : Shared} {elt t0 i0 t1 i1 : Expr} {ifs0 ifs1 : List Expr} {scope : Scope} {pos : Pos} {it acc : Value} {env : Env}
end
section
variable {X : Cx}
end
end L2
namespace L2
open PySem PySem.Spec PyProof.Rows
section
variable {κ : Type} [DecidableEq κ]
def valV (kvs : List (κ × V)) (k : κ) : Option V := (kvs.find? fun kv => decide (kv.1 = k)).map (·.2)
def putK (kvs : List (κ × V)) (k : κ) (v : V) : List (κ × V) :=
  if (kvs.any fun kv => decide (kv.1 = k)) = true then kvs.map (fun kv => if kv.1 = k then (kv.1, v) else kv) else kvs ++ [(k, v)]
def dropK (kvs : List (κ × V)) (k : κ) : List (κ × V) := kvs.filter fun kv => decide (kv.1 ≠ k)
theorem valV_pos {p : κ × V} {r : List (κ × V)} {k : κ} (e : p.1 = k) : valV (p :: r) k = some p.2 := by simp [valV, List.find?_cons, e]
theorem valV_neg {p : κ × V} {r : List (κ × V)} {k : κ} (e : ¬ p.1 = k) : valV (p :: r) k = valV r k := by simp [valV, List.find?_cons, e]
theorem RelO.getD {o : Option V} {u : Option Value} {d : V} {d' : Value} (r : RelO o u) (rd : RelV d d') : RelV (o.getD d) (u.getD d') := by
  cases o with
  | none => cases u with
    | none => exact rd
    | some _ => exact (show False from r).elim
  | some _ => cases u with
    | none => exact (show False from r).elim
    | some _ => exact r
theorem KV.val {kvs : List (κ × V)} {vs : List (κ × Value)} (r : KV kvs vs) (k : κ) : RelO (valV kvs k) (valueAt vs k) := by
  unfold KV at r
  induction r with
  | nil => exact True.intro
  | @cons p q ps qs h t ih =>
    obtain ⟨h1, h2⟩ := h
    by_cases e : p.1 = k
    · have e' : q.1 = k := h1.symm.trans e
      have b : valueAt (q :: qs) k = some q.2 := by simp [valueAt, List.find?_cons, e']
      rw [valV_pos e, b]; exact h2
    · have e' : ¬ q.1 = k := fun z => e (h1.trans z)
      have b : valueAt (q :: qs) k = valueAt qs k := by simp [valueAt, List.find?_cons, e']
      rw [valV_neg e, b]; exact ih
theorem KV.any {kvs : List (κ × V)} {vs : List (κ × Value)} (r : KV kvs vs) (k : κ) : (kvs.any fun kv => decide (kv.1 = k)) = vs.any fun kv => decide (kv.1 = k) := by
  unfold KV at r
  induction r with
  | nil => rfl
  | cons h t ih => rw [List.any_cons, List.any_cons, ih, h.1]
theorem KV.repl {kvs : List (κ × V)} {vs : List (κ × Value)} (r : KV kvs vs) (k : κ) {y : V} {u : Value} (ry : RelV y u) :
    KV (kvs.map fun kv => if kv.1 = k then (kv.1, y) else kv) (vs.map fun kv => if kv.1 = k then (kv.1, u) else kv) := by
  unfold KV at r ⊢
  induction r with
  | nil => exact .nil
  | @cons p q ps qs h t ih =>
    rw [List.map_cons, List.map_cons]
    refine .cons ?_ ih
    obtain ⟨h1, h2⟩ := h
    by_cases e : p.1 = k
    · rw [if_pos e, if_pos (h1.symm.trans e)]; exact ⟨h1, ry⟩
    · rw [if_neg e, if_neg (fun z => e (h1.trans z))]; exact ⟨h1, h2⟩
theorem KV.put {kvs : List (κ × V)} {vs : List (κ × Value)} (r : KV kvs vs) (k : κ) {y : V} {u : Value} (ry : RelV y u) : KV (putK kvs k y) (stored vs k u) := by
  unfold putK stored
  rw [r.any k]
  by_cases e : (vs.any fun kv => decide (kv.1 = k)) = true
  · rw [if_pos e, if_pos e]; exact r.repl k ry
  · rw [if_neg e, if_neg e]; exact Paired.snoc r ⟨rfl, ry⟩
theorem KV.drop {kvs : List (κ × V)} {vs : List (κ × Value)} (r : KV kvs vs) (k : κ) : KV (dropK kvs k) (without vs k) := by
  unfold KV at r ⊢
  unfold dropK without
  induction r with
  | nil => exact .nil
  | @cons p q ps qs h t ih =>
    obtain ⟨h1, h2⟩ := h
    rw [List.filter_cons, List.filter_cons]
    by_cases e : p.1 = k
    · have a : ¬ decide (p.1 ≠ k) = true := by simp [e]
      have b : ¬ decide (q.1 ≠ k) = true := by simp [h1.symm.trans e]
      rw [if_neg a, if_neg b]; exact ih
    · have e' : ¬ q.1 = k := fun z => e (h1.trans z)
      have a : decide (p.1 ≠ k) = true := by simp [e]
      have b : decide (q.1 ≠ k) = true := by simp [e']
      rw [if_pos a, if_pos b]; exact .cons ⟨h1, h2⟩ ih
theorem KV.keys {kvs : List (κ × V)} {vs : List (κ × Value)} (r : KV kvs vs) : kvs.map (·.1) = vs.map (·.1) := by
  unfold KV at r
  induction r with
  | nil => rfl
  | cons h t ih => rw [List.map_cons, List.map_cons, ih, h.1]
theorem KV.length {kvs : List (κ × V)} {vs : List (κ × Value)} (r : KV kvs vs) : kvs.length = vs.length := Paired.length r
end
section
variable {P : Program} {w : World} {H : Hp} {h : Heap} {a : Addr}
end
section
variable {X : Cx} {pins : List (Addr × Obj)} {σ : St} {H : Hp} {s : Shared} {a : Addr} {y v : V} {u r : Value} {o : Option V} {A : Around} {E : Value → Shared → Prop}
theorem Inv.big (I : Inv X pins σ H s) : sysModules < s.heap.objs.size := by
  have h : mainGlobals < s.heap.objs.size := (I.mod.glob.keeps I.bk).lt
  exact Nat.lt_trans (by decide) h
end
section
variable {X : Cx} {pins : List (Addr × Obj)} {σ : St} {H : Hp} {s : Shared} {a : Addr} {kvs : List (Key × V)} {k : Key} {u : Value} {A : Around} {E : Value → Shared → Prop}
end
def NoSl (i : Expr) : Prop := ∀ ov iv, subscripted i false ov iv = operate [ov, iv] (getItem ov iv)
theorem subD_of {prog : Program} {w : World} {A : Around} {E : Value → Shared → Prop} {s : Shared} {env : Env} {value slice : Expr} {pos : Pos} {T id : String} {Q : Value → Shared → Prop}
    (hl : typeLookup (.type T) "__getitem__" = pure (some (.builtin id))) (hs : NoSl slice)
    (h : wpAny (model prog w) A (eval value env) (fun o s₁ => wpAny (model prog w) A (eval slice env) (fun i s₂ => s₂.TypeIs o T ∧ wpAny (model prog w) A (getItem o i) Q E s₂) E s₁) E s) :
    wpAny (model prog w) A (eval (.Subscript value slice pos) env) Q E s := by
  refine Subscript_ (wpAny_mono h (fun o s₁ h₁ => wpAny_mono h₁ (fun i s₂ h₂ => ?_) fun _ _ x => x) fun _ _ x => x)
  obtain ⟨hT, h₂⟩ := h₂
  unfold subscriptTail
  refine wpAny_bind ?_
  rw [getitemInPython_of_ne hT.not_modules]
  refine wpAny_bind (wpAny_specialOf hT hl ?_)
  have fin : wpAny (model prog w) A (subscripted slice false o i) (fun r s₃ => wpAny (model prog w) A (letTemporaryGo value o r >>= fun _ => pure r) Q E s₃) E s₂ := by
    rw [hs o i]
    exact wpAny_operating (wpAny_mono h₂ (fun r s₃ h₃ => wpAny_bind (wpAny_letTemporaryGo (wpAny_pure h₃))) fun _ _ x => x)
  first
    | exact wpAny_pure (wpAny_bind fin)
    | exact wpAny_bind (wpAny_pure (wpAny_bind fin))
    | exact wpAny_bind fin
section
variable {X : Cx} {o i e value : Expr} {pos pos' tpos : Pos} {td ty tv : TE}
end
section
variable {X : Cx} {pos : Pos}
end
section
variable {X : Cx} {pins : List (Addr × Obj)} {σ : St} {H : Hp} {s : Shared} {a : Addr} {y d : V} {u r : Value} {o : Option V} {A : Around} {E : Value → Shared → Prop}
end
section
variable {X : Cx} {o e f : Expr} {apos cpos : Pos} {td ty tx : TE}
end
section
variable {X : Cx} {pins : List (Addr × Obj)} {σ : St} {H : Hp} {s : Shared} {a : Addr} {kvs : List (Key × V)} {A : Around} {E : Value → Shared → Prop}
end
section
variable {X : Cx} {pins : List (Addr × Obj)} {σ : St} {H : Hp} {s : Shared} {a : Addr} {y : V} {u : Value} {A : Around} {E : Value → Shared → Prop}
end
end L2
namespace L2
open PySem PySem.Spec PyProof.Rows
section
variable {prog : Program} {w : World} {A : Around} {E : Value → Shared → Prop}
end
section
variable {X : Cx}
theorem refs_at : ∀ {ps : List Addr} {us : List Value}, Vals (ps.map V.ref) us → us = ps.map Value.ref
  | [], us, r => by
    rw [List.map_nil] at r
    cases r
    rfl
  | p :: ps, us, r => by
    rw [List.map_cons] at r
    cases r with
    | cons h t =>
      cases h
      rw [List.map_cons, ← refs_at t]
end
end L2
namespace L2
open PySem PySem.Spec PyProof.Rows
section
variable {X : Cx} {pins : List (Addr × Obj)} {σ : St} {H : Hp} {s : Shared} {h' : Heap}
end
section
variable {X : Cx}
end
section
variable {X : Cx} {tg : Expr}
end
section
variable {X : Cx} {tg : Expr}
end
section
variable {prog : Program} {w : World} {A : Around} {E : Value → Shared → Prop} {s : Shared}
end
section
variable {X : Cx} {pins : List (Addr × Obj)} {σ : St} {H : Hp} {s : Shared} {d : Addr} {o : Obj}
end
section
variable {P : Program} {w : World} {K : PySem.W.Frag} {tg : Expr} {d : Addr} {o : Obj} {es : Array DictEntry} {ep : Nat}
end
section
variable {X : Cx} {tg e : Expr} {td : TE} {apos cpos : Pos}
end
end L2
section 
namespace Bits
open PySem PyProof.Rows
end Bits
end 
section 
namespace TL
open PySem PySem.Builtin PySem.Builtin.Str PySem.StrLaws
abbrev tl (x : Str) : List Nat := x.cps.toList
theorem len_tl (x : Str) : x.length = (tl x).length := by simp [tl, Str.length]
def pre (S l : List Nat) : Bool := l.take S.length == S
def par (S : List Nat) : List Nat → List Nat → Option (List Nat × List Nat)
  | _, [] => none
  | acc, c :: r => if pre S (c :: r) = true then some (acc, (c :: r).drop S.length) else par S (acc ++ [c]) r
theorem len1 {y : Str} (hy : tl y ≠ []) : 1 ≤ y.length := by
  have e2 : 0 < (tl y).length := List.length_pos_iff.mpr hy
  rw [len_tl y]
  exact e2
end TL
end 
namespace L2
open PySem PySem.Spec PyProof.Rows
section
variable {X : Cx} {pins : List (Addr × Obj)} {σ : St} {H : Hp} {s : Shared} {Q : VK}
end
section
variable {X : Cx}
end
section
variable {X : Cx} {o e : Expr} {to te : TE}
end
end L2
namespace L2
open PySem PySem.Spec PyProof.Rows
section
variable {X : Cx}
end
theorem IsPart.raw {v : Value} {o : Option Int} (p : IsPart v o) : ∃ l : Option (Int × Tok), v = partValue l ∧ l.map (·.1) = o := by
  cases p with
  | none => exact ⟨none, rfl, rfl⟩
  | int i t => exact ⟨some (i, t), rfl, rfl⟩
end L2
namespace Att
open PySem PySem.W PySem.Calls PyProof.Rows
section
variable {prog : Program} {w : World} {A : Around} {E : Value → Shared → Prop} {s : Shared} {K : Frag}
def noObjs (h : Heap) : Heap := { h with objs := #[] }
theorem noObjs_get (h : Heap) (b : Addr) : (noObjs h).get? b = none := by
  cases e : (noObjs h).get? b with
  | none => rfl
  | some o => exact absurd (Heap.lt_size e) (Nat.not_lt_zero _)
def ledger (h : Heap) (L d : Addr) : List (Addr × Obj) := (List.range h.objs.size).filterMap fun a => if a = L ∨ a = d then none else (h.get? a).map fun o => (a, o)
theorem mem_ledger {h : Heap} {L d a : Addr} {o : Obj} : (a, o) ∈ ledger h L d ↔ a ≠ L ∧ a ≠ d ∧ h.get? a = some o := by
  unfold ledger
  rw [List.mem_filterMap]
  constructor
  · rintro ⟨b, _, e⟩
    split at e
    · cases e
    · rename_i hb
      obtain ⟨o', ho, e'⟩ := Option.map_eq_some_iff.mp e
      cases e'
      exact ⟨fun q => hb (.inl q), fun q => hb (.inr q), ho⟩
  · rintro ⟨n1, n2, ho⟩
    refine ⟨a, List.mem_range.mpr (Heap.lt_size ho), ?_⟩
    rw [if_neg (show ¬ (a = L ∨ a = d) from fun q => q.elim n1 n2), ho] <;> rfl
theorem fr_all {h : Heap} {L : Addr} {m : Str → Option Value} (n : h.Ns L m) : Fr (noObjs h) L h m :=
  ⟨n, fun b o e => (by rw [noObjs_get] at e; cases e), Nat.zero_le _⟩
end
end Att
namespace L2
open PySem PySem.Spec PyProof.Rows
end L2
namespace L2
open PySem PySem.Spec PyProof.Rows
end L2
namespace L2
open PySem PySem.Spec PyProof.Rows
def inClass (s : Stmt) (j : Nat) : Stmt := match s with
  | .ClassDef _ _ _ body _ _ _ _ _ _ _ => body.getD j (.Pass ⟨0, 0, 0, 0⟩)
  | _ => .Pass ⟨0, 0, 0, 0⟩
def defArgs (s : Stmt) : Arguments := match s with
  | .FunctionDef _ a _ _ _ _ _ _ _ _ => a
  | _ => { posonlyargs := [], args := [], vararg := none, kwonlyargs := [], kw_defaults := [], kwarg := none, defaults := [] }
def defBody (s : Stmt) : List Stmt := match s with
  | .FunctionDef _ _ b _ _ _ _ _ _ _ => b
  | _ => []
def defScope (s : Stmt) : Scope := match s with
  | .FunctionDef _ _ _ _ _ _ sc _ _ _ => sc
  | _ => { kind := .function, names := [], isGenerator := false, isCoroutine := false }
abbrev CX0 : CXT := fun _ _ _ _ _ _ => False
abbrev E0 : XK := fun _ _ _ => False
theorem pass0 {X : Cx} : Passes CX0 X E0 := fun _ _ _ _ _ _ _ h => h.elim
structure Fun (K : PySem.W.Frag) (x qual : Str) (st : Stmt) (f : Addr) (fd : FuncData) : Prop where
  ex : ∃ (oc : Value) (od : Option Addr) (kV doc pm : Value) (an : Option Addr) (cdv ct : Value) (osl : Array (Option Value)),
    fd = PySem.W.fnOf x qual (defArgs st) (defBody st) (defScope st) .none kV doc pm an cdv ct ∧ K.lookup f = some ⟨oc, od, .func fd, osl⟩ ∧ PySem.W.codeIn K cdv qual = true
  kp : PySem.W.keepIn K (.ref f) = true
section
variable {P : Program} {w : World} {K : PySem.W.Frag} {mg : Str → Option Value} {base : Heap}
theorem Fun.ok {x qual : Str} {st : Stmt} {f : Addr} {fd : FuncData} {N ps : List Str} {k : Nat} {sp : Sp} (F : Fun K x qual st f fd) (S : FnScope N ps (defScope st)) (len : ∀ vs H Q E, sp vs H Q E → vs.length = ps.length)
    (hbody : ∀ (cdv : Value) (A : Around) (outer : List Env) (s : Shared) (H : Hp) (vs : List V) (Q : VK) (E : XK), Room k (A.deeper (envOfC qual (defScope st) s.heap.objs.size f cdv)) → sp vs H Q E →
      ∃ t, PSs (cxOf CX0 P w K mg base N qual (defScope st) f cdv A outer s H E).nox (defBody st) t ∧ t { nx := fun _ H' => Q .non H', rt := Q } (start N vs) H) : FnOk P w K mg base CX0 (k + 1) f fd ps sp := by
  obtain ⟨oc, od, kV, doc, pm, an, cdv, ct, osl, rfl, lk, hcd⟩ := F.ex
  refine fn_of lk hcd S len fun A outer s H vs Q E hr hsp => ?_
  obtain ⟨t, h, q⟩ := hbody cdv A outer s H vs Q E hr hsp
  exact ⟨t, h.nox, q⟩
theorem Fun.binds {x qual : Str} {st : Stmt} {f : Addr} {fd : FuncData} {ps : List Str} (F : Fun K x qual st f fd)
    (h : ∀ (kV doc pm : Value) (an : Option Addr) (cdv ct : Value) (us : List Value), us.length = ps.length → bindArgs (PySem.W.fnOf x qual (defArgs st) (defBody st) (defScope st) .none kV doc pm an cdv ct) ⟨us, []⟩ = pure (ps.zip us)) : Binds K fd ps [] := by
  obtain ⟨oc, od, kV, doc, pm, an, cdv, ct, osl, rfl, lk, hcd⟩ := F.ex
  exact .all (h kV doc pm an cdv ct)
theorem fun_mk {x qual : Str} {st : Stmt} {f : Addr} {oc : Value} {od an : Option Addr} {osl : Array (Option Value)} {kV doc pm cdv ct : Value} (l : K.lookup f = some ⟨oc, od, .func (PySem.W.fnOf x qual (defArgs st) (defBody st) (defScope st) .none kV doc pm an cdv ct), osl⟩)
    (c : PySem.W.codeIn K cdv qual = true) (k : PySem.W.keepIn K (.ref f) = true) : Fun K x qual st f (PySem.W.fnOf x qual (defArgs st) (defBody st) (defScope st) .none kV doc pm an cdv ct) := ⟨⟨oc, od, kV, doc, pm, an, cdv, ct, osl, rfl, l, c⟩, k⟩
end
section
variable {X : Cx}
theorem pv (i : Nat) {x : Str} {pos : Pos} (hN : X.N[i]? = some x := by rfl) (hv : Vis X.env.scope x := by first | exact Or.inl rfl | exact Or.inr (Or.inl rfl) | exact Or.inr (Or.inr rfl)) (hd : (x == ("__debug__" : Str)) = false := by decide)
    (hcd : (x == ("__classdict__" : Str)) = false := by decide) : PE X (.Name x pos) (tVar i) := pe_var hN hv hd hcd
end
def Same (H H' : Hp) : Prop := ∀ b o, H b = some o → H' b = some o
theorem Same.refl (H : Hp) : Same H H := fun _ _ h => h
theorem Same.trans {H H1 H2 : Hp} (a : Same H H1) (b : Same H1 H2) : Same H H2 := fun c o h => b c o (a c o h)
theorem Same.free {H H' : Hp} (e : Same H H') {l : Addr} (h : H' l = Option.none) : H l = Option.none := by
  cases q : H l with
  | none => rfl
  | some o =>
    rw [e l o q] at h
    cases h
theorem Same.seq {K : PySem.W.Frag} {H H' : Hp} {a : Addr} {xs : List V} (e : Same H H') (h : SqL K H a xs) : SqL K H' a xs := by
  rcases h with (h | ⟨o, h⟩) | h
  · exact .inl (.inl (e _ _ h))
  · exact .inl (.inr ⟨o, e _ _ h⟩)
  · exact .inr h
section
variable {κ : Type} [DecidableEq κ]
end
theorem at_of {xs : List V} {z : Int} {j : Nat} {v : V} (e : z = (j : Int)) (h : xs[j]? = some v) : atI xs z = some v := by
  rw [e]
  exact atI_nat h
theorem Same.made {H H1 : Hp} {x dx C : Addr} (nx : H x = Option.none) (nd : H dx = Option.none) (k : ∀ b o, (upd (upd H dx (.own x)) x (.ins C dx [])) b = some o → b ≠ x → H1 b = some o) : Same H H1 := fun b o e =>
  k b o (by rw [upd_ne (ne_of_none e nx), upd_ne (ne_of_none e nd)]; exact e) (ne_of_none e nx)
end L2
end
section
section
set_option Elab.async false
set_option linter.all false
set_option maxRecDepth 100000
set_option maxHeartbeats 2000000
namespace L2
open PySem PySem.Spec PyProof.Rows
open PySem.W (WData Codec OpenSpec Well WellAll ReadsW ReadsAllW)
/-! ### an answer as data -/
mutual
/-- x stands for the datum d, lists and tuples all the way -/
inductive Dw (K : PySem.W.Frag) (H : Hp) : V → WData → Prop
  | non : Dw K H .non .none
  | bl (b : Bool) : Dw K H (.bl b) (.bool b)
  | int (i : Int) : Dw K H (.int i) (.int i)
  | str (x : Str) : Dw K H (.str x) (.str x)
  | byt (b : Array UInt8) : Dw K H (.byt b) (.bytes b.toList)
  | lst {a : Addr} {xs : List V} {ds : List WData} : SqL K H a xs → DwAll K H xs ds → Dw K H (.ref a) (.list ds)
  | tup {a : Addr} {xs : List V} {ds : List WData} : SqT K H a xs → DwAll K H xs ds → Dw K H (.ref a) (.tuple ds)
inductive DwAll (K : PySem.W.Frag) (H : Hp) : List V → List WData → Prop
  | nil : DwAll K H [] []
  | cons {v : V} {vs : List V} {d : WData} {ds : List WData} : Dw K H v d → DwAll K H vs ds → DwAll K H (v :: vs) (d :: ds)
end
theorem dw_ints {K : PySem.W.Frag} {H : Hp} : ∀ ns : List Int, DwAll K H (ns.map V.int) (ns.map WData.int)
  | [] => .nil
  | n :: r => .cons (.int n) (dw_ints r)
theorem ints_dw {K : PySem.W.Frag} {H : Hp} : ∀ (ns : List Int) (xs : List V), DwAll K H xs (ns.map WData.int) → xs = ns.map V.int
  | [], xs, h => by
    cases h
    rfl
  | n :: r, xs, h => by
    cases h with
    | cons h1 h2 =>
      cases h1
      rw [ints_dw r _ h2] <;> rfl
section
variable {P : Program} {w : World} {K : PySem.W.Frag} {H : Hp} {h : Heap} {R : PySem.W.WRecords} {cl : Str → Option Addr}
theorem sqL_at {a : Addr} {xs : List V} (hok : HOk P w H h) (KX : K.In h) (q : SqL K H a xs) : ∃ (its : List Value) (o : Obj) (n : Nat), Vals xs its ∧ h.get? a = some o ∧ o.cls = .type "list" ∧ o.data = .seq its.toArray n := by
  rcases q with q | ⟨o, its, n, e, hc, _, hd, _, hv⟩
  · obtain ⟨_, its, n, hv, e⟩ := (show ObjOk P w H h a (.lst xs) from q.ok hok)
    exact ⟨its, _, n, hv, e, rfl, rfl⟩
  · exact ⟨its.toList, o, n, hv, KX _ _ e, hc, by simp [hd]⟩
theorem sqT_at {a : Addr} {xs : List V} (hok : HOk P w H h) (KX : K.In h) (q : SqT K H a xs) : ∃ (its : List Value) (o : Obj) (n : Nat), Vals xs its ∧ h.get? a = some o ∧ o.cls = .type "tuple" ∧ o.data = .seq its.toArray n := by
  rcases q with q | ⟨o, its, n, e, hc, hd, _, hv⟩
  · obtain ⟨_, its, hv, o, e, hc, n, hd⟩ := (show ObjOk P w H h a (.tup xs) from q.ok hok)
    exact ⟨its, o, n, hv, e, hc, hd⟩
  · exact ⟨its.toList, o, n, hv, KX _ _ e, hc, by simp [hd]⟩
mutual
theorem Dw.reads (hok : HOk P w H h) (KX : K.In h) : ∀ (d : WData) (v : V) (u : Value), Dw K H v d → RelV v u → ∃ as, ReadsW R cl h u d as
  | .none, _, _, x, r => by
    cases x
    cases r
    exact ⟨_, ReadsW.none⟩
  | .bool b, _, _, x, r => by
    cases x
    cases r
    exact ⟨_, ReadsW.bool b⟩
  | .int i, _, _, x, r => by
    cases x
    obtain ⟨t, rfl⟩ := r
    exact ⟨_, ReadsW.int i t⟩
  | .str s, _, _, x, r => by
    cases x
    obtain ⟨t, rfl⟩ := r
    exact ⟨_, ReadsW.str s t⟩
  | .bytes b, _, _, x, r => by
    cases x
    obtain ⟨t, rfl⟩ := r
    exact ⟨_, ReadsW.bytes _ t⟩
  | .list ds, _, _, x, r => by
    cases x with
    | lst hs ha =>
      cases r
      obtain ⟨its, o, n, rv, ho, hc, hd⟩ := sqL_at hok KX hs
      obtain ⟨as, hr⟩ := Dw.readsAll hok KX ds _ its ha rv
      exact ⟨_, ReadsW.list ho hc hd hr⟩
  | .tuple ds, _, _, x, r => by
    cases x with
    | tup hs ha =>
      cases r
      obtain ⟨its, o, n, rv, ho, hc, hd⟩ := sqT_at hok KX hs
      obtain ⟨as, hr⟩ := Dw.readsAll hok KX ds _ its ha rv
      exact ⟨_, ReadsW.tuple ho hc hd hr⟩
  | .float _, _, _, x, _ => by cases x
  | .dict _, _, _, x, _ => by cases x
  | .bytearray _, _, _, x, _ => by cases x
  | .set _, _, _, x, _ => by cases x
  | .frozenset _, _, _, x, _ => by cases x
  | .obj _ _, _, _, x, _ => by cases x
theorem Dw.readsAll (hok : HOk P w H h) (KX : K.In h) : ∀ (ds : List WData) (vs : List V) (us : List Value), DwAll K H vs ds → Vals vs us → ∃ as, ReadsAllW R cl h us ds as
  | [], _, _, x, r => by
    cases x
    cases r
    exact ⟨_, ReadsAllW.nil⟩
  | d :: ds, _, _, x, r => by
    cases x with
    | cons h1 h2 =>
      cases r with
      | cons r1 r2 =>
        obtain ⟨as, q1⟩ := Dw.reads hok KX d _ _ h1 r1
        obtain ⟨bs, q2⟩ := Dw.readsAll hok KX ds _ _ h2 r2
        exact ⟨_, ReadsAllW.cons q1 q2⟩
end
end
/-! ### the arguments -/
mutual
/-- data that a codec tells -/
def plW : WData → Bool
  | .none => true
  | .bool _ => true
  | .int _ => true
  | .str _ => true
  | .bytes _ => true
  | .list xs => plWs xs
  | .tuple xs => plWs xs
  | _ => false
def plWs : List WData → Bool
  | [] => true
  | x :: r => plW x && plWs r
end
theorem plWs_map {α : Type} {f : α → WData} (h : ∀ a, plW (f a) = true) : ∀ l : List α, plWs (l.map f) = true
  | [] => rfl
  | x :: r => by
    show (plW (f x) && plWs (r.map f)) = true
    rw [h x, plWs_map h r] <;> rfl
theorem pl_enc : ∀ (c : Codec) (a : c.denote), plW (c.enc a) = true
  | .unit, _ => rfl
  | .bool, _ => rfl
  | .int _ _, _ => rfl
  | .nat _ _, _ => rfl
  | .u8, _ => rfl
  | .bytes _ _, _ => rfl
  | .text _ _ _ _, _ => rfl
  | .list _ _ c, a => plWs_map (fun x => pl_enc c x) a
  | .pair c d, a => by
    show (plW (c.enc a.1) && (plW (d.enc a.2) && true)) = true
    rw [pl_enc c a.1, pl_enc d a.2] <;> rfl
  | .triple c d e, a => by
    show (plW (c.enc a.1) && (plW (d.enc a.2.1) && (plW (e.enc a.2.2) && true))) = true
    rw [pl_enc c a.1, pl_enc d a.2.1, pl_enc e a.2.2] <;> rfl
  | .option c, none => rfl
  | .option c, some x => pl_enc c x
theorem pl_encAll : ∀ (cs : List Codec) (a : Codec.denoteAll cs), plWs (Codec.encAll cs a) = true
  | [], _ => rfl
  | c :: cs, a => by
    show (plW (c.enc a.1) && plWs (Codec.encAll cs a.2)) = true
    rw [pl_enc c a.1, pl_encAll cs a.2] <;> rfl
theorem weight_mem : ∀ {xs : List WData} {d : WData}, d ∈ xs → d.weight ≤ WData.weightAll xs
  | [], d, h => absurd h (by simp)
  | x :: r, d, h => by
    show d.weight ≤ x.weight + 1 + WData.weightAll r
    rcases List.mem_cons.mp h with e | m
    · rw [e]
      omega
    · have z := weight_mem m
      omega
def toV : Value → V
  | .none => .non
  | .bool b => .bl b
  | .int i _ => .int i
  | .str x _ => .str x
  | .bytes b _ => .byt b
  | .ref a => .ref a
  | _ => .non
/-- a value of the arguments, its objects among A -/
def OkU (A : List Addr) : Value → Prop
  | .none => True
  | .bool _ => True
  | .int _ _ => True
  | .str _ _ => True
  | .bytes _ _ => True
  | .ref a => a ∈ A
  | _ => False
theorem OkU.mono {A B : List Addr} (h : ∀ a ∈ A, a ∈ B) : ∀ {u : Value}, OkU A u → OkU B u := fun {u} x => by
  cases u with
  | ref a => exact h a x
  | none => trivial
  | bool b => trivial
  | int i t => trivial
  | str s t => trivial
  | bytes b t => trivial
  | _ => exact False.elim x
theorem relV_toV {A : List Addr} {u : Value} (x : OkU A u) : RelV (toV u) u := by
  cases u with
  | ref a => rfl
  | none => rfl
  | bool b => rfl
  | int i t => exact ⟨t, rfl⟩
  | str s t => exact ⟨t, rfl⟩
  | bytes b t => exact ⟨t, rfl⟩
  | _ => exact False.elim x
theorem vals_toV {A : List Addr} : ∀ {vs : List Value}, (∀ u ∈ vs, OkU A u) → Vals (vs.map toV) vs
  | [], _ => .nil
  | u :: r, h => .cons (relV_toV (h u (List.mem_cons_self ..))) (vals_toV fun x hx => h x (List.mem_cons_of_mem _ hx))
/-- an object of the arguments -/
def ArgOb (h : Heap) (A : List Addr) (a : Addr) : Prop := ∃ vs : List Value, vs.length ≤ sizeLine ∧ (∀ u ∈ vs, OkU A u) ∧
  (h.get? a = some { cls := .type "list", data := .seq vs.toArray } ∨ h.get? a = some { cls := .type "tuple", data := .seq vs.toArray })
theorem ArgOb.mono {h : Heap} {A B : List Addr} {a : Addr} (k : ∀ a ∈ A, a ∈ B) (x : ArgOb h A a) : ArgOb h B a := by
  obtain ⟨vs, h1, h2, h3⟩ := x
  exact ⟨vs, h1, fun u hu => (h2 u hu).mono k, h3⟩
theorem wellAll_len {P : Params} {h : Heap} : ∀ {vs : List Value} {ds : List WData}, WellAll P h vs ds → vs.length = ds.length
  | _, _, .nil => rfl
  | _, _, .cons _ b => by
    show _ + 1 = _ + 1
    rw [wellAll_len b]
theorem well_list {P : Params} {h : Heap} {v : Value} {ds : List WData} (x : Well P h v (.list ds)) : ∃ (a : Addr) (vs : List Value), v = .ref a ∧ h.get? a = some { cls := .type "list", data := .seq vs.toArray } ∧ WellAll P h vs ds := by
  cases x with
  | list ho hall => exact ⟨_, _, rfl, ho, hall⟩
theorem well_tuple {P : Params} {h : Heap} {v : Value} {ds : List WData} (x : Well P h v (.tuple ds)) : ∃ (a : Addr) (vs : List Value), v = .ref a ∧ h.get? a = some { cls := .type "tuple", data := .seq vs.toArray } ∧ WellAll P h vs ds := by
  cases x with
  | tuple ho hall => exact ⟨_, _, rfl, ho, hall⟩
theorem well_cons {P : Params} {h : Heap} {us : List Value} {d : WData} {ds : List WData} (x : WellAll P h us (d :: ds)) : ∃ (v : Value) (vs : List Value), us = v :: vs ∧ Well P h v d ∧ WellAll P h vs ds := by
  cases x with
  | cons a b => exact ⟨_, _, rfl, a, b⟩
theorem line_of {n : Nat} (h : n ≤ 1048576) : n ≤ sizeLine := Nat.le_trans h (by decide)
section
variable {P : Params} {h : Heap}
mutual
theorem area_one : ∀ (d : WData) (v : Value), Well P h v d → plW d = true → d.weight ≤ 1048576 → ∃ A : List Addr, OkU A v ∧ ∀ a ∈ A, ArgOb h A a
  | .none, _, x, _, _ => by
    cases x
    exact ⟨[], trivial, fun a m => absurd m (by simp)⟩
  | .bool b, _, x, _, _ => by
    cases x
    exact ⟨[], trivial, fun a m => absurd m (by simp)⟩
  | .int i, _, x, _, _ => by
    cases x
    exact ⟨[], trivial, fun a m => absurd m (by simp)⟩
  | .str s, _, x, _, _ => by
    cases x
    exact ⟨[], trivial, fun a m => absurd m (by simp)⟩
  | .bytes b, _, x, _, _ => by
    cases x
    exact ⟨[], trivial, fun a m => absurd m (by simp)⟩
  | .list ds, _, x, p, z => by
    obtain ⟨a, vs, rfl, ho, hall⟩ := well_list x
    have z2 : WData.weightAll ds ≤ 1048576 := z
    obtain ⟨A, h1, h2⟩ := area_all ds _ hall p fun d hd => Nat.le_trans (weight_mem hd) z2
    have k : ∀ b ∈ A, b ∈ a :: A := fun b hb => List.mem_cons_of_mem _ hb
    refine ⟨a :: A, List.mem_cons_self .., fun b hb => ?_⟩
    rcases List.mem_cons.mp hb with e | m
    · rw [e]
      exact ⟨vs, line_of (by rw [wellAll_len hall]; exact Nat.le_trans (PySem.W.length_le_weightAllW ds) z2), fun u hu => (h1 u hu).mono k, .inl ho⟩
    · exact (h2 b m).mono k
  | .tuple ds, _, x, p, z => by
    obtain ⟨a, vs, rfl, ho, hall⟩ := well_tuple x
    have z2 : WData.weightAll ds ≤ 1048576 := z
    obtain ⟨A, h1, h2⟩ := area_all ds _ hall p fun d hd => Nat.le_trans (weight_mem hd) z2
    have k : ∀ b ∈ A, b ∈ a :: A := fun b hb => List.mem_cons_of_mem _ hb
    refine ⟨a :: A, List.mem_cons_self .., fun b hb => ?_⟩
    rcases List.mem_cons.mp hb with e | m
    · rw [e]
      exact ⟨vs, line_of (by rw [wellAll_len hall]; exact Nat.le_trans (PySem.W.length_le_weightAllW ds) z2), fun u hu => (h1 u hu).mono k, .inr ho⟩
    · exact (h2 b m).mono k
  | .float _, _, _, p, _ => Bool.noConfusion (show false = true from p)
  | .dict _, _, _, p, _ => Bool.noConfusion (show false = true from p)
  | .bytearray _, _, _, p, _ => Bool.noConfusion (show false = true from p)
  | .set _, _, _, p, _ => Bool.noConfusion (show false = true from p)
  | .frozenset _, _, _, p, _ => Bool.noConfusion (show false = true from p)
  | .obj _ _, _, _, p, _ => Bool.noConfusion (show false = true from p)
theorem area_all : ∀ (ds : List WData) (vs : List Value), WellAll P h vs ds → plWs ds = true → (∀ d ∈ ds, d.weight ≤ 1048576) → ∃ A : List Addr, (∀ u ∈ vs, OkU A u) ∧ ∀ a ∈ A, ArgOb h A a
  | [], _, x, _, _ => by
    cases x
    exact ⟨[], fun u m => absurd m (by simp), fun a m => absurd m (by simp)⟩
  | d :: ds, _, x, p, z => by
    obtain ⟨v, vs, rfl, x1, x2⟩ := well_cons x
    have q : plW d = true ∧ plWs ds = true := Bool.and_eq_true_iff.mp p
    obtain ⟨A, a1, a2⟩ := area_one d v x1 q.1 (z d (List.mem_cons_self ..))
    obtain ⟨B, b1, b2⟩ := area_all ds vs x2 q.2 fun e he => z e (List.mem_cons_of_mem _ he)
    have kA : ∀ b ∈ A, b ∈ A ++ B := fun b hb => List.mem_append.mpr (.inl hb)
    have kB : ∀ b ∈ B, b ∈ A ++ B := fun b hb => List.mem_append.mpr (.inr hb)
    refine ⟨A ++ B, fun u hu => ?_, fun b hb => ?_⟩
    · rcases List.mem_cons.mp hu with e | m
      · rw [e]
        exact a1.mono kA
      · exact (b1 u m).mono kB
    · rcases List.mem_append.mp hb with m | m
      · exact (a2 b m).mono kA
      · exact (b2 b m).mono kB
end
end
/-- what is tracked of an argument's object -/
def hoOf (o : Obj) : Option HO := match o.data with
  | .seq vs _ => if (o.cls == Value.type "list") = true then some (.frz o (.lst (vs.toList.map toV))) else some (.frz o (.tup (vs.toList.map toV)))
  | _ => none
def argH (K : PySem.W.Frag) (h : Heap) (A : List Addr) : Hp := fun b => if b ∈ A then (if (K.lookup b).isNone = true then (h.get? b).bind hoOf else none) else none
/-- nothing is tracked but what is known to the object -/
def OnlyF (H : Hp) : Prop := ∀ b, H b = none ∨ ∃ o u, H b = some (.frz o u)
theorem hoOf_lst (vs : List Value) : hoOf { cls := .type "list", data := .seq vs.toArray } = some (.frz { cls := .type "list", data := .seq vs.toArray } (.lst (vs.map toV))) := by
  show (if (Value.type "list" == Value.type "list") = true then some (HO.frz { cls := .type "list", data := .seq vs.toArray } (.lst (vs.toArray.toList.map toV))) else some (HO.frz { cls := .type "list", data := .seq vs.toArray } (.tup (vs.toArray.toList.map toV)))) = _
  rw [if_pos (beq_self_eq_true _)]
theorem hoOf_tup (vs : List Value) : hoOf { cls := .type "tuple", data := .seq vs.toArray } = some (.frz { cls := .type "tuple", data := .seq vs.toArray } (.tup (vs.map toV))) := by
  show (if (Value.type "tuple" == Value.type "list") = true then some (HO.frz { cls := .type "tuple", data := .seq vs.toArray } (.lst (vs.toArray.toList.map toV))) else some (HO.frz { cls := .type "tuple", data := .seq vs.toArray } (.tup (vs.toArray.toList.map toV)))) = _
  rw [if_neg (by decide)]
section
variable {P : Program} {w : World} {K : PySem.W.Frag} {h : Heap} {A : List Addr}
theorem argH_at {b : Addr} {o : Obj} (hb : b ∈ A) (hk : K.lookup b = none) (e : h.get? b = some o) : argH K h A b = hoOf o := by
  unfold argH
  rw [if_pos hb, hk, if_pos (show (none : Option Obj).isNone = true from rfl), e] <;> rfl
theorem of_argH {b : Addr} {u : HO} (q : argH K h A b = some u) : b ∈ A ∧ K.lookup b = none := by
  unfold argH at q
  by_cases hb : b ∈ A
  · rw [if_pos hb] at q
    cases hk : K.lookup b with
    | none => exact ⟨hb, rfl⟩
    | some o =>
      rw [hk, if_neg (by simp)] at q
      cases q
  · rw [if_neg hb] at q
    cases q
/-- what stands tracked -/
theorem argH_is (ar : ∀ a ∈ A, ArgOb h A a) {b : Addr} {u : HO} (q : argH K h A b = some u) : K.lookup b = none ∧ ∃ vs : List Value, vs.length ≤ sizeLine ∧ (∀ u ∈ vs, OkU A u) ∧
    ((h.get? b = some { cls := .type "list", data := .seq vs.toArray } ∧ u = .frz { cls := .type "list", data := .seq vs.toArray } (.lst (vs.map toV))) ∨
     (h.get? b = some { cls := .type "tuple", data := .seq vs.toArray } ∧ u = .frz { cls := .type "tuple", data := .seq vs.toArray } (.tup (vs.map toV)))) := by
  obtain ⟨hb, hk⟩ := of_argH q
  obtain ⟨vs, h1, h2, h3⟩ := ar b hb
  refine ⟨hk, vs, h1, h2, ?_⟩
  rcases h3 with e | e
  · rw [argH_at hb hk e, hoOf_lst] at q
    exact .inl ⟨e, (Option.some.inj q).symm⟩
  · rw [argH_at hb hk e, hoOf_tup] at q
    exact .inr ⟨e, (Option.some.inj q).symm⟩
theorem argH_only (ar : ∀ a ∈ A, ArgOb h A a) : OnlyF (argH K h A) := fun b => by
  cases q : argH K h A b with
  | none => exact .inl rfl
  | some u =>
    obtain ⟨_, vs, _, _, ⟨_, e⟩ | ⟨_, e⟩⟩ := argH_is ar q
    · exact .inr ⟨_, _, by rw [e]⟩
    · exact .inr ⟨_, _, by rw [e]⟩
theorem argH_ok (ar : ∀ a ∈ A, ArgOb h A a) : HOk P w (argH K h A) h := fun b u q => by
  obtain ⟨_, vs, h1, h2, ⟨e, rfl⟩ | ⟨e, rfl⟩⟩ := argH_is ar q
  · exact ⟨e, by rw [List.length_map]; exact h1, vs, _, vals_toV h2, e⟩
  · exact ⟨e, by rw [List.length_map]; exact h1, vs, vals_toV h2, _, e, rfl, _, rfl⟩
theorem seq_inj {c c' : Value} {vs us : List Value} (e : (some { cls := c, data := .seq vs.toArray } : Option Obj) = some { cls := c', data := .seq us.toArray }) : c = c' ∧ vs = us := by
  have e1 := Option.some.inj e
  have e2 : c = c' := congrArg Obj.cls e1
  have e3 : Data.seq vs.toArray = Data.seq us.toArray := congrArg Obj.data e1
  injection e3 with e4
  refine ⟨e2, ?_⟩
  have e5 := congrArg Array.toList e4
  simpa using e5
/-- a list argument -/
theorem argL (KX : K.In h) (ar : ∀ a ∈ A, ArgOb h A a) {a : Addr} {vs : List Value} (ha : a ∈ A) (e : h.get? a = some { cls := .type "list", data := .seq vs.toArray }) : (∀ u ∈ vs, OkU A u) ∧ SqL K (argH K h A) a (vs.map toV) := by
  obtain ⟨us, h1, h2, h3⟩ := ar a ha
  have hu : us = vs := by
    rcases h3 with q | q
    · rw [e] at q
      exact (seq_inj q).2.symm
    · rw [e] at q
      exact absurd (Value.type.inj (seq_inj q).1) (by decide)
  subst hu
  refine ⟨h2, ?_⟩
  cases hk : K.lookup a with
  | none => exact .inl (.inr ⟨_, by rw [argH_at ha hk e, hoOf_lst]⟩)
  | some o =>
    have e2 := KX a o hk
    rw [e] at e2
    obtain rfl := Option.some.inj e2
    exact .inr ⟨_, us.toArray, _, hk, rfl, rfl, rfl, by rw [List.size_toArray]; exact h1, by simpa using vals_toV h2⟩
theorem argT (KX : K.In h) (ar : ∀ a ∈ A, ArgOb h A a) {a : Addr} {vs : List Value} (ha : a ∈ A) (e : h.get? a = some { cls := .type "tuple", data := .seq vs.toArray }) : (∀ u ∈ vs, OkU A u) ∧ SqT K (argH K h A) a (vs.map toV) := by
  obtain ⟨us, h1, h2, h3⟩ := ar a ha
  have hu : us = vs := by
    rcases h3 with q | q
    · rw [e] at q
      exact absurd (Value.type.inj (seq_inj q).1) (by decide)
    · rw [e] at q
      exact (seq_inj q).2.symm
  subst hu
  refine ⟨h2, ?_⟩
  cases hk : K.lookup a with
  | none => exact .inl (.inr ⟨_, by rw [argH_at ha hk e, hoOf_tup]⟩)
  | some o =>
    have e2 := KX a o hk
    rw [e] at e2
    obtain rfl := Option.some.inj e2
    exact .inr ⟨_, us.toArray, _, hk, rfl, rfl, by rw [List.size_toArray]; exact h1, by simpa using vals_toV h2⟩
mutual
theorem dw_one {Pm : Params} (KX : K.In h) (ar : ∀ a ∈ A, ArgOb h A a) : ∀ (d : WData) (v : Value), Well Pm h v d → plW d = true → OkU A v → Dw K (argH K h A) (toV v) d
  | .none, _, x, _, _ => by
    cases x
    exact .non
  | .bool b, _, x, _, _ => by
    cases x
    exact .bl b
  | .int i, _, x, _, _ => by
    cases x
    exact .int i
  | .str s, _, x, _, _ => by
    cases x
    exact .str s
  | .bytes b, _, x, _, _ => by
    cases x
    have z := Dw.byt (K := K) (H := argH K h A) b.toArray
    exact z
  | .list ds, _, x, p, hu => by
    obtain ⟨a, vs, rfl, ho, hall⟩ := well_list x
    obtain ⟨h2, hs⟩ := argL KX ar hu ho
    exact .lst hs (dw_all KX ar ds _ hall p h2)
  | .tuple ds, _, x, p, hu => by
    obtain ⟨a, vs, rfl, ho, hall⟩ := well_tuple x
    obtain ⟨h2, hs⟩ := argT KX ar hu ho
    exact .tup hs (dw_all KX ar ds _ hall p h2)
  | .float _, _, _, p, _ => Bool.noConfusion (show false = true from p)
  | .dict _, _, _, p, _ => Bool.noConfusion (show false = true from p)
  | .bytearray _, _, _, p, _ => Bool.noConfusion (show false = true from p)
  | .set _, _, _, p, _ => Bool.noConfusion (show false = true from p)
  | .frozenset _, _, _, p, _ => Bool.noConfusion (show false = true from p)
  | .obj _ _, _, _, p, _ => Bool.noConfusion (show false = true from p)
theorem dw_all {Pm : Params} (KX : K.In h) (ar : ∀ a ∈ A, ArgOb h A a) : ∀ (ds : List WData) (vs : List Value), WellAll Pm h vs ds → plWs ds = true → (∀ u ∈ vs, OkU A u) → DwAll K (argH K h A) (vs.map toV) ds
  | [], _, x, _, _ => by
    cases x
    exact .nil
  | d :: ds, _, x, p, hu => by
    obtain ⟨v, vs, rfl, x1, x2⟩ := well_cons x
    have q : plW d = true ∧ plWs ds = true := Bool.and_eq_true_iff.mp p
    exact .cons (dw_one KX ar d v x1 q.1 (hu _ (List.mem_cons_self ..))) (dw_all KX ar ds vs x2 q.2 fun u m => hu u (List.mem_cons_of_mem _ m))
end
end
/-! ### the call -/
theorem spec_call {P : Program} {w : World} {K : PySem.W.Frag} {mg mb : Str → Option Value} {CX : CXT} {k : Nat} {fa : Addr} {fd : FuncData} {ps : List Str} {sp : Sp} {s₁ : Shared} {vals : List Value} {ds : List WData} {R : PySem.W.WRecords} {cl : Str → Option Addr} {d0 : WData}
    (KX : K.In s₁.heap) (hns : s₁.heap.Ns mainGlobals mg) (hb : s₁.heap.Ns builtinsNs mb) (hbb : ∀ x : Str, x ≠ "__name__" → mb x = bootBuiltins x) (hlim : s₁.heap.NoLimit) (hg : s₁.gens = #[])
    (hwl : WellAll w.params s₁.heap vals ds) (hpl : plWs ds = true) (hwt : ∀ d ∈ ds, d.weight ≤ 1048576) (hr : Room k callerA)
    (F : ∀ base : Heap, K.In base → base.Ns mainGlobals mg → FnOk P w K mg base CX k fa fd ps sp) (hbind : ∀ (s : Shared) (us : List Value), us.length = ps.length → BindsTo s fd ⟨us, []⟩ (ps.zip us)) (hlen : ds.length = ps.length)
    (hsp : ∀ (H : Hp) (xs : List V), OnlyF H → DwAll K H xs ds → sp xs H (fun v H' => Dw K H' v d0) fun _ _ _ => False)
    (hCX : ∀ H e s', CX [] H s₁ (fun _ _ _ => False) e s' → False) :
    codeAny (model P w) callerA (.call (.ref fa) ⟨vals, []⟩) (fun r s' => ∃ u as, r = .ok (.ret u) ∧ ReadsW R cl s'.heap u d0 as ∧ OldK s₁.heap s'.heap ∧ s'.os = s₁.os ∧ AllBare s'.gens) s₁ := by
  obtain ⟨A, ho, ar⟩ := area_all ds vals hwl hpl hwt
  have hO : OnlyF (argH K s₁.heap A) := argH_only ar
  have hok : HOk P w (argH K s₁.heap A) s₁.heap := argH_ok ar
  have hS := dw_all KX ar ds vals hwl hpl ho
  have hV := vals_toV ho
  have hK : ∀ b u, argH K s₁.heap A b = some u → K.lookup b = none := fun b u q => (argH_is ar q).1
  have noA : ∀ {b : Addr} {o : Obj} {es : Array DictEntry} {ep : Nat}, s₁.heap.get? b = some o → o.data = .dict es ep → argH K s₁.heap A b = none := fun {b o es ep} e d => by
    cases q : argH K s₁.heap A b with
    | none => rfl
    | some u =>
      obtain ⟨_, vs, _, _, ⟨e2, _⟩ | ⟨e2, _⟩⟩ := argH_is ar q
      · rw [e2] at e
        cases e
        have d' : Data.seq vs.toArray _ = Data.dict es ep := d
        cases d'
      · rw [e2] at e
        cases e
        have d' : Data.seq vs.toArray _ = Data.dict es ep := d
        cases d'
  generalize argH K s₁.heap A = H at hO hok hS hK noA
  have base_of : ∀ {b : Addr} {o : Obj}, s₁.heap.get? b = some o → H b = none → (hidT s₁.heap H).get? b = some o := fun e n => hidT_get e n
  have nsK : ∀ {b : Addr} {m : Str → Option Value}, s₁.heap.Ns b m → (hidT s₁.heap H).Ns b m := fun {b m} ⟨o, es, ep, e, d, r⟩ => ⟨o, es, ep, base_of e (noA e d), d, r⟩
  have nK : ∀ b o, K.lookup b = some o → H b = none := fun b o e => by
    cases q : H b with
    | none => rfl
    | some u =>
      rw [hK b u q] at e
      cases e
  have hKb : K.In (hidT s₁.heap H) := fun b o e => base_of (KX b o e) (nK b o e)
  have hM : Mod K mg (hidT s₁.heap H) := ⟨hKb, nsK hns, ⟨mb, nsK hb, hbb⟩, let ⟨mc, h1, h2⟩ := hlim; ⟨mc, nsK h1, h2⟩⟩
  have e0 : Env0 P w K mg (hidT s₁.heap H) callerA [] s₁ H := ⟨rfl, hM, fun b o e => of_hidT e, Nat.le_of_eq (hidT_size _ _), trivial, fun b hb => absurd (show b ∈ ([] : List Addr) from hb) (by simp), hok, .of_eq hg⟩
  have hl : vals.length = ps.length := by rw [wellAll_len hwl]; exact hlen
  refine codeAny_mono ((F _ hKb (nsK hns)).run callerA [] s₁ H ⟨vals, []⟩ vals (vals.map toV) _ _ hr e0 (hbind s₁ vals hl) hV (hsp H _ hO hS)) fun r s' x => ?_
  cases r with
  | error e => exact (hCX H e s' x).elim
  | ok fl =>
    cases fl with
    | next => exact False.elim x
    | brk => exact False.elim x
    | cont => exact False.elim x
    | ret u =>
      obtain ⟨v, H', os, bare, un, hok', r', q⟩ := x
      have kept : ∀ b o, s₁.heap.get? b = some o → s'.heap.get? b = some o := fun b o e => by
        cases q2 : H b with
        | none => exact un.keep b o e q2 (by intro z; exact absurd (show b ∈ ([] : List Addr) from z) (by simp)) (by simp)
        | some u2 =>
          rcases hO b with z | ⟨ob, u3, z⟩
          · rw [q2] at z
            cases z
          · have z2 := un.frzs b ob _ z
            obtain ⟨e1, _⟩ := hok b _ z
            obtain ⟨e2, _⟩ := hok' b _ z2
            rw [e] at e1
            cases e1
            exact e2
      have KX' : K.In s'.heap := fun b o e => kept b o (KX b o e)
      obtain ⟨as, hrd⟩ := Dw.reads (R := R) (cl := cl) hok' KX' d0 v u q r'
      exact ⟨u, as, rfl, hrd, OldK.of_keep kept, os, bare⟩
/-! ### the row -/
theorem layable_weight {ds : List WData} (h : WData.layableAll ds = true) : ∀ d ∈ ds, d.weight ≤ 1048576 := fun d hd =>
  (PySem.W.layableW_iff.mp (List.all_eq_true.mp h d hd)).2.2
theorem encAll_len : ∀ (cs : List Codec) (a : Codec.denoteAll cs), (Codec.encAll cs a).length = cs.length
  | [], _ => rfl
  | c :: cs, a => by
    show (Codec.encAll cs a.2).length + 1 = cs.length + 1
    rw [encAll_len cs a.2]
/-- the goal that k_headS leaves (case hc), from the promise of the row's def: whatever the arguments that the codecs let and the row asks for, the def gives what stands for enc (f ..) -/
theorem walk_spec {r : OpenSpec} {k : Nat} {q : Program} {loose : List Str} {XP : (Str → Option Value) → Heap → Prop} {YP : World → Heap → Prop} {d : DefRec} {K : Params → PySem.W.Frag} {CX : World → CXT} {ps : List Str} {sp : World → Sp}
    (hwell : r.wellSaid = true) (hdf : d.params.defaults = []) (hlen : r.args.length = ps.length) (hr : Room k callerA)
    (hY : ∀ (w : World) (h : Heap), YP w h → (K w.params).In h)
    (F : ∀ (w : World) (mg : Str → Option Value) (fa : Addr) (h : Heap), YP w h → (K w.params).In h → h.Ns mainGlobals mg → mg d.name = some (.ref fa) →
      ∃ fd : FuncData, (∀ (s : Shared) (us : List Value), us.length = ps.length → BindsTo s fd ⟨us, []⟩ (ps.zip us)) ∧
        ∀ base : Heap, (K w.params).In base → base.Ns mainGlobals mg → FnOk r.prog w (K w.params) mg base (CX w) k fa fd ps (sp w))
    (hsp : ∀ (w : World) (H : Hp) (xs : List V) (a : Codec.denoteAll r.args), OnlyF H → Codec.withinAll r.args a = true → Codec.app r.args r.asked a = true → DwAll (K w.params) H xs (Codec.encAll r.args a) →
      sp w xs H (fun v H' => Dw (K w.params) H' v (r.ret.enc (Codec.app r.args r.f a))) fun _ _ _ => False)
    (hCX : ∀ (w : World) (H : Hp) (s : Shared) (e : Value) (s' : Shared), CX w [] H s (fun _ _ _ => False) e s' → False) :
    PySem.W.WalkOS q loose XP YP r d [] (fun f vs => PySem.call f vs) := by
  intro w s_0 s₁ mg mb G Y fa o pm cd doc dV kV ho hd hcd hD hmg hg args vals as hpre hlay hrd hwl hlo
  obtain ⟨a, e1, e2⟩ := PySem.W.os_pre_some hpre
  obtain ⟨e3, hwi⟩ := Codec.encAll_of_decAll r.args args a e1
  subst e3
  have KX := hY w _ Y
  obtain ⟨fd, hb, hF⟩ := F w mg fa _ Y KX G.T.g hmg
  refine PySem.W.enter_call (codeAny_mono (spec_call (R := []) (cl := classAt s_0.heap) (d0 := r.ret.enc (Codec.app r.args r.f a)) KX G.T.g G.T.b G.T.builtins G.T.nolimit hg hwl (pl_encAll _ _) (layable_weight hlay) hr hF hb (by rw [encAll_len]; exact hlen)
    (fun H xs hO hS => hsp w H xs a hO hwi e2 hS) fun H e s' => hCX w H s₁ e s') fun r' s' hq => ?_)
  obtain ⟨u, as', rfl, h1, h2, h3, h4⟩ := hq
  exact ⟨.inl ⟨u, _, as', rfl, fun _ => rfl, h1, (OpenSpec.post_iff hwell hwi _ _).mpr rfl, fun z => Bool.noConfusion (show false = true from z)⟩, h2, h3, h4⟩
/-- the same where the promise hangs on the written part alone -/
theorem walk_specK {r : OpenSpec} {k : Nat} {q : Program} {loose : List Str} {XP : (Str → Option Value) → Heap → Prop} {YP : World → Heap → Prop} {d : DefRec} {K : Params → PySem.W.Frag} {CX : CXT} {ps : List Str} {sp : PySem.W.Frag → Sp}
    (hwell : r.wellSaid = true) (hdf : d.params.defaults = []) (hlen : r.args.length = ps.length) (hr : Room k callerA)
    (hY : ∀ (w : World) (h : Heap), YP w h → (K w.params).In h)
    (F : ∀ (w : World) (mg : Str → Option Value) (fa : Addr) (h : Heap), YP w h → (K w.params).In h → h.Ns mainGlobals mg → mg d.name = some (.ref fa) →
      ∃ fd : FuncData, (∀ (s : Shared) (us : List Value), us.length = ps.length → BindsTo s fd ⟨us, []⟩ (ps.zip us)) ∧
        ∀ base : Heap, (K w.params).In base → base.Ns mainGlobals mg → FnOk r.prog w (K w.params) mg base CX k fa fd ps (sp (K w.params)))
    (hsp : ∀ (K : PySem.W.Frag) (H : Hp) (xs : List V) (a : Codec.denoteAll r.args), OnlyF H → Codec.withinAll r.args a = true → Codec.app r.args r.asked a = true → DwAll K H xs (Codec.encAll r.args a) →
      sp K xs H (fun v H' => Dw K H' v (r.ret.enc (Codec.app r.args r.f a))) fun _ _ _ => False)
    (hCX : ∀ (H : Hp) (s : Shared) (e : Value) (s' : Shared), CX [] H s (fun _ _ _ => False) e s' → False) :
    PySem.W.WalkOS q loose XP YP r d [] (fun f vs => PySem.call f vs) :=
  walk_spec (K := K) (CX := fun _ => CX) (sp := fun w => sp (K w.params)) hwell hdf hlen hr hY F (fun w H xs a h1 h2 h3 h4 => hsp (K w.params) H xs a h1 h2 h3 h4) fun _ H s e s' => hCX H s e s'
end L2
-- rests on (row put in by the clerk, for the bench that shows a file only what it spells): KE.SpHead KE.OsShapes
end
end
section
set_option Elab.async false
set_option linter.all false
/-! The mathematics of the pairings and the rings: what the program lists, row by row, is what the specification lists. -/
namespace Rs
open Vbhoam

/-! ### rows lengthened step by step -/
def iter (f : List Nat → List (List Nat)) : Nat → List (List Nat) → List (List Nat)
  | 0, rows => rows
  | k + 1, rows => iter f k (rows.flatMap f)
theorem iter_nil (f : List Nat → List (List Nat)) : ∀ k, iter f k [] = []
  | 0 => rfl
  | k + 1 => iter_nil f k
theorem iter_app (f : List Nat → List (List Nat)) : ∀ (k : Nat) (a b : List (List Nat)), iter f k (a ++ b) = iter f k a ++ iter f k b
  | 0, _, _ => rfl
  | k + 1, a, b => by
    show iter f k ((a ++ b).flatMap f) = iter f k (a.flatMap f) ++ iter f k (b.flatMap f)
    rw [List.flatMap_append, iter_app f k]
theorem iter_flat (f : List Nat → List (List Nat)) (k : Nat) : ∀ rows : List (List Nat), iter f k rows = rows.flatMap fun r => iter f k [r]
  | [] => iter_nil f k
  | r :: rows => by
    rw [show r :: rows = [r] ++ rows from rfl, iter_app, iter_flat f k rows, List.flatMap_append]
    simp
theorem iter_one (f : List Nat → List (List Nat)) (k : Nat) (r : List Nat) : iter f (k + 1) [r] = (f r).flatMap fun x => iter f k [x] := by
  show iter f k ([r].flatMap f) = _
  rw [iter_flat]
  simp
theorem iter_last (f : List Nat → List (List Nat)) : ∀ (k : Nat) (rows : List (List Nat)), iter f (k + 1) rows = (iter f k rows).flatMap f
  | 0, _ => rfl
  | k + 1, rows => iter_last f k (rows.flatMap f)

theorem flat_congr {α β : Type} {f g : α → List β} : ∀ {xs : List α}, (∀ x ∈ xs, f x = g x) → xs.flatMap f = xs.flatMap g
  | [], _ => rfl
  | x :: r, h => by
    rw [List.flatMap_cons, List.flatMap_cons, h x (List.mem_cons_self ..), flat_congr fun y hy => h y (List.mem_cons_of_mem _ hy)]

/-! ### lists of the guests -/
theorem mem_guests {l : Likes} {i : Nat} : i ∈ guests l ↔ 1 ≤ i ∧ i ≤ l.length := by
  unfold guests
  rw [List.mem_map]
  constructor
  · rintro ⟨a, ha, rfl⟩
    have := List.mem_range.mp ha
    omega
  · rintro ⟨h1, h2⟩
    exact ⟨i - 1, List.mem_range.mpr (by omega), by omega⟩
theorem guests_lt (l : Likes) : (guests l).Pairwise (· < ·) := by
  unfold guests
  rw [List.pairwise_map]
  exact List.Pairwise.imp (fun h => by omega) List.pairwise_lt_range
theorem guests_len (l : Likes) : (guests l).length = l.length := by
  unfold guests
  rw [List.length_map, List.length_range]
theorem guests_nodup (l : Likes) : (guests l).Nodup := (guests_lt l).imp fun h => Nat.ne_of_lt h

/-! ### pairings -/
/-- whom the guest behind those of row can share with -/
def choices (l : Likes) (row : List Nat) : List Nat :=
  if row.contains (row.length + 1) then [row.findIdx (· == row.length + 1) + 1]
  else 0 :: (guests l).filter fun j => decide (row.length + 1 < j) && (!row.contains j && mutual_ l (row.length + 1) j)
def growP (l : Likes) (row : List Nat) : List (List Nat) := (choices l row).map fun p => row ++ [p]
def allP (l : Likes) : List (List Nat) := iter (growP l) l.length [[]]

theorem choices_in {l : Likes} {row : List Nat} (h : row.contains (row.length + 1) = true) : choices l row = [row.findIdx (· == row.length + 1) + 1] := by
  unfold choices; rw [if_pos h]
theorem choices_out {l : Likes} {row : List Nat} (h : row.contains (row.length + 1) = false) : choices l row = 0 :: (guests l).filter fun j => decide (row.length + 1 < j) && (!row.contains j && mutual_ l (row.length + 1) j) := by
  unfold choices; rw [h, if_neg (by simp)]
theorem growP_flat {α : Type} (l : Likes) (row : List Nat) (g : List Nat → List α) : (growP l row).flatMap g = (choices l row).flatMap fun p => g (row ++ [p]) := by
  unfold growP; rw [List.flatMap_map]
theorem choices_lt (l : Likes) (row : List Nat) : (choices l row).Pairwise (· < ·) := by
  unfold choices
  split
  · exact List.pairwise_singleton _ _
  · refine List.pairwise_cons.mpr ⟨fun j hj => ?_, (guests_lt l).filter _⟩
    have := (mem_guests.mp (List.mem_filter.mp hj).1).1
    omega

/-- the row of the guests so far, and the whole pairing as the specification has it -/
structure Rel (n : Nat) (row m : List Nat) : Prop where
  len : m.length = n
  lt : row.length ≤ n
  tak : m.take row.length = row
  rest : ∀ j, row.length < j → j ≤ n → partner m j = if row.contains j then row.findIdx (· == j) + 1 else 0

theorem findIdx_app_in {row : List Nat} {j : Nat} (s : List Nat) (h : row.contains j = true) : (row ++ s).findIdx (· == j) = row.findIdx (· == j) := by
  rw [List.findIdx_append, if_pos]
  rw [List.findIdx_lt_length]
  rw [List.contains_iff_mem] at h
  exact ⟨j, h, beq_self_eq_true j⟩
theorem findIdx_app_out {row : List Nat} {j : Nat} (s : List Nat) (h : row.contains j = false) : (row ++ s).findIdx (· == j) = row.length + s.findIdx (· == j) := by
  rw [List.findIdx_append, if_neg]
  · exact Nat.add_comm _ _
  rw [List.findIdx_lt_length]
  rintro ⟨x, hx, e⟩
  have e' : x = j := eq_of_beq e
  subst e'
  rw [← List.contains_iff_mem, h] at hx
  cases hx
theorem findIdx_lt {row : List Nat} {j : Nat} (h : row.contains j = true) : row.findIdx (· == j) < row.length := by
  rw [List.findIdx_lt_length]
  rw [List.contains_iff_mem] at h
  exact ⟨j, h, beq_self_eq_true j⟩
theorem contains_app (row s : List Nat) (j : Nat) : (row ++ s).contains j = (row.contains j || s.contains j) := by
  simp [List.contains_eq_mem]
theorem contains_one (p j : Nat) : [p].contains j = (j == p) := by
  show (j == p || false) = (j == p)
  rw [Bool.or_false]
theorem partner_get {m : List Nat} {i : Nat} (h : i - 1 < m.length) : m[i - 1]? = some (partner m i) := by
  unfold partner
  rw [List.getElem?_eq_getElem h]; rfl
theorem partner_setAt {m : List Nat} {i j x : Nat} (hi : 1 ≤ i) (hj : 1 ≤ j) (hl : i ≤ m.length) : partner (setAt m i x) j = if j = i then x else partner m j := by
  unfold partner setAt
  by_cases e : j = i
  · subst e
    rw [if_pos rfl, List.getElem?_set_self (by omega)]; rfl
  · rw [if_neg e, List.getElem?_set_ne (by omega)]
theorem take_succ_partner {m : List Nat} {k : Nat} (h : k < m.length) : m.take (k + 1) = m.take k ++ [partner m (k + 1)] := by
  rw [List.take_succ]
  have := partner_get (m := m) (i := k + 1) (by simpa using h)
  simp at this
  rw [this]; rfl

theorem Rel.in_row {n : Nat} {row m : List Nat} (R : Rel n row m) (h : row.length < n) (hc : row.contains (row.length + 1) = true) : Rel n (row ++ [row.findIdx (· == row.length + 1) + 1]) m := by
  have e := R.rest (row.length + 1) (Nat.lt_succ_self _) h
  rw [if_pos hc] at e
  have hlt := findIdx_lt hc
  refine ⟨R.len, by rw [List.length_append]; exact h, ?_, fun j h1 h2 => ?_⟩
  · rw [List.length_append]
    show m.take (row.length + 1) = _
    rw [take_succ_partner (by rw [R.len]; exact h), R.tak, e]
  · rw [List.length_append] at h1
    have h1 : row.length + 1 < j := h1
    rw [R.rest j (by omega) h2, contains_app, contains_one, show (j == row.findIdx (· == row.length + 1) + 1) = false from beq_false_of_ne (by omega), Bool.or_false]
    split
    · rename_i hj
      rw [findIdx_app_in _ hj]
    · rfl
theorem Rel.alone {n : Nat} {row m : List Nat} (R : Rel n row m) (h : row.length < n) (hc : row.contains (row.length + 1) = false) : Rel n (row ++ [0]) m := by
  have e := R.rest (row.length + 1) (Nat.lt_succ_self _) h
  rw [hc] at e
  have e : partner m (row.length + 1) = 0 := e
  refine ⟨R.len, by rw [List.length_append]; exact h, ?_, fun j h1 h2 => ?_⟩
  · rw [List.length_append]
    show m.take (row.length + 1) = _
    rw [take_succ_partner (by rw [R.len]; exact h), R.tak, e]
  · rw [List.length_append] at h1
    have h1 : row.length + 1 < j := h1
    rw [R.rest j (by omega) h2, contains_app, contains_one, show (j == 0) = false from beq_false_of_ne (by omega), Bool.or_false]
    split
    · rename_i hj
      rw [findIdx_app_in _ hj]
    · rfl
theorem Rel.with_ {n : Nat} {row m : List Nat} (R : Rel n row m) (h : row.length < n) {p : Nat} (hp : row.length + 1 < p) (hpn : p ≤ n) (hc : row.contains p = false) : Rel n (row ++ [p]) (setAt (setAt m (row.length + 1) p) p (row.length + 1)) := by
  have hl1 : (setAt m (row.length + 1) p).length = n := by unfold setAt; rw [List.length_set]; exact R.len
  have hl2 : (setAt (setAt m (row.length + 1) p) p (row.length + 1)).length = n := by unfold setAt; rw [List.length_set, List.length_set]; exact R.len
  have pt : ∀ j, 1 ≤ j → partner (setAt (setAt m (row.length + 1) p) p (row.length + 1)) j = if j = p then row.length + 1 else if j = row.length + 1 then p else partner m j := fun j hj => by
    rw [partner_setAt (by omega) hj (by omega), partner_setAt (by omega) hj (by rw [R.len]; omega)]
  refine ⟨hl2, by rw [List.length_append]; exact h, ?_, fun j h1 h2 => ?_⟩
  · rw [List.length_append]
    show (setAt (setAt m (row.length + 1) p) p (row.length + 1)).take (row.length + 1) = _
    rw [take_succ_partner (by rw [hl2]; exact h), pt _ (by omega), if_neg (by omega), if_pos rfl]
    congr 1
    unfold setAt
    rw [List.take_set_of_le (by omega), List.take_set_of_le (by omega), R.tak]
  · rw [List.length_append] at h1
    have h1 : row.length + 1 < j := h1
    rw [pt j (by omega), contains_app, contains_one]
    by_cases e : j = p
    · subst e
      rw [if_pos rfl, beq_self_eq_true, Bool.or_true, if_pos rfl, findIdx_app_out _ hc]
      simp
    · rw [if_neg e, if_neg (by omega), R.rest j (by omega) h2, show (j == p) = false from beq_false_of_ne e, Bool.or_false]
      split
      · rename_i hj
        rw [findIdx_app_in _ hj]
      · rfl
theorem pairings_eq (l : Likes) : ∀ (k : Nat) (row m : List Nat), Rel l.length row m → row.length + k = l.length → iter (growP l) k [row] = pairingsFrom l k (row.length + 1) m
  | 0, row, m, R, e => by
    have : m = row := by
      have h := R.tak
      rw [List.take_of_length_le (by rw [R.len]; omega)] at h
      exact h
    subst this; rfl
  | k + 1, row, m, R, e => by
    have hlt : row.length < l.length := by omega
    have er := R.rest (row.length + 1) (Nat.lt_succ_self _) (by omega)
    rw [iter_one, growP_flat]
    unfold pairingsFrom
    cases hc : row.contains (row.length + 1) with
    | true =>
      rw [hc, if_pos rfl] at er
      rw [if_pos (by rw [er]; omega)]
      rw [choices_in hc]
      have := pairings_eq l k _ m (R.in_row hlt hc) (by rw [List.length_append]; show row.length + 1 + k = _; omega)
      rw [List.length_append] at this
      simpa using this
    | false =>
      rw [hc] at er
      have er : partner m (row.length + 1) = 0 := er
      rw [if_neg (by rw [er]; simp)]
      rw [choices_out hc, List.flatMap_cons]
      have h0 := pairings_eq l k _ m (R.alone hlt hc) (by rw [List.length_append]; show row.length + 1 + k = _; omega)
      rw [List.length_append] at h0
      rw [h0]
      congr 1
      have hf : (guests l).filter (fun j => decide (row.length + 1 < j) && (!row.contains j && mutual_ l (row.length + 1) j)) = (guests l).filter (fun j => decide (row.length + 1 < j) && (mutual_ l (row.length + 1) j && partner m j == 0)) := by
        refine List.filter_congr fun j hj => ?_
        have hg := mem_guests.mp hj
        by_cases hlt' : row.length + 1 < j
        · rw [R.rest j (by omega) hg.2]
          cases row.contains j <;> simp [Bool.and_comm]
        · simp [hlt']
      rw [hf]
      refine flat_congr fun j hj => ?_
      obtain ⟨hj1, hj2⟩ := List.mem_filter.mp hj
      have hg := mem_guests.mp hj1
      simp only [Bool.and_eq_true, decide_eq_true_eq, beq_iff_eq] at hj2
      have hcj : row.contains j = false := by
        have := R.rest j (by omega) hg.2
        rw [hj2.2.2] at this
        cases q : row.contains j with
        | false => rfl
        | true => rw [q, if_pos rfl] at this; omega
      have := pairings_eq l k _ _ (R.with_ hlt hj2.1 hg.2 hcj) (by rw [List.length_append]; show row.length + 1 + k = _; omega)
      rw [List.length_append] at this
      exact this
theorem zeros_rel (l : Likes) : Rel l.length [] (l.map fun _ => 0) := by
  refine ⟨List.length_map _, Nat.zero_le _, rfl, fun j h1 h2 => ?_⟩
  unfold partner
  rw [List.getElem?_map]
  cases l[j - 1]? <;> rfl
theorem allP_eq (l : Likes) : allP l = pairingsFrom l l.length 1 (l.map fun _ => 0) := pairings_eq l l.length [] _ (zeros_rel l) (Nat.zero_add _)

/-! ### they stand in order -/
theorem before_app : ∀ (row : List Nat) {a b : Nat} (s t : List Nat), a < b → before (row ++ a :: s) (row ++ b :: t) = true
  | [], a, b, s, t, h => by
    show (decide (a < b) || _) = true
    rw [decide_eq_true h, Bool.true_or]
  | x :: row, a, b, s, t, h => by
    show (decide (x < x) || (x == x && before (row ++ a :: s) (row ++ b :: t))) = true
    rw [before_app row s t h, beq_self_eq_true, Bool.and_true, Bool.or_true]
theorem iter_starts {f : List Nat → List (List Nat)} (hf : ∀ r x, x ∈ f r → ∃ p, x = r ++ [p]) : ∀ (k : Nat) (r x : List Nat), x ∈ iter f k [r] → ∃ s, x = r ++ s ∧ s.length = k
  | 0, r, x, h => ⟨[], by simpa [iter] using h, rfl⟩
  | k + 1, r, x, h => by
    rw [iter_one] at h
    obtain ⟨y, hy, hx⟩ := List.mem_flatMap.mp h
    obtain ⟨p, rfl⟩ := hf r y hy
    obtain ⟨s, rfl, hs⟩ := iter_starts hf k _ x hx
    exact ⟨p :: s, by simp, by simp [hs]⟩
theorem growP_starts (l : Likes) (r x : List Nat) (h : x ∈ growP l r) : ∃ p, x = r ++ [p] := by
  obtain ⟨p, _, rfl⟩ := List.mem_map.mp h
  exact ⟨p, rfl⟩
theorem iter_sorted (l : Likes) : ∀ (k : Nat) (r : List Nat), (iter (growP l) k [r]).Pairwise fun x y => before x y = true
  | 0, r => List.pairwise_singleton _ _
  | k + 1, r => by
    rw [iter_one, growP_flat, List.pairwise_flatMap]
    refine ⟨fun p _ => iter_sorted l k _, (choices_lt l r).imp fun {p q} hpq x hx y hy => ?_⟩
    obtain ⟨s, rfl, _⟩ := iter_starts (growP_starts l) k _ x hx
    obtain ⟨t, rfl, _⟩ := iter_starts (growP_starts l) k _ y hy
    rw [List.append_assoc, List.append_assoc]
    exact before_app r s t hpq
theorem sortRows_sorted : ∀ {rows : List (List Nat)}, (rows.Pairwise fun x y => before x y = true) → sortRows rows = rows
  | [], _ => rfl
  | x :: r, h => by
    have h := List.pairwise_cons.mp h
    show insertRow x (sortRows r) = x :: r
    rw [sortRows_sorted h.2]
    cases r with
    | nil => rfl
    | cons y r =>
      show (if before x y = true then x :: y :: r else y :: insertRow x r) = _
      rw [if_pos (h.1 y (List.mem_cons_self ..))]
theorem stables_eq (l : Likes) : stables l = (allP l).filter fun m => (blocks l m).isEmpty := by
  unfold stables
  rw [← allP_eq]
  exact sortRows_sorted ((iter_sorted l _ _).filter _)

end Rs
end
section
set_option Elab.async false
set_option linter.all false
namespace Rs
open Vbhoam

/-! ### counting -/
theorem sub_len {α : Type} [DecidableEq α] : ∀ {r L : List α}, r.Nodup → (∀ x ∈ r, x ∈ L) → r.length ≤ L.length
  | [], _, _, _ => Nat.zero_le _
  | x :: r, L, hn, hs => by
    have hn := List.nodup_cons.mp hn
    have hx : x ∈ L := hs x (List.mem_cons_self ..)
    have := sub_len (L := L.erase x) hn.2 fun y hy => (List.mem_erase_of_ne (by rintro rfl; exact hn.1 hy)).mpr (hs y (List.mem_cons_of_mem _ hy))
    rw [List.length_erase_of_mem hx] at this
    have h0 := List.length_pos_of_mem hx
    rw [List.length_cons]
    omega
theorem sub_full {α : Type} [DecidableEq α] {r L : List α} (hn : r.Nodup) (hs : ∀ x ∈ r, x ∈ L) (hl : L.length ≤ r.length) : ∀ x ∈ L, x ∈ r := fun x hx => by
  apply Classical.byContradiction
  intro hr
  have := sub_len (r := r) (L := L.erase x) hn fun y hy => (List.mem_erase_of_ne (by rintro rfl; exact hr hy)).mpr (hs y hy)
  rw [List.length_erase_of_mem hx] at this
  have h0 := List.length_pos_of_mem hx
  omega
/-- a row as long as there are guests, with each of them in it, has each once -/
theorem nodup_of_full {α : Type} [DecidableEq α] {r L : List α} (hn : L.Nodup) (hs : ∀ x ∈ L, x ∈ r) (hl : r.length ≤ L.length) : r.Nodup := by
  induction r generalizing L with
  | nil => exact List.nodup_nil
  | cons x r ih =>
    by_cases hx : x ∈ r
    · have := sub_len (r := L) (L := r) hn fun y hy => by
        rcases List.mem_cons.mp (hs y hy) with e | e
        · rw [e]; exact hx
        · exact e
      rw [List.length_cons] at hl
      omega
    · refine List.nodup_cons.mpr ⟨hx, ?_⟩
      by_cases hxL : x ∈ L
      · refine ih (L := L.erase x) (hn.erase _) (fun y hy => ?_) (by rw [List.length_erase_of_mem hxL]; rw [List.length_cons] at hl; omega)
        have hne : y ≠ x := by rintro rfl; exact (List.Nodup.not_mem_erase hn) hy
        rcases List.mem_cons.mp (hs y (List.mem_of_mem_erase hy)) with e | e
        · exact absurd e hne
        · exact e
      · have := sub_len (r := L) (L := r) hn fun y hy => by
          rcases List.mem_cons.mp (hs y hy) with e | e
          · rw [e] at hy; exact absurd hy hxL
          · exact e
        rw [List.length_cons] at hl
        omega

/-! ### rings -/
/-- a row with each guest in it, just once -/
structure Full (l : Likes) (r : List Nat) : Prop where
  len : r.length = l.length
  all : ∀ i ∈ guests l, i ∈ r
theorem Full.nodup {l : Likes} {r : List Nat} (h : Full l r) : r.Nodup := nodup_of_full (guests_nodup l) h.all (by rw [h.len, guests_len]; exact Nat.le_refl _)
theorem Full.only {l : Likes} {r : List Nat} (h : Full l r) : ∀ x ∈ r, x ∈ guests l := sub_full (guests_nodup l) h.all (by rw [h.len, guests_len]; exact Nat.le_refl _)
theorem isRings_full {l : Likes} {r : List Nat} (h : isRings l r = true) : Full l r := by
  unfold isRings at h
  rw [Bool.and_eq_true, beq_iff_eq, List.all_eq_true] at h
  refine ⟨h.1, fun i hi => ?_⟩
  have := h.2 i hi
  rw [Bool.and_eq_true, List.contains_iff_mem] at this
  exact this.1
theorem count_full {l : Likes} {r : List Nat} (h : Full l r) {i : Nat} (hi : i ∈ guests l) : r.count i = 1 := by
  have h1 := List.count_pos_iff.mpr (h.all i hi)
  have h2 := List.nodup_iff_count.mp h.nodup i
  omega

def befores (r : List Nat) : List Nat := (List.range r.length).map fun k => r.findIdx (· == k + 1) + 1
theorem previous_eq {r : List Nat} {i : Nat} (h : r.contains i = true) : previous r i = r.findIdx (· == i) + 1 := by
  unfold previous
  have hlt := findIdx_lt h
  rw [List.findIdx?_eq_some_of_exists]
  · rfl
  · rw [List.contains_iff_mem] at h
    exact ⟨i, h, beq_self_eq_true i⟩
theorem befores_at {r : List Nat} {i : Nat} (h1 : 1 ≤ i) (h2 : i ≤ r.length) : partner (befores r) i = r.findIdx (· == i) + 1 := by
  unfold partner befores
  rw [List.getElem?_map, List.getElem?_range (by omega)]
  show r.findIdx (· == i - 1 + 1) + 1 = _
  rw [Nat.sub_add_cancel h1]
theorem ringBlocks_eq {l : Likes} {r : List Nat} (h : Full l r) : ringBlocks l r = blocks l (befores r) := by
  unfold ringBlocks blocks
  refine flat_congr fun i hi => ?_
  have hi' := mem_guests.mp hi
  congr 1
  refine List.filter_congr fun j hj => ?_
  have hj' := mem_guests.mp hj
  unfold ringBlock block
  rw [previous_eq (List.contains_iff_mem.mpr (h.all i hi)), previous_eq (List.contains_iff_mem.mpr (h.all j hj)), befores_at hi'.1 (by rw [h.len]; exact hi'.2), befores_at hj'.1 (by rw [h.len]; exact hj'.2)]

/-- as the program asks it, in the beginning of rings too -/
def willing (l : Likes) (row : List Nat) (g : Nat) : Bool :=
  if row.length < g || !row.contains g then true
  else partner row g == row.findIdx (· == g) + 1 || prefers l g (partner row g) (row.findIdx (· == g) + 1)
def follow (l : Likes) (row : List Nat) (f : Nat) : Bool := !row.contains f && (f == row.length + 1 || mutual_ l (row.length + 1) f)
def growR (l : Likes) (row : List Nat) : List (List Nat) :=
  ((guests l).filter fun f => follow l row f && (willing l (row ++ [f]) (row.length + 1) && willing l (row ++ [f]) f)).map fun f => row ++ [f]
def allR (l : Likes) : List (List Nat) := iter (growR l) l.length [[]]
theorem growR_flat {α : Type} (l : Likes) (row : List Nat) (g : List Nat → List α) : (growR l row).flatMap g = ((guests l).filter fun f => follow l row f && (willing l (row ++ [f]) (row.length + 1) && willing l (row ++ [f]) f)).flatMap fun p => g (row ++ [p]) := by
  unfold growR; rw [List.flatMap_map]

theorem partner_app {row s : List Nat} {g : Nat} (h1 : 1 ≤ g) (h : g ≤ row.length) : partner (row ++ s) g = partner row g := by
  unfold partner
  rw [List.getElem?_append_left (by omega)]
theorem willing_app {l : Likes} {row s : List Nat} {g : Nat} (h1 : 1 ≤ g) (h : g ≤ row.length) (hc : row.contains g = true) : willing l (row ++ s) g = willing l row g := by
  unfold willing
  rw [partner_app h1 h, findIdx_app_in s hc, contains_app, hc, List.length_append]
  have e1 : decide (row.length + s.length < g) = false := decide_eq_false (by omega)
  have e2 : decide (row.length < g) = false := decide_eq_false (by omega)
  rw [e1, e2]
  rfl
theorem willing_other {l : Likes} {row : List Nat} {g f : Nat} (h1 : 1 ≤ g) (hg : g ≠ row.length + 1) (hf : g ≠ f) (w : willing l row g = true) : willing l (row ++ [f]) g = true := by
  by_cases hl : row.length < g
  · unfold willing
    rw [List.length_append, show decide (row.length + [f].length < g) = true from decide_eq_true (by show row.length + 1 < g; omega), Bool.true_or, if_pos rfl]
  · cases hc : row.contains g with
    | true => rw [willing_app h1 (by omega) hc]; exact w
    | false =>
      unfold willing
      rw [contains_app, hc, contains_one, show (g == f) = false from beq_false_of_ne hf, Bool.or_false, Bool.not_false, Bool.or_true, if_pos rfl]
def Will (l : Likes) (row : List Nat) : Prop := ∀ g ∈ guests l, willing l row g = true
theorem not_will {l : Likes} {row s : List Nat} {g : Nat} (h1 : 1 ≤ g) (h : willing l row g = false) : willing l (row ++ s) g = false := by
  have hc : (decide (row.length < g) || !row.contains g) = false := by
    unfold willing at h
    split at h
    · cases h
    · rename_i q
      exact Bool.eq_false_iff.mpr q
  rw [Bool.or_eq_false_iff] at hc
  have h2 : g ≤ row.length := Nat.le_of_not_lt (of_decide_eq_false hc.1)
  have h3 : row.contains g = true := by
    cases q : row.contains g with
    | true => rfl
    | false => rw [q] at hc; exact absurd hc.2 (by simp)
  rw [willing_app h1 h2 h3]
  exact h
theorem next_eq (r : List Nat) (i : Nat) : next r i = partner r i := rfl
theorem fault_iff {l : Likes} {r : List Nat} (h : Full l r) : (ringFault l r).isNone = true ↔ Will l r := by
  unfold ringFault
  rw [Option.isNone_iff_eq_none, List.find?_eq_none]
  refine ⟨fun q g hg => ?_, fun q g hg => ?_⟩
  all_goals
    have hg' := mem_guests.mp hg
    have hc : r.contains g = true := List.contains_iff_mem.mpr (h.all g hg)
    have e : willing l r g = (next r g == previous r g || prefers l g (next r g) (previous r g)) := by
      unfold willing
      rw [hc, show decide (r.length < g) = false from decide_eq_false (by rw [h.len]; omega), previous_eq hc]
      rfl
    have q' := q g hg
    rw [e] at *
    cases h1 : (next r g == previous r g || prefers l g (next r g) (previous r g)) with
    | true => simp
    | false => rw [h1] at q'; simp at q'
theorem ringsFrom_starts (l : Likes) : ∀ (k i : Nat) (r x : List Nat), x ∈ ringsFrom l k i r → ∃ s, x = r ++ s
  | 0, i, r, x, h => ⟨[], by simpa [ringsFrom] using h⟩
  | k + 1, i, r, x, h => by
    unfold ringsFrom at h
    obtain ⟨j, _, hx⟩ := List.mem_flatMap.mp h
    obtain ⟨s, rfl⟩ := ringsFrom_starts l k _ _ x hx
    exact ⟨j :: s, by simp⟩
/-- what stands in the beginning of rings -/
structure Beg (l : Likes) (row : List Nat) : Prop where
  nd : row.Nodup
  only : ∀ x ∈ row, x ∈ guests l
theorem Beg.full {l : Likes} {r : List Nat} (h : Beg l r) (hl : r.length = l.length) : Full l r := ⟨hl, sub_full h.nd h.only (by rw [hl, guests_len]; exact Nat.le_refl _)⟩
theorem Beg.snoc {l : Likes} {row : List Nat} {f : Nat} (h : Beg l row) (hf : f ∈ guests l) (hc : row.contains f = false) : Beg l (row ++ [f]) := by
  refine ⟨?_, fun x hx => ?_⟩
  · rw [List.nodup_append]
    refine ⟨h.nd, by simp, fun a ha b hb e => ?_⟩
    have hb := List.mem_singleton.mp hb
    subst hb; subst e
    rw [List.contains_iff_mem.mpr ha] at hc
    cases hc
  · rcases List.mem_append.mp hx with q | q
    · exact h.only x q
    · rw [List.mem_singleton.mp q]; exact hf
theorem ringsFrom_full (l : Likes) : ∀ (k : Nat) (row : List Nat) (i : Nat), Beg l row → row.length + k = l.length → ∀ x ∈ ringsFrom l k i row, Full l x
  | 0, row, i, B, e, x, hx => by
    have : x = row := by simpa [ringsFrom] using hx
    rw [this]
    exact B.full (by omega)
  | k + 1, row, i, B, e, x, hx => by
    unfold ringsFrom at hx
    obtain ⟨j, hj, hx⟩ := List.mem_flatMap.mp hx
    obtain ⟨h1, h2⟩ := List.mem_filter.mp hj
    rw [Bool.and_eq_true] at h2
    exact ringsFrom_full l k (row ++ [j]) _ (B.snoc h1 (by simpa using h2.1)) (by rw [List.length_append]; show row.length + 1 + k = _; omega) x hx
theorem rings_eq (l : Likes) : ∀ (k : Nat) (row : List Nat), Beg l row → Will l row → row.length + k = l.length → iter (growR l) k [row] = (ringsFrom l k (row.length + 1) row).filter fun r => (ringFault l r).isNone
  | 0, row, B, W, e => by
    have h := (fault_iff (B.full (by omega))).mpr W
    unfold iter ringsFrom
    rw [List.filter_cons, if_pos h]; rfl
  | k + 1, row, B, W, e => by
    rw [iter_one, growR_flat]
    unfold ringsFrom
    rw [List.filter_flatMap]
    have hs : ∀ L : List Nat, (∀ f ∈ L, f ∈ guests l) → ((L.filter fun f => follow l row f && (willing l (row ++ [f]) (row.length + 1) && willing l (row ++ [f]) f)).flatMap fun p => iter (growR l) k [row ++ [p]])
        = (L.filter fun j => !row.contains j && (j == row.length + 1 || mutual_ l (row.length + 1) j)).flatMap fun a => (ringsFrom l k (row.length + 1 + 1) (row ++ [a])).filter fun r => (ringFault l r).isNone := by
      intro L
      induction L with
      | nil => intro _; rfl
      | cons f L ih =>
        intro hL
        have ihL := ih fun x hx => hL x (List.mem_cons_of_mem _ hx)
        have hf := hL f (List.mem_cons_self ..)
        have hf' := mem_guests.mp hf
        rw [List.filter_cons, List.filter_cons]
        show (List.flatMap _ (if (follow l row f && _) = true then _ else _)) = List.flatMap _ (if (follow l row f) = true then _ else _)
        cases hfo : follow l row f with
        | false => simpa using ihL
        | true =>
          have hc : row.contains f = false := by
            unfold follow at hfo
            rw [Bool.and_eq_true] at hfo
            simpa using hfo.1
          have B' := B.snoc hf hc
          rw [Bool.true_and, if_pos rfl, List.flatMap_cons]
          cases hw : (willing l (row ++ [f]) (row.length + 1) && willing l (row ++ [f]) f) with
          | true =>
            rw [if_pos rfl, List.flatMap_cons, ihL]
            rw [Bool.and_eq_true] at hw
            have W' : Will l (row ++ [f]) := fun g hg => by
              have hg' := mem_guests.mp hg
              by_cases e1 : g = row.length + 1
              · rw [e1]; exact hw.1
              · by_cases e2 : g = f
                · rw [e2]; exact hw.2
                · exact willing_other hg'.1 e1 e2 (W g hg)
            have h0 := rings_eq l k (row ++ [f]) B' W' (by rw [List.length_append]; show row.length + 1 + k = _; omega)
            rw [List.length_append] at h0
            rw [h0]; rfl
          | false =>
            rw [if_neg (by simp), ihL]
            have hno : (ringsFrom l k (row.length + 1 + 1) (row ++ [f])).filter (fun r => (ringFault l r).isNone) = [] := by
              rw [List.filter_eq_nil_iff]
              intro x hx hn
              obtain ⟨s, rfl⟩ := ringsFrom_starts l k _ _ x hx
              have hF : Full l (row ++ [f] ++ s) := by
                exact ringsFrom_full l k (row ++ [f]) (row.length + 1 + 1) B' (by rw [List.length_append]; show row.length + 1 + k = _; omega) _ hx
              have hW := (fault_iff hF).mp hn
              rw [Bool.and_eq_false_iff] at hw
              rcases hw with q | q
              · have := not_will (s := s) (by omega) q
                rw [hW _ (mem_guests.mpr ⟨by omega, by omega⟩)] at this
                cases this
              · have := not_will (s := s) hf'.1 q
                rw [hW f hf] at this
                cases this
            rw [hno]; rfl
    exact hs (guests l) fun _ h => h
theorem beg_nil (l : Likes) : Beg l [] := ⟨List.nodup_nil, fun _ h => absurd h (by simp)⟩
theorem will_nil (l : Likes) : Will l [] := fun g hg => by
  have := mem_guests.mp hg
  unfold willing
  rw [show decide (([] : List Nat).length < g) = true from decide_eq_true (by show 0 < g; omega), Bool.true_or, if_pos rfl]
theorem allR_eq (l : Likes) : allR l = (ringsFrom l l.length 1 []).filter fun r => (ringFault l r).isNone := rings_eq l l.length [] (beg_nil l) (will_nil l) (Nat.zero_add _)
theorem allR_full {l : Likes} {r : List Nat} (h : r ∈ allR l) : Full l r := by
  rw [allR_eq] at h
  exact ringsFrom_full l l.length [] 1 (beg_nil l) (Nat.zero_add _) r (List.mem_filter.mp h).1
theorem witness_eq (l : Likes) : witness l = (allR l).find? fun r => (blocks l (befores r)).isEmpty := by
  unfold witness
  rw [allR_eq, List.find?_filter]
  have hF : ∀ r ∈ ringsFrom l l.length 1 [], Full l r := ringsFrom_full l l.length [] 1 (beg_nil l) (Nat.zero_add _)
  generalize ringsFrom l l.length 1 [] = L at hF
  induction L with
  | nil => rfl
  | cons r L ih =>
    have ih := ih fun x hx => hF x (List.mem_cons_of_mem _ hx)
    rw [List.find?_cons, List.find?_cons, ih, ringBlocks_eq (hF r (List.mem_cons_self ..))]
    cases (ringFault l r).isNone <;> cases (blocks l (befores r)).isEmpty <;> rfl
end Rs
end
section
set_option Elab.async false
set_option linter.all false
namespace Rs
open Vbhoam

/-! ### how long a ring is -/
def orb (r : List Nat) (i : Nat) : Nat → Nat
  | 0 => i
  | t + 1 => partner r (orb r i t)
theorem partner_mem {r : List Nat} {i : Nat} (h1 : 1 ≤ i) (h2 : i ≤ r.length) : partner r i ∈ r := List.mem_of_getElem? (partner_get (m := r) (i := i) (by omega))
theorem orb_in {l : Likes} {r : List Nat} (F : Full l r) {i : Nat} (hi : i ∈ guests l) : ∀ t, orb r i t ∈ guests l
  | 0 => hi
  | t + 1 => by
    have := mem_guests.mp (orb_in F hi t)
    exact F.only _ (partner_mem this.1 (by rw [F.len]; exact this.2))
theorem partner_inj {l : Likes} {r : List Nat} (F : Full l r) {x y : Nat} (hx : x ∈ guests l) (hy : y ∈ guests l) (e : partner r x = partner r y) : x = y := by
  have hx := mem_guests.mp hx
  have hy := mem_guests.mp hy
  have a := partner_get (m := r) (i := x) (by rw [F.len]; omega)
  have b := partner_get (m := r) (i := y) (by rw [F.len]; omega)
  rw [e] at a
  obtain ⟨h1, e1⟩ := List.getElem?_eq_some_iff.mp a
  obtain ⟨h2, e2⟩ := List.getElem?_eq_some_iff.mp b
  have := (List.getElem_inj F.nodup).mp (e1.trans e2.symm)
  omega
theorem orb_back {l : Likes} {r : List Nat} (F : Full l r) {i : Nat} (hi : i ∈ guests l) : ∀ (a d : Nat), orb r i a = orb r i (a + d) → orb r i d = i
  | 0, d, e => by rw [Nat.zero_add] at e; exact e.symm
  | a + 1, d, e => by
    rw [Nat.add_right_comm] at e
    exact orb_back F hi a d (partner_inj F (orb_in F hi _) (orb_in F hi _) e)
theorem orb_ends {l : Likes} {r : List Nat} (F : Full l r) {i : Nat} (hi : i ∈ guests l) : ∃ k, 1 ≤ k ∧ k ≤ l.length ∧ orb r i k = i := by
  apply Classical.byContradiction
  intro hno
  have nd : ((List.range (l.length + 1)).map (orb r i)).Nodup := by
    show List.Pairwise _ _
    rw [List.pairwise_map]
    refine List.Pairwise.imp_of_mem (fun {a b} ha hb hab e => ?_) List.pairwise_lt_range
    have hb := List.mem_range.mp hb
    refine hno ⟨b - a, by omega, by omega, orb_back F hi a (b - a) ?_⟩
    rw [Nat.add_sub_cancel' (Nat.le_of_lt hab)]
    exact e
  have := sub_len nd (L := guests l) fun x hx => by
    obtain ⟨t, _, rfl⟩ := List.mem_map.mp hx
    exact orb_in F hi t
  rw [List.length_map, List.length_range, guests_len] at this
  omega
theorem least {P : Nat → Prop} : ∀ {k : Nat}, P k → ∃ m, m ≤ k ∧ P m ∧ ∀ t, t < m → ¬ P t
  | 0, h => ⟨0, Nat.le_refl _, h, fun t ht => absurd ht (Nat.not_lt_zero _)⟩
  | k + 1, h => by
    by_cases q : ∃ t, t < k + 1 ∧ P t
    · obtain ⟨t, ht, hP⟩ := q
      have : ∃ m, m ≤ t ∧ P m ∧ ∀ t, t < m → ¬ P t := by
        clear h
        induction t using Nat.strongRecOn with
        | ind t ih =>
          by_cases q : ∃ u, u < t ∧ P u
          · obtain ⟨u, hu, hPu⟩ := q
            obtain ⟨m, h1, h2⟩ := ih u hu (by omega) hPu
            exact ⟨m, by omega, h2⟩
          · exact ⟨t, Nat.le_refl _, hP, fun u hu hPu => q ⟨u, hu, hPu⟩⟩
      obtain ⟨m, h1, h2⟩ := this
      exact ⟨m, by omega, h2⟩
    · exact ⟨k + 1, Nat.le_refl _, h, fun t ht hP => q ⟨t, ht, hP⟩⟩
/-- the ring of i has k guests -/
structure RL (r : List Nat) (i k : Nat) : Prop where
  pos : 1 ≤ k
  back : orb r i k = i
  no : ∀ t, 1 ≤ t → t < k → orb r i t ≠ i
theorem walk_eq {r : List Nat} {i k : Nat} (h : RL r i k) : ∀ (fuel c : Nat), c < k → k - c ≤ fuel → walk r i fuel (orb r i c) c = k
  | 0, c, h1, h2 => by omega
  | fuel + 1, c, h1, h2 => by
    unfold walk
    show (if orb r i (c + 1) = i then c + 1 else walk r i fuel (orb r i (c + 1)) (c + 1)) = k
    by_cases e : c + 1 = k
    · rw [e, if_pos h.back]
    · rw [if_neg (h.no (c + 1) (by omega) (by omega))]
      exact walk_eq h fuel (c + 1) (by omega) (by omega)
theorem ringLength_is {l : Likes} {r : List Nat} (F : Full l r) {i : Nat} (hi : i ∈ guests l) : RL r i (ringLength r i) ∧ ringLength r i ≤ l.length := by
  obtain ⟨k, h1, h2, h3⟩ := orb_ends F hi
  obtain ⟨m, h4, ⟨h5, h6⟩, h7⟩ := least (P := fun k => 1 ≤ k ∧ orb r i k = i) ⟨h1, h3⟩
  have R : RL r i m := ⟨h5, h6, fun t h8 h9 e => h7 t h9 ⟨h8, e⟩⟩
  have : ringLength r i = m := walk_eq R r.length 0 (by omega) (by rw [F.len]; omega)
  rw [this]
  exact ⟨R, by omega⟩

/-! ### the first two who would rather share -/
theorem blocks_mem {l : Likes} {m : List Nat} {p : Nat × Nat} : p ∈ blocks l m ↔ p.1 ∈ guests l ∧ p.2 ∈ guests l ∧ p.1 < p.2 ∧ block l m p.1 p.2 = true := by
  unfold blocks
  rw [List.mem_flatMap]
  constructor
  · rintro ⟨i, hi, hp⟩
    obtain ⟨j, hj, rfl⟩ := List.mem_map.mp hp
    obtain ⟨h1, h2⟩ := List.mem_filter.mp hj
    rw [Bool.and_eq_true, decide_eq_true_eq] at h2
    exact ⟨hi, h1, h2.1, h2.2⟩
  · rintro ⟨h1, h2, h3, h4⟩
    exact ⟨p.1, h1, List.mem_map.mpr ⟨p.2, List.mem_filter.mpr ⟨h2, by rw [Bool.and_eq_true, decide_eq_true_eq]; exact ⟨h3, h4⟩⟩, rfl⟩⟩
def pairLt (p q : Nat × Nat) : Prop := p.1 < q.1 ∨ p.1 = q.1 ∧ p.2 < q.2
theorem blocks_sorted (l : Likes) (m : List Nat) : (blocks l m).Pairwise pairLt := by
  unfold blocks
  rw [List.pairwise_flatMap]
  refine ⟨fun i _ => ?_, (guests_lt l).imp fun {a b} hab x hx y hy => ?_⟩
  · rw [List.pairwise_map]
    exact ((guests_lt l).filter _).imp fun {a b} h => Or.inr ⟨rfl, h⟩
  · obtain ⟨j, _, rfl⟩ := List.mem_map.mp hx
    obtain ⟨k, _, rfl⟩ := List.mem_map.mp hy
    exact Or.inl hab
theorem blocks_first {l : Likes} {m : List Nat} {i j : Nat} (h1 : i ∈ guests l) (h2 : j ∈ guests l) (h3 : i < j) (h4 : block l m i j = true)
    (hno : ∀ a b, a ∈ guests l → b ∈ guests l → a < b → pairLt (a, b) (i, j) → block l m a b = false) : ∃ r, blocks l m = (i, j) :: r := by
  have hm : (i, j) ∈ blocks l m := blocks_mem.mpr ⟨h1, h2, h3, h4⟩
  cases e : blocks l m with
  | nil => rw [e] at hm; exact absurd hm (by simp)
  | cons p r =>
    have hp : p ∈ blocks l m := by rw [e]; exact List.mem_cons_self ..
    obtain ⟨q1, q2, q3, q4⟩ := blocks_mem.mp hp
    have hs := blocks_sorted l m
    rw [e] at hs hm
    rcases List.mem_cons.mp hm with z | z
    · exact ⟨r, by rw [z]⟩
    · have := hno p.1 p.2 q1 q2 q3 ((List.pairwise_cons.mp hs).1 _ z)
      rw [q4] at this
      cases this
theorem blocks_none {l : Likes} {m : List Nat} (hno : ∀ a b, a ∈ guests l → b ∈ guests l → a < b → block l m a b = false) : blocks l m = [] := by
  cases e : blocks l m with
  | nil => rfl
  | cons p r =>
    have hp : p ∈ blocks l m := by rw [e]; exact List.mem_cons_self ..
    obtain ⟨q1, q2, q3, q4⟩ := blocks_mem.mp hp
    rw [hno _ _ q1 q2 q3] at q4
    cases q4
/-- as the program tells the first pair -/
def firstPair (l : Likes) (m : List Nat) : List Nat := match blocks l m with
  | [] => []
  | p :: _ => [p.1, p.2]
theorem firstPair_nil {l : Likes} {m : List Nat} : firstPair l m = [] ↔ (blocks l m).isEmpty = true := by
  unfold firstPair
  cases blocks l m <;> simp

/-! ### lists that are as they should be -/
structure Valid (l : Likes) : Prop where
  few : l.length ≤ 7
  one : ∀ i ∈ guests l, ∀ j ∈ listOf l i, j ∈ guests l ∧ j ≠ i
  nd : ∀ i ∈ guests l, (listOf l i).Nodup
theorem listOf_get {l : Likes} {i : Nat} (h : i ∈ guests l) : l[i - 1]? = some (listOf l i) := by
  have h := mem_guests.mp h
  unfold listOf
  rw [List.getElem?_eq_getElem (by omega)]; rfl
theorem rank_eq {l : Likes} (V : Valid l) {i : Nat} (hi : i ∈ guests l) (j : Nat) : rank l i j = (listOf l i).findIdx (· == j) := by
  unfold rank
  split
  · rename_i h
    have hn : j ∉ listOf l i := fun hm => by
      obtain ⟨h1, h2⟩ := V.one i hi j hm
      have := mem_guests.mp h1
      omega
    refine (List.findIdx_eq_length.mpr fun x hx => ?_).symm
    refine beq_false_of_ne fun e => hn ?_
    rw [← e]; exact hx
  · rfl
theorem mutual_eq {l : Likes} (V : Valid l) {i : Nat} (hi : i ∈ guests l) (j : Nat) : mutual_ l i j = ((listOf l i).contains j && (listOf l j).contains i) := by
  unfold mutual_
  by_cases e : i = j
  · subst e
    have : (listOf l i).contains i = false := by
      cases q : (listOf l i).contains i with
      | false => rfl
      | true => exact absurd rfl (V.one i hi i (List.contains_iff_mem.mp q)).2
    rw [this]; simp
  · rw [bne_iff_ne.mpr e, Bool.true_and]
end Rs
end
section
set_option Elab.async false
set_option linter.all false
set_option maxRecDepth 100000
set_option maxHeartbeats 2000000
/-! Short words of this proof: a def of the text and its promise, lists of numbers, lists of lists. -/
namespace Rs
open PySem PySem.Spec PyProof.Rows L2
open Vbhoam (Likes)

/-! ### a def of the text; what it promises -/
structure At (K : PySem.W.Frag) (mg : Str → Option Value) (x : Str) (st : Stmt) (ps : List Str) : Prop where
  ex : ∃ (f : Addr) (fd : FuncData), Fun K x x st f fd ∧ mg x = some (.ref f) ∧ Binds K fd ps []
structure Dn (P : Program) (w : World) (K : PySem.W.Frag) (mg : Str → Option Value) (base : Heap) (x : Str) (k : Nat) (ps : List Str) (sp : Sp) : Prop where
  ex : ∃ (f : Addr) (fd : FuncData), FnOk P w K mg base CX0 k f fd ps sp ∧ mg x = some (.ref f) ∧ PySem.W.keepIn K (.ref f) = true ∧ Binds K fd ps []
section
variable {P : Program} {w : World} {K : PySem.W.Frag} {mg : Str → Option Value} {base : Heap}
theorem Dn.of {x : Str} {st : Stmt} {N ps : List Str} {k : Nat} {sp : Sp} (F : At K mg x st ps) (S : FnScope N ps (defScope st)) (len : ∀ vs H Q E, sp vs H Q E → vs.length = ps.length)
    (hbody : ∀ (f : Addr) (cdv : Value) (A : Around) (outer : List Env) (s : Shared) (H : Hp) (vs : List V) (Q : VK) (E : XK), Room k (A.deeper (envOfC x (defScope st) s.heap.objs.size f cdv)) → sp vs H Q E →
      ∃ t, PSs (cxOf CX0 P w K mg base N x (defScope st) f cdv A outer s H E).nox (defBody st) t ∧ t { nx := fun _ H' => Q .non H', rt := Q } (start N vs) H) : Dn P w K mg base x (k + 1) ps sp := by
  obtain ⟨f, fd, F1, F2, F3⟩ := F.ex
  exact ⟨f, fd, F1.ok S len (fun cdv A outer s H vs Q E => hbody f cdv A outer s H vs Q E), F2, F1.kp, F3⟩
theorem Dn.mono {x : Str} {ps : List Str} {j k : Nat} {sp : Sp} (D : Dn P w K mg base x j ps sp) (h : j ≤ k) : Dn P w K mg base x k ps sp := by
  obtain ⟨f, fd, F1, F2⟩ := D.ex
  exact ⟨f, fd, F1.mono h, F2⟩
end
section
variable {X : Cx} {x : Str} {k : Nat} {ps : List Str} {sp : Sp} {e : Expr} {es : List Expr} {t : TA} {p pos : Pos}
theorem pe_callD (D : Dn X.prog X.w X.K X.mg X.base x k ps sp) (hr : Room k X.A) (hg : Gl X x)
    (ha : PA X (e :: es) t) (hdb : (x == ("__debug__" : Str)) = false := by decide) (he : starEach (e :: es) X.env = (false, eval e X.env) :: starEach es X.env := by rfl) (hpl : (backTo pos (starEach es X.env)).any (·.1) = false := by rfl) :
    PE X (.Call (.Name x p) (e :: es) [] pos) (tCall sp [] E0 t) := by
  obtain ⟨f, fd, F1, F2, F3, F4⟩ := D.ex
  exact pe_call F1 hr hg F2 F3 F4 .nil pass0 ha hdb he hpl
/-- a name of the top that holds a whole number -/
def GI (mg : Str → Option Value) (x : Str) (i : Int) : Prop := ∃ t, mg x = some (Value.int i t)
theorem pe_gi {i : Int} (hg : Gl X x) (hm : GI X.mg x i) (hd : (x == ("__debug__" : Str)) = false := by decide) : PE X (.Name x pos) (tC (.int i)) := by
  obtain ⟨t, h⟩ := hm
  exact pe_glob hg h ⟨t, rfl⟩ hd
end

/-! ### lists of numbers -/
def nv (l : List Nat) : List V := l.map fun (n : Nat) => V.int (n : Int)
theorem nv_len (l : List Nat) : (nv l).length = l.length := List.length_map _
theorem nv_flat (l : List Nat) : (nv l).all flatV = true := by
  rw [List.all_eq_true]
  intro x hx
  obtain ⟨n, _, rfl⟩ := List.mem_map.mp hx
  rfl
theorem nv_get {l : List Nat} {k x : Nat} (h : l[k]? = some x) : (nv l)[k]? = some (V.int x) := by
  unfold nv
  rw [List.getElem?_map, h]; rfl
theorem nv_of {l : List Nat} {k : Nat} {v : V} (h : (nv l)[k]? = some v) : ∃ x, l[k]? = some x ∧ v = V.int x := by
  unfold nv at h
  rw [List.getElem?_map] at h
  cases e : l[k]? with
  | none => rw [e] at h; cases h
  | some x => rw [e] at h; exact ⟨x, rfl, (Option.some.inj h).symm⟩
theorem int_beq (a b : Nat) : ((a : Int) == (b : Int)) = (a == b) := by
  cases e : (a == b) with
  | true => rw [eq_of_beq e]; exact beq_self_eq_true _
  | false => exact beq_false_of_ne fun q => (ne_of_beq_false e) (Int.ofNat.inj q)
theorem nv_in (j : Nat) : ∀ l : List Nat, inV (.int (j : Int)) (nv l) = l.contains j
  | [] => rfl
  | x :: l => by
    show (((x : Int) == (j : Int)) || inV (.int (j : Int)) (nv l)) = _
    rw [nv_in j l, int_beq, List.contains_cons, show (x == j) = (j == x) from Bool.beq_comm]
theorem nv_at {l : List Nat} {z : Int} {k x : Nat} (e : z = (k : Int)) (h : l[k]? = some x) : atI (nv l) z = some (V.int x) := at_of e (nv_get h)
theorem nv_app (a b : List Nat) : nv (a ++ b) = nv a ++ nv b := List.map_append
/-- whatever position: partner -/
theorem nv_partner {m : List Nat} {i : Nat} {z : Int} (h1 : 1 ≤ i) (h2 : i ≤ m.length) (e : z = (i : Int) - 1) : atI (nv m) z = some (V.int (Vbhoam.partner m i : Nat)) :=
  nv_at (k := i - 1) (by omega) (partner_get (by omega))
theorem nv_idx {l : List Nat} {j : Nat} (h : l.contains j = true) : (nv l)[l.findIdx (· == j)]? = some (V.int j) ∧ eqV (V.int j) (V.int j) = true ∧ ∀ (m : Nat) (z : V), m < l.findIdx (· == j) → (nv l)[m]? = some z → eqV z (V.int j) = false := by
  have hlt := findIdx_lt h
  refine ⟨nv_get ?_, beq_self_eq_true _, fun m z hm hz => ?_⟩
  · rw [List.getElem?_eq_getElem hlt]
    exact congrArg some (eq_of_beq (List.findIdx_getElem (xs := l) (p := (· == j)) (w := hlt)))
  · obtain ⟨x, hx, rfl⟩ := nv_of hz
    obtain ⟨h1, h2⟩ := List.getElem?_eq_some_iff.mp hx
    have := List.not_of_lt_findIdx hm
    show ((x : Int) == (j : Int)) = false
    rw [int_beq, ← h2]
    exact Bool.eq_false_iff.mpr (by simpa using this)

/-! ### lists of lists -/
/-- the list at a holds lists of numbers -/
def LL (H : Hp) (a : Addr) (L : List (List Nat)) : Prop := ∃ as : List Addr, H a = some (.lst (as.map V.ref)) ∧ Paired (fun b l => H b = some (.lst (nv l))) as L
theorem paired_at {α β : Type} {R : α → β → Prop} {l₁ : List α} {l₂ : List β} (h : Paired R l₁ l₂) : ∀ {i : Nat} {b : β}, l₂[i]? = some b → ∃ a, l₁[i]? = some a ∧ R a b := by
  induction h with
  | nil => intro i b e; simp at e
  | cons r _ ih =>
    intro i b e
    cases i with
    | zero => simp at e; subst e; exact ⟨_, rfl, r⟩
    | succ i => obtain ⟨a, h1, h2⟩ := ih (i := i) (b := b) (by simpa using e); exact ⟨a, by simpa using h1, h2⟩
theorem paired_mono {α β : Type} {R R' : α → β → Prop} (hR : ∀ a b, R a b → R' a b) {l₁ : List α} {l₂ : List β} (h : Paired R l₁ l₂) : Paired R' l₁ l₂ := by
  induction h with
  | nil => exact .nil
  | cons r _ ih => exact .cons (hR _ _ r) ih
theorem paired_snoc {α β : Type} {R : α → β → Prop} {l₁ : List α} {l₂ : List β} {a : α} {b : β} (h : Paired R l₁ l₂) (r : R a b) : Paired R (l₁ ++ [a]) (l₂ ++ [b]) := by
  induction h with
  | nil => exact .cons r .nil
  | cons q _ ih => exact .cons q ih
theorem paired_app {α β : Type} {R : α → β → Prop} {l₁ m₁ : List α} {l₂ m₂ : List β} (h : Paired R l₁ l₂) (k : Paired R m₁ m₂) : Paired R (l₁ ++ m₁) (l₂ ++ m₂) := by
  induction h with
  | nil => exact k
  | cons q _ ih => exact .cons q ih
theorem LL.mono {H H' : Hp} {a : Addr} {L : List (List Nat)} (s : Same H H') (h : LL H a L) : LL H' a L := by
  obtain ⟨as, h1, h2⟩ := h
  exact ⟨as, s _ _ h1, paired_mono (fun b l e => s _ _ e) h2⟩
theorem LL.len {H : Hp} {a : Addr} {L : List (List Nat)} (h : LL H a L) : ∃ xs, H a = some (.lst xs) ∧ xs.length = L.length := by
  obtain ⟨as, h1, h2⟩ := h
  exact ⟨_, h1, by rw [List.length_map]; exact h2.length⟩
/-- its item at a place -/
theorem LL.at_ {H : Hp} {a : Addr} {L : List (List Nat)} (h : LL H a L) {z : Int} {k : Nat} {l : List Nat} (e : z = (k : Int)) (hl : L[k]? = some l) : ∃ xs b, H a = some (.lst xs) ∧ atI xs z = some (V.ref b) ∧ H b = some (.lst (nv l)) := by
  obtain ⟨as, h1, h2⟩ := h
  obtain ⟨b, hb, hq⟩ := paired_at h2 hl
  exact ⟨_, b, h1, at_of e (by rw [List.getElem?_map, hb]; rfl), hq⟩
/-- the guests' lists: nobody's first -/
def Lists (H : Hp) (a : Addr) (l : Likes) : Prop := LL H a ([] :: l)
theorem Lists.mono {H H' : Hp} {a : Addr} {l : Likes} (s : Same H H') (h : Lists H a l) : Lists H' a l := LL.mono s h
theorem Lists.at_ {H : Hp} {a : Addr} {l : Likes} (h : Lists H a l) {i : Nat} (hi : i ∈ Vbhoam.guests l) : ∃ xs b, H a = some (.lst xs) ∧ atI xs (i : Int) = some (V.ref b) ∧ H b = some (.lst (nv (Vbhoam.listOf l i))) := by
  have hg := mem_guests.mp hi
  refine LL.at_ h rfl ?_
  have e : i = (i - 1) + 1 := by omega
  rw [e, List.getElem?_cons_succ]
  exact listOf_get hi
theorem Lists.len {H : Hp} {a : Addr} {l : Likes} (h : Lists H a l) : ∃ xs, H a = some (.lst xs) ∧ xs.length = l.length + 1 := LL.len h
theorem same_upd {H : Hp} {p : Addr} {o : HO} (h : H p = none) : Same H (upd H p o) := fun b u e => by
  rw [upd_ne (ne_of_none e h)]; exact e
end Rs
end
section
set_option Elab.async false
set_option linter.all false
set_option maxRecDepth 100000
set_option maxHeartbeats 2000000
namespace Rs
open PySem PySem.Spec PyProof.Rows L2
open Vbhoam (Likes)
/-! ### the text by places -/
def top (i : Nat) : Stmt := PySem.Challenge.pw_roomsharers_s01_answers.main.body.getD i (.Pass ⟨0, 0, 0, 0⟩)
abbrev s_read_calls : Stmt := top 19
theorem sc_read_calls : FnScope ["numbers", "found", "start", "call", "end", "told", "row", "row_start"] ["numbers"] (defScope s_read_calls) := ⟨rfl, rfl, rfl, by decide +kernel, rfl, by decide +kernel, by decide +kernel⟩
abbrev s_numbers_in_range : Stmt := top 20
theorem sc_numbers_in_range : FnScope ["call", "told", "ranges", "place"] ["call", "told"] (defScope s_numbers_in_range) := ⟨rfl, rfl, rfl, by decide +kernel, rfl, by decide +kernel, by decide +kernel⟩
abbrev s_row_in_range : Stmt := top 21
theorem sc_row_in_range : FnScope ["call", "row", "number"] ["call", "row"] (defScope s_row_in_range) := ⟨rfl, rfl, rfl, by decide +kernel, rfl, by decide +kernel, by decide +kernel⟩
abbrev s_in_range : Stmt := top 22
theorem sc_in_range : FnScope ["call", "told", "row"] ["call", "told", "row"] (defScope s_in_range) := ⟨rfl, rfl, rfl, by decide +kernel, rfl, by decide +kernel, by decide +kernel⟩
abbrev s_may_share : Stmt := top 24
theorem sc_may_share : FnScope ["lists", "one", "other"] ["lists", "one", "other"] (defScope s_may_share) := ⟨rfl, rfl, rfl, by decide +kernel, rfl, by decide +kernel, by decide +kernel⟩
abbrev s_place_on_list : Stmt := top 25
theorem sc_place_on_list : FnScope ["liked", "other"] ["liked", "other"] (defScope s_place_on_list) := ⟨rfl, rfl, rfl, by decide +kernel, rfl, by decide +kernel, by decide +kernel⟩
abbrev s_likes_better : Stmt := top 26
theorem sc_likes_better : FnScope ["lists", "guest", "one", "other"] ["lists", "guest", "one", "other"] (defScope s_likes_better) := ⟨rfl, rfl, rfl, by decide +kernel, rfl, by decide +kernel, by decide +kernel⟩
abbrev s_best_first : Stmt := top 27
theorem sc_best_first : FnScope ["lists", "guest", "others"] ["lists", "guest", "others"] (defScope s_best_first) := ⟨rfl, rfl, rfl, by decide +kernel, rfl, by decide +kernel, by decide +kernel⟩
abbrev s_would_rather_share : Stmt := top 28
theorem sc_would_rather_share : FnScope ["lists", "held", "one", "other"] ["lists", "held", "one", "other"] (defScope s_would_rather_share) := ⟨rfl, rfl, rfl, by decide +kernel, rfl, by decide +kernel, by decide +kernel⟩
abbrev s_first_rather_pair : Stmt := top 29
theorem sc_first_rather_pair : FnScope ["lists", "held", "one", "other"] ["lists", "held"] (defScope s_first_rather_pair) := ⟨rfl, rfl, rfl, by decide +kernel, rfl, by decide +kernel, by decide +kernel⟩
abbrev s_rather_pairs : Stmt := top 30
theorem sc_rather_pairs : FnScope ["lists", "held", "found", "one", "other"] ["lists", "held"] (defScope s_rather_pairs) := ⟨rfl, rfl, rfl, by decide +kernel, rfl, by decide +kernel, by decide +kernel⟩
abbrev s_is_pairing : Stmt := top 32
theorem sc_is_pairing : FnScope ["lists", "row", "guest", "partner"] ["lists", "row"] (defScope s_is_pairing) := ⟨rfl, rfl, rfl, by decide +kernel, rfl, by decide +kernel, by decide +kernel⟩
abbrev s_is_stable : Stmt := top 33
theorem sc_is_stable : FnScope ["lists", "pairing"] ["lists", "pairing"] (defScope s_is_stable) := ⟨rfl, rfl, rfl, by decide +kernel, rfl, by decide +kernel, by decide +kernel⟩
abbrev s_choices_for_next_guest : Stmt := top 34
theorem sc_choices_for_next_guest : FnScope ["lists", "row", "guest", "choices", "other"] ["lists", "row"] (defScope s_choices_for_next_guest) := ⟨rfl, rfl, rfl, by decide +kernel, rfl, by decide +kernel, by decide +kernel⟩
abbrev s_all_pairings : Stmt := top 35
theorem sc_all_pairings : FnScope ["lists", "rows", "guest", "longer", "row", "partner"] ["lists"] (defScope s_all_pairings) := ⟨rfl, rfl, rfl, by decide +kernel, rfl, by decide +kernel, by decide +kernel⟩
abbrev s_stable_pairings : Stmt := top 36
theorem sc_stable_pairings : FnScope ["lists", "pairing"] ["lists"] (defScope s_stable_pairings) := ⟨rfl, rfl, rfl, by decide +kernel, rfl, by decide +kernel, by decide +kernel⟩
abbrev s_gone_together : Stmt := top 37
theorem sc_gone_together : FnScope ["pairing", "one", "other", "partner", "changed"] ["pairing", "one", "other"] (defScope s_gone_together) := ⟨rfl, rfl, rfl, by decide +kernel, rfl, by decide +kernel, by decide +kernel⟩
abbrev s_settled : Stmt := top 38
theorem sc_settled : FnScope ["lists", "pairing", "times", "done", "pair"] ["lists", "pairing", "times"] (defScope s_settled) := ⟨rfl, rfl, rfl, by decide +kernel, rfl, by decide +kernel, by decide +kernel⟩
abbrev s_middle_pairing : Stmt := top 39
theorem sc_middle_pairing : FnScope ["lists", "three", "middle", "guest", "pairing", "partners"] ["lists", "three"] (defScope s_middle_pairing) := ⟨rfl, rfl, rfl, by decide +kernel, rfl, by decide +kernel, by decide +kernel⟩
abbrev s_may_follow : Stmt := top 41
theorem sc_may_follow : FnScope ["lists", "guest", "follower"] ["lists", "guest", "follower"] (defScope s_may_follow) := ⟨rfl, rfl, rfl, by decide +kernel, rfl, by decide +kernel, by decide +kernel⟩
abbrev s_is_rings : Stmt := top 42
theorem sc_is_rings : FnScope ["lists", "row", "guest"] ["lists", "row"] (defScope s_is_rings) := ⟨rfl, rfl, rfl, by decide +kernel, rfl, by decide +kernel, by decide +kernel⟩
abbrev s_ones_before : Stmt := top 43
theorem sc_ones_before : FnScope ["row", "guest"] ["row"] (defScope s_ones_before) := ⟨rfl, rfl, rfl, by decide +kernel, rfl, by decide +kernel, by decide +kernel⟩
abbrev s_is_willing : Stmt := top 44
theorem sc_is_willing : FnScope ["lists", "row", "guest", "follower", "before"] ["lists", "row", "guest"] (defScope s_is_willing) := ⟨rfl, rfl, rfl, by decide +kernel, rfl, by decide +kernel, by decide +kernel⟩
abbrev s_first_unwilling : Stmt := top 45
theorem sc_first_unwilling : FnScope ["lists", "row", "guest"] ["lists", "row"] (defScope s_first_unwilling) := ⟨rfl, rfl, rfl, by decide +kernel, rfl, by decide +kernel, by decide +kernel⟩
abbrev s_lengthened : Stmt := top 46
theorem sc_lengthened : FnScope ["lists", "row", "guest", "found", "follower", "longer"] ["lists", "row"] (defScope s_lengthened) := ⟨rfl, rfl, rfl, by decide +kernel, rfl, by decide +kernel, by decide +kernel⟩
abbrev s_willing_rings : Stmt := top 47
theorem sc_willing_rings : FnScope ["lists", "rows", "guest", "longer", "row"] ["lists"] (defScope s_willing_rings) := ⟨rfl, rfl, rfl, by decide +kernel, rfl, by decide +kernel, by decide +kernel⟩
abbrev s_first_rings : Stmt := top 48
theorem sc_first_rings : FnScope ["lists", "row"] ["lists"] (defScope s_first_rings) := ⟨rfl, rfl, rfl, by decide +kernel, rfl, by decide +kernel, by decide +kernel⟩
abbrev s_ring_length : Stmt := top 49
theorem sc_ring_length : FnScope ["row", "guest", "length", "follower"] ["row", "guest"] (defScope s_ring_length) := ⟨rfl, rfl, rfl, by decide +kernel, rfl, by decide +kernel, by decide +kernel⟩
abbrev s_is_odd : Stmt := top 50
theorem sc_is_odd : FnScope ["row", "guest", "length"] ["row", "guest"] (defScope s_is_odd) := ⟨rfl, rfl, rfl, by decide +kernel, rfl, by decide +kernel, by decide +kernel⟩
abbrev s_odd_guests : Stmt := top 51
theorem sc_odd_guests : FnScope ["row", "guest"] ["row"] (defScope s_odd_guests) := ⟨rfl, rfl, rfl, by decide +kernel, rfl, by decide +kernel, by decide +kernel⟩
abbrev s_tell_pairs : Stmt := top 53
theorem sc_tell_pairs : FnScope ["lists", "stable"] ["lists"] (defScope s_tell_pairs) := ⟨rfl, rfl, rfl, by decide +kernel, rfl, by decide +kernel, by decide +kernel⟩
abbrev s_counted : Stmt := top 54
theorem sc_counted : FnScope ["numbers"] ["numbers"] (defScope s_counted) := ⟨rfl, rfl, rfl, by decide +kernel, rfl, by decide +kernel, by decide +kernel⟩
abbrev s_tell_rings : Stmt := top 55
theorem sc_tell_rings : FnScope ["lists", "row"] ["lists"] (defScope s_tell_rings) := ⟨rfl, rfl, rfl, by decide +kernel, rfl, by decide +kernel, by decide +kernel⟩
abbrev s_tell_check : Stmt := top 56
theorem sc_tell_check : FnScope ["lists", "row", "pair"] ["lists", "row"] (defScope s_tell_check) := ⟨rfl, rfl, rfl, by decide +kernel, rfl, by decide +kernel, by decide +kernel⟩
abbrev s_tell_prove : Stmt := top 57
theorem sc_tell_prove : FnScope ["lists", "row", "unwilling", "pair"] ["lists", "row"] (defScope s_tell_prove) := ⟨rfl, rfl, rfl, by decide +kernel, rfl, by decide +kernel, by decide +kernel⟩
abbrev s_tell_partners : Stmt := top 58
theorem sc_tell_partners : FnScope ["lists", "guest", "partners", "pairing", "partner"] ["lists", "guest"] (defScope s_tell_partners) := ⟨rfl, rfl, rfl, by decide +kernel, rfl, by decide +kernel, by decide +kernel⟩
abbrev s_tell_count : Stmt := top 59
theorem sc_tell_count : FnScope ["lists"] ["lists"] (defScope s_tell_count) := ⟨rfl, rfl, rfl, by decide +kernel, rfl, by decide +kernel, by decide +kernel⟩
abbrev s_tell_blocks : Stmt := top 60
theorem sc_tell_blocks : FnScope ["lists", "pairing", "pairs", "told", "pair"] ["lists", "pairing"] (defScope s_tell_blocks) := ⟨rfl, rfl, rfl, by decide +kernel, rfl, by decide +kernel, by decide +kernel⟩
abbrev s_tell_settle : Stmt := top 61
theorem sc_tell_settle : FnScope ["lists", "times", "pairing", "outcome"] ["lists", "times", "pairing"] (defScope s_tell_settle) := ⟨rfl, rfl, rfl, by decide +kernel, rfl, by decide +kernel, by decide +kernel⟩
abbrev s_tell_prefer : Stmt := top 62
theorem sc_tell_prefer : FnScope ["lists", "guest", "one", "other"] ["lists", "guest", "one", "other"] (defScope s_tell_prefer) := ⟨rfl, rfl, rfl, by decide +kernel, rfl, by decide +kernel, by decide +kernel⟩
abbrev s_tell_rooms : Stmt := top 63
theorem sc_tell_rooms : FnScope ["lists", "booked"] ["lists", "booked"] (defScope s_tell_rooms) := ⟨rfl, rfl, rfl, by decide +kernel, rfl, by decide +kernel, by decide +kernel⟩
abbrev s_tell_lists : Stmt := top 64
theorem sc_tell_lists : FnScope ["lists", "told", "guest"] ["lists"] (defScope s_tell_lists) := ⟨rfl, rfl, rfl, by decide +kernel, rfl, by decide +kernel, by decide +kernel⟩
abbrev s_Group___init__ : Stmt := inClass (top 76) 0
theorem sc_Group___init__ : FnScope ["self"] ["self"] (defScope s_Group___init__) := ⟨rfl, rfl, rfl, by decide +kernel, rfl, by decide +kernel, by decide +kernel⟩
abbrev s_Group_answer : Stmt := inClass (top 76) 1
theorem sc_Group_answer : FnScope ["self", "call", "told", "row"] ["self", "call", "told", "row"] (defScope s_Group_answer) := ⟨rfl, rfl, rfl, by decide +kernel, rfl, by decide +kernel, by decide +kernel⟩
abbrev s_Group_begin : Stmt := inClass (top 76) 2
theorem sc_Group_begin : FnScope ["self", "guests", "guest"] ["self", "guests"] (defScope s_Group_begin) := ⟨rfl, rfl, rfl, by decide +kernel, rfl, by decide +kernel, by decide +kernel⟩
abbrev s_Group_take_list : Stmt := inClass (top 76) 3
theorem sc_Group_take_list : FnScope ["self", "guest", "others", "other"] ["self", "guest", "others"] (defScope s_Group_take_list) := ⟨rfl, rfl, rfl, by decide +kernel, rfl, by decide +kernel, by decide +kernel⟩
abbrev s_Group_judge : Stmt := inClass (top 76) 4
theorem sc_Group_judge : FnScope ["self", "call", "told", "row"] ["self", "call", "told", "row"] (defScope s_Group_judge) := ⟨rfl, rfl, rfl, by decide +kernel, rfl, by decide +kernel, by decide +kernel⟩
abbrev s_Group_book : Stmt := inClass (top 76) 5
theorem sc_Group_book : FnScope ["self", "pairing"] ["self", "pairing"] (defScope s_Group_book) := ⟨rfl, rfl, rfl, by decide +kernel, rfl, by decide +kernel, by decide +kernel⟩
abbrev s_Group_choose : Stmt := inClass (top 76) 6
theorem sc_Group_choose : FnScope ["self", "call", "places", "stable", "place", "chosen"] ["self", "call", "places"] (defScope s_Group_choose) := ⟨rfl, rfl, rfl, by decide +kernel, rfl, by decide +kernel, by decide +kernel⟩
abbrev s_Group_ask_guest : Stmt := inClass (top 76) 7
theorem sc_Group_ask_guest : FnScope ["self", "call", "told"] ["self", "call", "told"] (defScope s_Group_ask_guest) := ⟨rfl, rfl, rfl, by decide +kernel, rfl, by decide +kernel, by decide +kernel⟩
abbrev s_Group_prefer : Stmt := inClass (top 76) 8
theorem sc_Group_prefer : FnScope ["self", "guest", "one", "other", "asked"] ["self", "guest", "one", "other"] (defScope s_Group_prefer) := ⟨rfl, rfl, rfl, by decide +kernel, rfl, by decide +kernel, by decide +kernel⟩
abbrev s_Group_look_up_booked : Stmt := inClass (top 76) 9
theorem sc_Group_look_up_booked : FnScope ["self", "call", "told"] ["self", "call", "told"] (defScope s_Group_look_up_booked) := ⟨rfl, rfl, rfl, by decide +kernel, rfl, by decide +kernel, by decide +kernel⟩
abbrev s_Group_bring_together : Stmt := inClass (top 76) 10
theorem sc_Group_bring_together : FnScope ["self", "one", "other"] ["self", "one", "other"] (defScope s_Group_bring_together) := ⟨rfl, rfl, rfl, by decide +kernel, rfl, by decide +kernel, by decide +kernel⟩
abbrev s_Group_survey : Stmt := inClass (top 76) 11
theorem sc_Group_survey : FnScope ["self", "call"] ["self", "call"] (defScope s_Group_survey) := ⟨rfl, rfl, rfl, by decide +kernel, rfl, by decide +kernel, by decide +kernel⟩
abbrev s_answers : Stmt := top 77
theorem sc_answers : FnScope ["calls", "group", "told", "call", "answer"] ["calls"] (defScope s_answers) := ⟨rfl, rfl, rfl, by decide +kernel, rfl, by decide +kernel, by decide +kernel⟩
structure Txt (K : PySem.W.Frag) (mg : Str → Option Value) : Prop where
  b_len : mg "len" = none
  b_range : mg "range" = none
  b_list : mg "list" = none
  b_sorted : mg "sorted" = none
  b_max : mg "max" = none
  c_BEGIN : GI mg "BEGIN" (0)
  c_TAKE_LIST : GI mg "TAKE_LIST" (1)
  c_PAIRS : GI mg "PAIRS" (2)
  c_RINGS : GI mg "RINGS" (3)
  c_CHECK : GI mg "CHECK" (4)
  c_PROVE : GI mg "PROVE" (5)
  c_PARTNERS : GI mg "PARTNERS" (6)
  c_COUNT : GI mg "COUNT" (7)
  c_NTH : GI mg "NTH" (8)
  c_MEDIAN : GI mg "MEDIAN" (9)
  c_BLOCKS : GI mg "BLOCKS" (10)
  c_SETTLE : GI mg "SETTLE" (11)
  c_PREFER : GI mg "PREFER" (12)
  c_ROOMS : GI mg "ROOMS" (14)
  c_JOIN : GI mg "JOIN" (15)
  c_GREATEST_IN_ROW : GI mg "GREATEST_IN_ROW" (7)
  c_OUT_OF_RANGE : GI mg "OUT_OF_RANGE" (-1)
  c_NOT_BEGUN : GI mg "NOT_BEGUN" (-2)
  c_BEGUN_ALREADY : GI mg "BEGUN_ALREADY" (-3)
  c_NO_SUCH_GUEST : GI mg "NO_SUCH_GUEST" (-4)
  c_WRONG_LIST : GI mg "WRONG_LIST" (-5)
  c_WRONG_LENGTH : GI mg "WRONG_LENGTH" (-6)
  c_NOT_SO_MANY : GI mg "NOT_SO_MANY" (-7)
  c_NO_PAIRING : GI mg "NO_PAIRING" (-8)
  c_NOT_WITH_ONE_ANOTHER : GI mg "NOT_WITH_ONE_ANOTHER" (-9)
  c_NOTHING_BOOKED : GI mg "NOTHING_BOOKED" (-10)
  f_read_calls : At K mg "read_calls" s_read_calls ["numbers"]
  f_numbers_in_range : At K mg "numbers_in_range" s_numbers_in_range ["call", "told"]
  f_row_in_range : At K mg "row_in_range" s_row_in_range ["call", "row"]
  f_in_range : At K mg "in_range" s_in_range ["call", "told", "row"]
  f_may_share : At K mg "may_share" s_may_share ["lists", "one", "other"]
  f_place_on_list : At K mg "place_on_list" s_place_on_list ["liked", "other"]
  f_likes_better : At K mg "likes_better" s_likes_better ["lists", "guest", "one", "other"]
  f_best_first : At K mg "best_first" s_best_first ["lists", "guest", "others"]
  f_would_rather_share : At K mg "would_rather_share" s_would_rather_share ["lists", "held", "one", "other"]
  f_first_rather_pair : At K mg "first_rather_pair" s_first_rather_pair ["lists", "held"]
  f_rather_pairs : At K mg "rather_pairs" s_rather_pairs ["lists", "held"]
  f_is_pairing : At K mg "is_pairing" s_is_pairing ["lists", "row"]
  f_is_stable : At K mg "is_stable" s_is_stable ["lists", "pairing"]
  f_choices_for_next_guest : At K mg "choices_for_next_guest" s_choices_for_next_guest ["lists", "row"]
  f_all_pairings : At K mg "all_pairings" s_all_pairings ["lists"]
  f_stable_pairings : At K mg "stable_pairings" s_stable_pairings ["lists"]
  f_gone_together : At K mg "gone_together" s_gone_together ["pairing", "one", "other"]
  f_settled : At K mg "settled" s_settled ["lists", "pairing", "times"]
  f_middle_pairing : At K mg "middle_pairing" s_middle_pairing ["lists", "three"]
  f_may_follow : At K mg "may_follow" s_may_follow ["lists", "guest", "follower"]
  f_is_rings : At K mg "is_rings" s_is_rings ["lists", "row"]
  f_ones_before : At K mg "ones_before" s_ones_before ["row"]
  f_is_willing : At K mg "is_willing" s_is_willing ["lists", "row", "guest"]
  f_first_unwilling : At K mg "first_unwilling" s_first_unwilling ["lists", "row"]
  f_lengthened : At K mg "lengthened" s_lengthened ["lists", "row"]
  f_willing_rings : At K mg "willing_rings" s_willing_rings ["lists"]
  f_first_rings : At K mg "first_rings" s_first_rings ["lists"]
  f_ring_length : At K mg "ring_length" s_ring_length ["row", "guest"]
  f_is_odd : At K mg "is_odd" s_is_odd ["row", "guest"]
  f_odd_guests : At K mg "odd_guests" s_odd_guests ["row"]
  f_tell_pairs : At K mg "tell_pairs" s_tell_pairs ["lists"]
  f_counted : At K mg "counted" s_counted ["numbers"]
  f_tell_rings : At K mg "tell_rings" s_tell_rings ["lists"]
  f_tell_check : At K mg "tell_check" s_tell_check ["lists", "row"]
  f_tell_prove : At K mg "tell_prove" s_tell_prove ["lists", "row"]
  f_tell_partners : At K mg "tell_partners" s_tell_partners ["lists", "guest"]
  f_tell_count : At K mg "tell_count" s_tell_count ["lists"]
  f_tell_blocks : At K mg "tell_blocks" s_tell_blocks ["lists", "pairing"]
  f_tell_settle : At K mg "tell_settle" s_tell_settle ["lists", "times", "pairing"]
  f_tell_prefer : At K mg "tell_prefer" s_tell_prefer ["lists", "guest", "one", "other"]
  f_tell_rooms : At K mg "tell_rooms" s_tell_rooms ["lists", "booked"]
  f_tell_lists : At K mg "tell_lists" s_tell_lists ["lists"]
  f_answers : At K mg "answers" s_answers ["calls"]
end Rs
end
section
set_option Elab.async false
set_option linter.all false
set_option maxRecDepth 100000
set_option maxHeartbeats 2000000
namespace Rs
open PySem PySem.Spec PyProof.Rows L2
open Vbhoam (Likes)
section
variable {P : Program} {w : World} {K : PySem.W.Frag} {mg : Str → Option Value} {base : Heap}
/-! ### likings -/
def spPlace (K : PySem.W.Frag) : Sp := fun vs H Q _ => ∃ (a : Addr) (L : List Nat) (j : Nat), vs = [.ref a, .int j] ∧ SqL K H a (nv L) ∧ Q (.int (L.findIdx (· == j) : Nat)) H
theorem d_place_on_list (T : Txt K mg) : Dn P w K mg base "place_on_list" 1 ["liked", "other"] (spPlace K) := by
  refine Dn.of T.f_place_on_list sc_place_on_list (fun vs H Q E h => ?_) (fun f cdv A outer s H vs Q E hr h => ?_)
  · obtain ⟨a, L, j, rfl, _⟩ := h
    rfl
  · obtain ⟨a, L, j, rfl, hL, k⟩ := h
    refine ⟨_, (pss_cons (ps_if (pt_cmpR op_in_seq (pv 1) (pv 0) (by with_unfolding_all rfl)) (pss_one (ps_ret (pe_bm PySem.F.plainAttrs_list PySem.F.slot_list_index PySem.F.type_list_index mt_index (pv 0) (pa_cons (pv 1) pa_nil)))) pss_nil)
      (pss_one (ps_ret (pe_callB call_len_seq rfl T.b_len PySem.boot_len (pa_cons (pv 0) pa_nil))))), ?_⟩
    refine ⟨_, rfl, _, rfl, a, nv L, rfl, .inl hL, rfl, nv_flat L, _, rfl, ?_⟩
    show if inV (.int (j : Int)) (nv L) = true then _ else _
    rw [nv_in]
    cases hc : L.contains j with
    | true =>
      rw [if_pos rfl]
      obtain ⟨h1, h2, h3⟩ := nv_idx hc
      refine ⟨_, rfl, .inl ⟨rfl, _, hL⟩, _, rfl, a, nv L, _, _, _, rfl, rfl, hL, rfl, nv_flat L, h1, h2, h3, k⟩
    | false =>
      rw [if_neg (by simp)]
      refine ⟨_, rfl, a, nv L, rfl, .inl hL, ?_⟩
      have e : L.findIdx (· == j) = L.length := List.findIdx_eq_length.mpr fun x hx => beq_false_of_ne fun q => by
        rw [q] at hx
        rw [List.contains_iff_mem.mpr hx] at hc
        cases hc
      rw [e] at k
      rw [nv_len]
      exact k
def spMay : Sp := fun vs H Q _ => ∃ (a : Addr) (l : Likes) (i j : Nat), vs = [.ref a, .int i, .int j] ∧ Lists H a l ∧ Valid l ∧ i ∈ Vbhoam.guests l ∧ Q (.bl (Vbhoam.mutual_ l i j)) H
theorem d_may_share (T : Txt K mg) : Dn P w K mg base "may_share" 1 ["lists", "one", "other"] spMay := by
  refine Dn.of T.f_may_share sc_may_share (fun vs H Q E h => ?_) (fun f cdv A outer s H vs Q E hr h => ?_)
  · obtain ⟨a, l, i, j, rfl, _⟩ := h
    rfl
  · obtain ⟨a, l, i, j, rfl, hL, hV, hi, k⟩ := h
    refine ⟨_, (pss_one (ps_ret (pe_and (pe_cmpR op_in_seq (pv 2) (pe_ix ix_list (pv 0) (pv 1) (fun _ _ => rfl)) (by with_unfolding_all rfl)) (pe_one (pe_cmpR op_in_seq (pv 1) (pe_ix ix_list (pv 0) (pv 2) (fun _ _ => rfl)) (by with_unfolding_all rfl)))))), ?_⟩
    obtain ⟨xs, b, h1, h2, h3⟩ := hL.at_ hi
    refine ⟨_, rfl, _, rfl, _, rfl, a, xs, _, _, rfl, rfl, SqL.of h1, h2, b, _, rfl, .inl (SqL.of h3), rfl, nv_flat _, _, rfl, ?_⟩
    show if inV (.int (j : Int)) (nv _) = true then _ else _
    rw [nv_in]
    rw [mutual_eq hV hi] at k
    cases hc : (Vbhoam.listOf l i).contains j with
    | false => rw [if_neg (by simp)]; rw [hc] at k; exact k
    | true =>
      rw [if_pos rfl]
      rw [hc, Bool.true_and] at k
      obtain ⟨ys, c, g1, g2, g3⟩ := hL.at_ (hV.one i hi j (List.contains_iff_mem.mp hc)).1
      refine ⟨_, rfl, _, rfl, _, rfl, a, ys, _, _, rfl, rfl, SqL.of g1, g2, c, _, rfl, .inl (SqL.of g3), rfl, nv_flat _, ?_⟩
      show Q (.bl (inV (.int (i : Int)) (nv _))) H
      rw [nv_in]
      exact k
def spLikes : Sp := fun vs H Q _ => ∃ (a : Addr) (l : Likes) (g i j : Nat), vs = [.ref a, .int g, .int i, .int j] ∧ Lists H a l ∧ Valid l ∧ g ∈ Vbhoam.guests l ∧ Q (.bl (Vbhoam.prefers l g i j)) H
theorem d_likes_better (T : Txt K mg) : Dn P w K mg base "likes_better" 2 ["lists", "guest", "one", "other"] spLikes := by
  have D_place_on_list := d_place_on_list (P := P) (w := w) (base := base) T
  refine Dn.of T.f_likes_better sc_likes_better (fun vs H Q E h => ?_) (fun f cdv A outer s H vs Q E hr h => ?_)
  · obtain ⟨a, l, g, i, j, rfl, _⟩ := h
    rfl
  · obtain ⟨a, l, g, i, j, rfl, hL, hV, hg, k⟩ := h
    refine ⟨_, (pss_one (ps_ret (pe_cmpR op_lt (pe_callD D_place_on_list (hr.mono (by decide)) rfl (pa_cons (pe_ix ix_list (pv 0) (pv 1) (fun _ _ => rfl)) (pa_cons (pv 2) pa_nil))) (pe_callD D_place_on_list (hr.mono (by decide)) rfl (pa_cons (pe_ix ix_list (pv 0) (pv 1) (fun _ _ => rfl)) (pa_cons (pv 3) pa_nil))) (nomark _)))), ?_⟩
    obtain ⟨xs, b, h1, h2, h3⟩ := hL.at_ hg
    refine ⟨_, rfl, _, rfl, a, xs, _, _, rfl, rfl, SqL.of h1, h2, _, rfl, b, _, i, rfl, SqL.of h3, ?_⟩
    refine ⟨_, rfl, _, rfl, a, xs, _, _, rfl, rfl, SqL.of h1, h2, _, rfl, b, _, j, rfl, SqL.of h3, ?_⟩
    refine ⟨_, _, rfl, rfl, ?_⟩
    unfold Vbhoam.prefers at k
    rw [rank_eq hV hg, rank_eq hV hg] at k
    have e : decide (((((Vbhoam.listOf l g).findIdx (· == i) : Nat)) : Int) < (((Vbhoam.listOf l g).findIdx (· == j) : Nat) : Int)) = decide ((Vbhoam.listOf l g).findIdx (· == i) < (Vbhoam.listOf l g).findIdx (· == j)) := decide_eq_decide.mpr Int.ofNat_lt
    rw [← e] at k
    exact k
def spRather (K : PySem.W.Frag) : Sp := fun vs H Q _ => ∃ (a b : Addr) (l : Likes) (m : List Nat) (i j : Nat), vs = [.ref a, .ref b, .int i, .int j] ∧ Lists H a l ∧ Valid l ∧ SqL K H b (nv m) ∧ m.length = l.length ∧ i ∈ Vbhoam.guests l ∧ j ∈ Vbhoam.guests l ∧
  Q (.bl (Vbhoam.block l m i j)) H
theorem d_would_rather_share (T : Txt K mg) : Dn P w K mg base "would_rather_share" 3 ["lists", "held", "one", "other"] (spRather K) := by
  have D_may_share := d_may_share (P := P) (w := w) (base := base) T
  have D_likes_better := d_likes_better (P := P) (w := w) (base := base) T
  refine Dn.of T.f_would_rather_share sc_would_rather_share (fun vs H Q E h => ?_) (fun f cdv A outer s H vs Q E hr h => ?_)
  · obtain ⟨a, b, l, m, i, j, rfl, _⟩ := h
    rfl
  · obtain ⟨a, b, l, m, i, j, rfl, hL, hV, hm, hlen, hi, hj, k⟩ := h
    refine ⟨_, (pss_cons (ps_if (pt_not (pt_val (pe_callD D_may_share (hr.mono (by decide)) rfl (pa_cons (pv 0) (pa_cons (pv 2) (pa_cons (pv 3) pa_nil)))))) (pss_one (ps_ret pe_bl)) pss_nil)
      (pss_cons (ps_if (pt_not (pt_val (pe_callD D_likes_better (hr.mono (by decide)) rfl (pa_cons (pv 0) (pa_cons (pv 2) (pa_cons (pv 3) (pa_cons (pe_ix ix_list (pv 1) (pe_op op_sub (pv 2) pe_int) (fun _ _ => rfl)) pa_nil))))))) (pss_one (ps_ret pe_bl)) pss_nil)
      (pss_one (ps_ret (pe_callD D_likes_better (hr.mono (by decide)) rfl (pa_cons (pv 0) (pa_cons (pv 3) (pa_cons (pv 2) (pa_cons (pe_ix ix_list (pv 1) (pe_op op_sub (pv 3) pe_int) (fun _ _ => rfl)) pa_nil))))))))), ?_⟩
    have hi' := mem_guests.mp hi
    have hj' := mem_guests.mp hj
    unfold Vbhoam.block at k
    refine ⟨_, rfl, _, rfl, _, rfl, a, l, i, j, rfl, hL, hV, hi, _, rfl, ?_⟩
    cases h1 : Vbhoam.mutual_ l i j with
    | false => rw [h1] at k; exact k
    | true =>
      rw [h1, Bool.true_and] at k
      refine ⟨_, rfl, _, rfl, _, rfl, _, rfl, _, rfl, _, _, rfl, rfl, b, _, _, _, rfl, rfl, hm, nv_partner hi'.1 (by omega) rfl, a, l, i, j, _, rfl, hL, hV, hi, _, rfl, ?_⟩
      cases h2 : Vbhoam.prefers l i j (Vbhoam.partner m i) with
      | false => rw [h2] at k; exact k
      | true =>
        rw [h2, Bool.true_and] at k
        exact ⟨_, rfl, _, rfl, _, rfl, _, rfl, _, rfl, _, _, rfl, rfl, b, _, _, _, rfl, rfl, hm, nv_partner hj'.1 (by omega) rfl, a, l, j, i, _, rfl, hL, hV, hj, k⟩
end
end Rs
end
section
set_option Elab.async false
set_option linter.all false
set_option maxRecDepth 100000
set_option maxHeartbeats 2000000
namespace Rs
open PySem PySem.Spec PyProof.Rows L2
open Vbhoam (Likes)
section
variable {P : Program} {w : World} {K : PySem.W.Frag} {mg : Str → Option Value} {base : Heap}
/-- no two ahead of a place would rather share -/
def NoB (l : Likes) (m : List Nat) (i j : Nat) : Prop := ∀ a b, a ∈ Vbhoam.guests l → b ∈ Vbhoam.guests l → a < b → pairLt (a, b) (i, j) → Vbhoam.block l m a b = false
theorem NoB.start (l : Likes) (m : List Nat) : NoB l m 1 0 := fun a b ha _ _ h => by
  have := mem_guests.mp ha
  rcases h with h | ⟨_, h⟩
  · exact absurd (show a < 1 from h) (by omega)
  · exact absurd (show b < 0 from h) (Nat.not_lt_zero _)
theorem NoB.row {l : Likes} {m : List Nat} {i : Nat} (h : NoB l m i 0) : NoB l m i (i + 1) := fun a b ha hb hab q => by
  rcases q with q | ⟨q1, q2⟩
  · exact h a b ha hb hab (.inl q)
  · have q1 : a = i := q1
    have q2 : b < i + 1 := q2
    exact absurd hab (by omega)
theorem NoB.step {l : Likes} {m : List Nat} {i j : Nat} (h : NoB l m i j) (e : Vbhoam.block l m i j = false) : NoB l m i (j + 1) := fun a b ha hb hab q => by
  rcases q with q | ⟨q1, q2⟩
  · exact h a b ha hb hab (.inl q)
  · have q1 : a = i := q1
    have q2 : b < j + 1 := q2
    by_cases z : b = j
    · rw [q1, z]; exact e
    · exact h a b ha hb hab (.inr ⟨q1, by show b < j; omega⟩)
theorem NoB.next {l : Likes} {m : List Nat} {i j : Nat} (h : NoB l m i j) (e : l.length < j) : NoB l m (i + 1) 0 := fun a b ha hb hab q => by
  have hb' := mem_guests.mp hb
  rcases q with q | ⟨q1, q2⟩
  · have q : a < i + 1 := q
    by_cases z : a = i
    · exact h a b ha hb hab (.inr ⟨z, by show b < j; omega⟩)
    · exact h a b ha hb hab (.inl (by show a < i; omega))
  · exact absurd (show b < 0 from q2) (Nat.not_lt_zero _)
/-- the first two who would rather share, as a new list -/
def spFirst (K : PySem.W.Frag) : Sp := fun vs H Q _ => ∃ (a b : Addr) (l : Likes) (m : List Nat), vs = [.ref a, .ref b] ∧ Lists H a l ∧ Valid l ∧ SqL K H b (nv m) ∧ m.length = l.length ∧
  ∀ p, H p = none → Q (.ref p) (upd H p (.lst (nv (firstPair l m))))
theorem d_first_rather_pair (T : Txt K mg) : Dn P w K mg base "first_rather_pair" 4 ["lists", "held"] (spFirst K) := by
  have D_would_rather_share := d_would_rather_share (P := P) (w := w) (base := base) T
  refine Dn.of T.f_first_rather_pair sc_first_rather_pair (fun vs H Q E h => ?_) (fun f cdv A outer s H vs Q E hr h => ?_)
  · obtain ⟨a, b, l, m, rfl, _⟩ := h
    rfl
  · obtain ⟨a, b, l, m, rfl, hL, hV, hm, hlen, k⟩ := h
    refine ⟨_, (pss_cons (ps_for PassesOwn.never rfl (pi_range2 rfl T.b_range (pa_cons pe_int (pa_cons (pe_callB call_len_seq rfl T.b_len PySem.boot_len (pa_cons (pv 0) pa_nil)) pa_nil))) (pg_name (i := 2) sc_first_rather_pair.nd rfl (Or.inl rfl))
        (pss_one (ps_for PassesOwn.never rfl (pi_range2 rfl T.b_range (pa_cons (pe_op op_add (pv 2) pe_int) (pa_cons (pe_callB call_len_seq rfl T.b_len PySem.boot_len (pa_cons (pv 0) pa_nil)) pa_nil))) (pg_name (i := 3) sc_first_rather_pair.nd rfl (Or.inl rfl))
        (pss_one (ps_if (pt_val (pe_callD D_would_rather_share (hr.mono (by decide)) rfl (pa_cons (pv 0) (pa_cons (pv 1) (pa_cons (pv 2) (pa_cons (pv 3) pa_nil)))))) (pss_one (ps_ret (pe_lst (pa_cons (pv 2) (pa_cons (pv 3) pa_nil))))) pss_nil)))))
      (pss_one (ps_ret (pe_lst pa_nil)))), ?_⟩
    obtain ⟨xs, h1, h2⟩ := hL.len
    have hf := hV.few
    refine ⟨_, rfl, a, xs, rfl, .inl (SqL.of h1), 1, _, rfl, ⟨by decide, by decide, by omega, by omega⟩, for_range (n := ((xs.length : Int) - 1).toNat)
      (fun i σ H' => ∃ v2 v3 : Option V, σ = [some (.ref a), some (.ref b), v2, v3] ∧ H' = H ∧ NoB l m (1 + i) 0) ⟨none, none, rfl, rfl, NoB.start l m⟩ ?_ ?_⟩
    · rintro i σ H' hi ⟨v2, v3, rfl, rfl, hn⟩
      refine ⟨_, rfl, _, _, rfl, rfl, _, rfl, a, xs, rfl, .inl (SqL.of h1), _, _, rfl, ⟨by omega, by omega, by omega, by omega⟩, for_range (n := ((xs.length : Int) - (1 + (i : Int) + 1)).toNat)
        (fun j σ H'' => ∃ v3 : Option V, σ = [some (.ref a), some (.ref b), some (.int (1 + (i : Int))), v3] ∧ H'' = H' ∧ NoB l m (1 + i) (1 + i + 1 + j)) ⟨v3, rfl, rfl, hn.row⟩ ?_ ?_⟩
      · rintro j σ H'' hj ⟨v3, rfl, rfl, hn⟩
        have gi : (1 + i) ∈ Vbhoam.guests l := mem_guests.mpr ⟨by omega, by omega⟩
        have gj : (1 + i + 1 + j) ∈ Vbhoam.guests l := mem_guests.mpr ⟨by omega, by omega⟩
        refine ⟨_, rfl, _, rfl, _, rfl, _, rfl, a, b, l, m, 1 + i, 1 + i + 1 + j, rfl, hL, hV, hm, hlen, gi, gj, _, rfl, ?_⟩
        cases hb : Vbhoam.block l m (1 + i) (1 + i + 1 + j) with
        | true =>
          refine ⟨_, rfl, _, rfl, (by show 2 ≤ sizeLine; decide), fun p hp => ?_⟩
          obtain ⟨r, hr⟩ := blocks_first gi gj (by omega) hb hn
          have e : firstPair l m = [1 + i, 1 + i + 1 + j] := by unfold firstPair; rw [hr]
          have := k p hp
          rw [e] at this
          exact this
        | false => exact ⟨_, rfl, rfl, hn.step hb⟩
      · rintro σ H'' ⟨v3, rfl, rfl, hn⟩
        refine ⟨_, _, rfl, rfl, ?_⟩
        exact hn.next (by omega)
    · rintro σ H' ⟨v2, v3, rfl, rfl, hn⟩
      refine ⟨Nat.zero_le _, fun p hp => ?_⟩
      have e : firstPair l m = [] := by
        unfold firstPair
        rw [blocks_none fun a b ha hb hab => hn a b ha hb hab (.inl (by have := mem_guests.mp ha; show a < _; omega))]
      have := k p hp
      rw [e] at this
      exact this
end
end Rs
end
section
set_option Elab.async false
set_option linter.all false
set_option maxRecDepth 100000
set_option maxHeartbeats 2000000
namespace Rs
open PySem PySem.Spec PyProof.Rows L2
open Vbhoam (Likes)
section
variable {P : Program} {w : World} {K : PySem.W.Frag} {mg : Str → Option Value} {base : Heap}
/-! ### == of lists -/
def dN (l : List Nat) : PyData := .list (l.map fun (n : Nat) => PyData.int (n : Int))
theorem dpAll_N {H : Hp} : ∀ l : List Nat, DpAll K H (nv l) (l.map fun (n : Nat) => PyData.int (n : Int))
  | [] => .nil
  | n :: l => .cons (.int _) (dpAll_N l)
theorem dp_N {H : Hp} {a : Addr} {l : List Nat} (h : SqL K H a (nv l)) : Dp K H (.ref a) (dN l) := .lst h (dpAll_N l)
theorem lay_N : ∀ l : List Nat, PyData.canLayAll0 (l.map fun (n : Nat) => PyData.int (n : Int)) = true ∧ PyData.depthAll (l.map fun (n : Nat) => PyData.int (n : Int)) ≤ 1
  | [] => by simp [PyData.canLayAll0, PyData.depthAll]
  | n :: l => by
    have := lay_N l
    simp [PyData.canLayAll0, PyData.depthAll, PyData.canLay0, PyData.depth, this]
theorem shaped_N (l : List Nat) : SeqAt.shaped (dN l) = true := by
  have h := lay_N l
  unfold SeqAt.shaped dN
  refine Bool.and_eq_true_iff.mpr ⟨?_, decide_eq_true ?_⟩
  · simp only [PyData.canLay0]; exact h.1
  · simp only [PyData.depth]; omega
theorem dpAll_NN {H : Hp} {as : List Addr} {L : List (List Nat)} (h : Paired (fun b l => H b = some (.lst (nv l))) as L) : DpAll K H (as.map V.ref) (L.map dN) := by
  induction h with
  | nil => exact .nil
  | cons r _ ih => exact .cons (dp_N (SqL.of r)) ih
theorem lay_NN : ∀ L : List (List Nat), PyData.canLayAll0 (L.map dN) = true ∧ PyData.depthAll (L.map dN) ≤ 3
  | [] => by simp [PyData.canLayAll0, PyData.depthAll]
  | l :: L => by
    have h1 := lay_NN L
    have h2 := lay_N l
    simp only [List.map_cons, PyData.canLayAll0, PyData.depthAll, dN, PyData.canLay0, PyData.depth, Bool.and_eq_true]
    exact ⟨⟨h2.1, h1.1⟩, Nat.max_le.mpr ⟨Nat.le_trans (Nat.succ_le_succ h2.2) (by decide), h1.2⟩⟩
theorem shaped_NN (L : List (List Nat)) : SeqAt.shaped (.list (L.map dN)) = true := by
  have h := lay_NN L
  unfold SeqAt.shaped
  refine Bool.and_eq_true_iff.mpr ⟨?_, decide_eq_true ?_⟩
  · simp only [PyData.canLay0]; exact h.1
  · simp only [PyData.depth]; omega
theorem eqv_nil (ds : List PyData) : PyData.eqv (.list ds) (.list []) = ds.isEmpty := by
  cases ds <;> simp [PyData.eqv, PyData.eqvAll]
theorem eq_nil_N {H : Hp} {a b : Addr} {l : List Nat} {Q : VK} (h : SqL K H a (nv l)) (hb : H b = some (.lst [])) (q : Q (.bl l.isEmpty) H) : rEqD K (.ref a) (.ref b) H Q := by
  refine ⟨dN l, dN [], dp_N h, dp_N (SqL.of hb), shaped_N l, shaped_N [], ?_⟩
  show Q (.bl (PyData.eqv (.list _) (.list []))) H
  rw [eqv_nil]
  cases l <;> exact q
theorem ne_nil_N {H : Hp} {a b : Addr} {l : List Nat} {Q : VK} (h : SqL K H a (nv l)) (hb : H b = some (.lst [])) (q : Q (.bl (!l.isEmpty)) H) : rNeD K (.ref a) (.ref b) H Q := by
  refine ⟨dN l, dN [], dp_N h, dp_N (SqL.of hb), shaped_N l, shaped_N [], ?_⟩
  show Q (.bl (!PyData.eqv (.list _) (.list []))) H
  rw [eqv_nil]
  cases l <;> exact q
theorem eq_nil_NN {H : Hp} {a b : Addr} {L : List (List Nat)} {Q : VK} (h : LL H a L) (hb : H b = some (.lst [])) (q : Q (.bl L.isEmpty) H) : rEqD K (.ref a) (.ref b) H Q := by
  obtain ⟨as, h1, h2⟩ := h
  refine ⟨.list (L.map dN), dN [], .lst (SqL.of h1) (dpAll_NN h2), dp_N (SqL.of hb), shaped_NN L, shaped_N [], ?_⟩
  show Q (.bl (PyData.eqv (.list _) (.list []))) H
  rw [eqv_nil]
  cases L <;> exact q
theorem dec_nat (x y : Nat) : decide (V.int (x : Int) = V.int (y : Int)) = (x == y) := by rw [dec_int, int_beq]
/-! ### pairings -/
def okP (l : Likes) (m : List Nat) (i : Nat) : Bool := Vbhoam.partner m i == 0 || (Vbhoam.mutual_ l i (Vbhoam.partner m i) && Vbhoam.partner m (Vbhoam.partner m i) == i)
theorem isPairing_okP {l : Likes} {m : List Nat} (h : m.length = l.length) : Vbhoam.isPairing l m = (Vbhoam.guests l).all (okP l m) := by
  unfold Vbhoam.isPairing
  rw [h, beq_self_eq_true, Bool.true_and]
  rfl
def spIsP (K : PySem.W.Frag) : Sp := fun vs H Q _ => ∃ (a b : Addr) (l : Likes) (m : List Nat), vs = [.ref a, .ref b] ∧ Lists H a l ∧ Valid l ∧ SqL K H b (nv m) ∧ m.length = l.length ∧ Q (.bl (Vbhoam.isPairing l m)) H
theorem d_is_pairing (T : Txt K mg) : Dn P w K mg base "is_pairing" 2 ["lists", "row"] (spIsP K) := by
  have D_may_share := d_may_share (P := P) (w := w) (base := base) T
  refine Dn.of T.f_is_pairing sc_is_pairing (fun vs H Q E h => ?_) (fun f cdv A outer s H vs Q E hr h => ?_)
  · obtain ⟨a, b, l, m, rfl, _⟩ := h
    rfl
  · obtain ⟨a, b, l, m, rfl, hL, hV, hm, hlen, k⟩ := h
    refine ⟨_, (pss_cons (ps_for PassesOwn.never rfl (pi_range2 rfl T.b_range (pa_cons pe_int (pa_cons (pe_callB call_len_seq rfl T.b_len PySem.boot_len (pa_cons (pv 0) pa_nil)) pa_nil))) (pg_name (i := 2) sc_is_pairing.nd rfl (Or.inl rfl))
        (pss_cons (ps_set (i := 3) sc_is_pairing.nd rfl (Or.inl rfl) (pe_ix ix_list (pv 1) (pe_op op_sub (pv 2) pe_int) (fun _ _ => rfl)))
      (pss_one (ps_if (pt_cmpR op_ne (pv 3) pe_int (nomark _)) (pss_one (ps_if (PW.pt (pw_or (pt_not (pt_val (pe_callD D_may_share (hr.mono (by decide)) rfl (pa_cons (pv 0) (pa_cons (pv 2) (pa_cons (pv 3) pa_nil)))))) (pw_or1 (pt_cmpR op_ne (pe_ix ix_list (pv 1) (pe_op op_sub (pv 3) pe_int) (fun _ _ => rfl)) (pv 2) (nomark _))))) (pss_one (ps_ret pe_bl)) pss_nil)) pss_nil))))
      (pss_one (ps_ret pe_bl))), ?_⟩
    obtain ⟨xs, h1, h2⟩ := hL.len
    have hf := hV.few
    rw [isPairing_okP hlen] at k
    refine ⟨_, rfl, a, xs, rfl, .inl (SqL.of h1), 1, _, rfl, ⟨by decide, by decide, by omega, by omega⟩, for_range (n := ((xs.length : Int) - 1).toNat)
      (fun i σ H' => ∃ v2 v3 : Option V, σ = [some (.ref a), some (.ref b), v2, v3] ∧ H' = H ∧ ∀ g ∈ Vbhoam.guests l, g < 1 + i → okP l m g = true) ⟨none, none, rfl, rfl, fun g hg q => absurd (mem_guests.mp hg) (by omega)⟩ ?_ ?_⟩
    · rintro i σ H' hi ⟨v2, v3, rfl, rfl, hn⟩
      have gi : (1 + i) ∈ Vbhoam.guests l := mem_guests.mpr ⟨by omega, by omega⟩
      have bad : okP l m (1 + i) = false → (Vbhoam.guests l).all (okP l m) = false := fun e => by
        rw [Bool.eq_false_iff]
        intro q
        rw [List.all_eq_true.mp q _ gi] at e
        cases e
      have good : okP l m (1 + i) = true → ∀ g ∈ Vbhoam.guests l, g < 1 + (i + 1) → okP l m g = true := fun e g hg q => by
        by_cases z : g = 1 + i
        · rw [z]; exact e
        · exact hn g hg (by omega)
      refine ⟨_, rfl, _, rfl, _, _, rfl, rfl, b, _, _, _, rfl, rfl, hm, nv_partner (i := 1 + i) (by omega) (by omega) (by omega), ?_⟩
      refine ⟨_, rfl, rfl, _, rfl, ?_⟩
      rw [show decide (V.int ((Vbhoam.partner m (1 + i) : Nat) : Int) = V.int 0) = (Vbhoam.partner m (1 + i) == 0) from dec_nat _ 0]
      cases e0 : (Vbhoam.partner m (1 + i) == 0) with
      | true => exact ⟨_, _, rfl, rfl, good (by unfold okP; rw [e0]; rfl)⟩
      | false =>
        refine ⟨_, rfl, _, rfl, _, rfl, a, l, 1 + i, _, rfl, hL, hV, gi, _, rfl, ?_⟩
        cases e1 : Vbhoam.mutual_ l (1 + i) (Vbhoam.partner m (1 + i)) with
        | false =>
          have := bad (by unfold okP; rw [e0, e1]; rfl)
          rw [this] at k
          exact k
        | true =>
          have gp : Vbhoam.partner m (1 + i) ∈ Vbhoam.guests l := by
            rw [mutual_eq hV gi, Bool.and_eq_true] at e1
            exact (hV.one _ gi _ (List.contains_iff_mem.mp e1.1)).1
          have gp' := mem_guests.mp gp
          refine ⟨_, rfl, _, rfl, _, _, rfl, rfl, b, _, _, _, rfl, rfl, hm, nv_partner gp'.1 (by omega) rfl, _, rfl, rfl, _, rfl, ?_⟩
          rw [show decide (V.int ((Vbhoam.partner m (Vbhoam.partner m (1 + i)) : Nat) : Int) = V.int (1 + (i : Int))) = (Vbhoam.partner m (Vbhoam.partner m (1 + i)) == 1 + i) from dec_nat _ (1 + i)]
          cases e2 : (Vbhoam.partner m (Vbhoam.partner m (1 + i)) == 1 + i) with
          | false =>
            have := bad (by unfold okP; rw [e0, e1, e2]; rfl)
            rw [this] at k
            exact k
          | true => exact ⟨_, _, rfl, rfl, good (by unfold okP; rw [e0, e1, e2]; rfl)⟩
    · rintro σ H' ⟨v2, v3, rfl, rfl, hn⟩
      have : (Vbhoam.guests l).all (okP l m) = true := List.all_eq_true.mpr fun g hg => hn g hg (by have := mem_guests.mp hg; omega)
      rw [this] at k
      exact k
def spStable (K : PySem.W.Frag) : Sp := fun vs H Q _ => ∃ (a b : Addr) (l : Likes) (m : List Nat), vs = [.ref a, .ref b] ∧ Lists H a l ∧ Valid l ∧ SqL K H b (nv m) ∧ m.length = l.length ∧ ∀ H', Same H H' → Q (.bl (Vbhoam.blocks l m).isEmpty) H'
theorem d_is_stable (T : Txt K mg) : Dn P w K mg base "is_stable" 5 ["lists", "pairing"] (spStable K) := by
  have D_first_rather_pair := d_first_rather_pair (P := P) (w := w) (base := base) T
  refine Dn.of T.f_is_stable sc_is_stable (fun vs H Q E h => ?_) (fun f cdv A outer s H vs Q E hr h => ?_)
  · obtain ⟨a, b, l, m, rfl, _⟩ := h
    rfl
  · obtain ⟨a, b, l, m, rfl, hL, hV, hm, hlen, k⟩ := h
    refine ⟨_, (pss_one (ps_ret (pe_cmpR (op_eqD hr.units) (pe_callD D_first_rather_pair (hr.mono (by decide)) rfl (pa_cons (pv 0) (pa_cons (pv 1) pa_nil))) (pe_lst pa_nil) (nomark _)))), ?_⟩
    refine ⟨_, rfl, _, rfl, a, b, l, m, rfl, hL, hV, hm, hlen, fun p hp => ⟨Nat.zero_le _, fun q hq => ?_⟩⟩
    have s1 := same_upd (o := .lst (nv (firstPair l m))) hp
    have s2 := same_upd (o := .lst []) hq
    refine eq_nil_N (SqL.of (s2 _ _ upd_same)) upd_same ?_
    have e : (firstPair l m).isEmpty = (Vbhoam.blocks l m).isEmpty := by
      unfold firstPair
      cases Vbhoam.blocks l m <;> rfl
    rw [e]
    exact k _ (s1.trans s2)
end
end Rs
end
section
set_option Elab.async false
set_option linter.all false
set_option maxRecDepth 100000
set_option maxHeartbeats 2000000
namespace Rs
open PySem PySem.Spec PyProof.Rows L2
open Vbhoam (Likes)
section
variable {P : Program} {w : World} {K : PySem.W.Frag} {mg : Str → Option Value} {base : Heap}
theorem guests_range (l : Likes) : Vbhoam.guests l = List.range' 1 l.length := by
  unfold Vbhoam.guests
  rw [List.range'_eq_map_range]
  refine List.map_congr_left fun x _ => ?_
  omega
theorem filter_from (l : Likes) (g : Nat) (h : g ≤ l.length) (c : Nat → Bool) : (Vbhoam.guests l).filter (fun j => decide (g < j) && c j) = (List.range' (g + 1) (l.length - g)).filter c := by
  have e : List.range' 1 l.length = List.range' 1 g ++ List.range' (1 + 1 * g) (l.length - g) := by
    rw [List.range'_append, Nat.add_sub_cancel' h]
  rw [guests_range, e, List.filter_append]
  have h1 : (List.range' 1 g).filter (fun j => decide (g < j) && c j) = [] := by
    rw [List.filter_eq_nil_iff]
    intro x hx
    have := List.mem_range'_1.mp hx
    rw [show decide (g < x) = false from decide_eq_false (by omega)]
    simp
  rw [h1, List.nil_append, show 1 + 1 * g = g + 1 by omega]
  refine List.filter_congr fun x hx => ?_
  have := List.mem_range'_1.mp hx
  rw [show decide (g < x) = true from decide_eq_true (by omega), Bool.true_and]
theorem filter_more (s i : Nat) (c : Nat → Bool) : (List.range' s (i + 1)).filter c = (List.range' s i).filter c ++ (if c (s + i) then [s + i] else []) := by
  rw [List.range'_concat, List.filter_append, Nat.one_mul]
  congr 1
  rw [List.filter_cons]
  cases c (s + i) <;> rfl
def chC (l : Likes) (row : List Nat) (j : Nat) : Bool := !row.contains j && Vbhoam.mutual_ l (row.length + 1) j
theorem choices_range {l : Likes} {row : List Nat} (h : row.length < l.length) (hc : row.contains (row.length + 1) = false) : choices l row = 0 :: (List.range' (row.length + 1 + 1) (l.length - (row.length + 1))).filter (chC l row) := by
  rw [choices_out hc, ← filter_from l (row.length + 1) h]
  rfl
def spChoices (K : PySem.W.Frag) : Sp := fun vs H Q _ => ∃ (a b : Addr) (l : Likes) (row : List Nat), vs = [.ref a, .ref b] ∧ Lists H a l ∧ Valid l ∧ SqL K H b (nv row) ∧ row.length < l.length ∧
  ∀ p, H p = none → Q (.ref p) (upd H p (.lst (nv (choices l row))))
theorem d_choices_for_next_guest (T : Txt K mg) : Dn P w K mg base "choices_for_next_guest" 2 ["lists", "row"] (spChoices K) := by
  have D_may_share := d_may_share (P := P) (w := w) (base := base) T
  refine Dn.of T.f_choices_for_next_guest sc_choices_for_next_guest (fun vs H Q E h => ?_) (fun f cdv A outer s H vs Q E hr h => ?_)
  · obtain ⟨a, b, l, m, rfl, _⟩ := h
    rfl
  · obtain ⟨a, b, l, row, rfl, hL, hV, hm, hlen, k⟩ := h
    refine ⟨_, (pss_cons (ps_set (i := 2) sc_choices_for_next_guest.nd rfl (Or.inl rfl) (pe_op op_add (pe_callB call_len_seq rfl T.b_len PySem.boot_len (pa_cons (pv 1) pa_nil)) pe_int))
      (pss_cons (ps_if (pt_cmpR op_in_seq (pv 2) (pv 1) (by with_unfolding_all rfl)) (pss_one (ps_ret (pe_lst (pa_cons (pe_op op_add (pe_bm PySem.F.plainAttrs_list PySem.F.slot_list_index PySem.F.type_list_index mt_index (pv 1) (pa_cons (pv 2) pa_nil)) pe_int) pa_nil)))) pss_nil)
      (pss_cons (ps_set (i := 3) sc_choices_for_next_guest.nd rfl (Or.inl rfl) (pe_lst (pa_cons pe_int pa_nil)))
      (pss_cons (ps_for PassesOwn.never rfl (pi_range2 rfl T.b_range (pa_cons (pe_op op_add (pv 2) pe_int) (pa_cons (pe_callB call_len_seq rfl T.b_len PySem.boot_len (pa_cons (pv 0) pa_nil)) pa_nil))) (pg_name (i := 4) sc_choices_for_next_guest.nd rfl (Or.inl rfl))
        (pss_one (ps_if (PW.pt (pw_and (pt_cmpR op_notIn_seq (pv 4) (pv 1) (by with_unfolding_all rfl)) (pw_and1 (pt_val (pe_callD D_may_share (hr.mono (by decide)) rfl (pa_cons (pv 0) (pa_cons (pv 2) (pa_cons (pv 4) pa_nil)))))))) (pss_one (ps_expr (pe_bm PySem.F.plainAttrs_list PySem.F.slot_list_append PySem.F.type_list_append mt_append (pv 3) (pa_cons (pv 4) pa_nil)))) pss_nil)))
      (pss_one (ps_ret (pv 3))))))), ?_⟩
    obtain ⟨xs, h1, h2⟩ := hL.len
    have hf := hV.few
    refine ⟨_, rfl, b, _, rfl, .inl hm, _, _, rfl, rfl, ?_⟩
    rw [nv_len]
    refine ⟨_, rfl, _, rfl, b, _, rfl, .inl hm, rfl, nv_flat _, _, rfl, ?_⟩
    show if inV (.int ((row.length + 1 : Nat) : Int)) (nv row) = true then _ else _
    rw [nv_in]
    cases hc : row.contains (row.length + 1) with
    | true =>
      rw [if_pos rfl]
      obtain ⟨g1, g2, g3⟩ := nv_idx hc
      refine ⟨_, rfl, .inl ⟨rfl, _, hm⟩, _, rfl, b, nv row, _, _, _, rfl, rfl, hm, rfl, nv_flat row, g1, g2, g3, _, _, rfl, rfl, (by show 1 ≤ sizeLine; decide), fun p hp => ?_⟩
      have := k p hp
      rw [choices_in hc] at this
      exact this
    | false =>
      rw [if_neg (by simp)]
      refine ⟨(by show 1 ≤ sizeLine; decide), fun p hp => ?_⟩
      have sm : ∀ (o : HO), Same H (upd H p o) := fun o => same_upd hp
      have hgi : row.length + 1 ∈ Vbhoam.guests l := mem_guests.mpr ⟨by omega, by omega⟩
      refine ⟨_, rfl, _, _, rfl, rfl, _, rfl, a, xs, rfl, .inl (SqL.of (sm _ _ _ h1)), _, _, rfl, ⟨by omega, by omega, by omega, by omega⟩, for_range (n := ((xs.length : Int) - (((row.length : Nat) : Int) + 1 + 1)).toNat)
        (fun i σ H' => ∃ v4 : Option V, σ = [some (.ref a), some (.ref b), some (.int ((row.length : Nat) + 1 : Int)), some (.ref p), v4] ∧ H' = upd H p (.lst (nv (0 :: (List.range' (row.length + 1 + 1) i).filter (chC l row))))) ⟨none, rfl, rfl⟩ ?_ ?_⟩
      · rintro i σ H' hi ⟨v4, rfl, rfl⟩
        refine ⟨_, rfl, _, rfl, b, _, rfl, .inl ((sm _).seq hm), rfl, nv_flat _, _, rfl, ?_⟩
        show if (!inV (.int ((row.length + 1 + 1 + i : Nat) : Int)) (nv row)) = true then _ else _
        rw [nv_in]
        cases e1 : row.contains (row.length + 1 + 1 + i) with
        | true =>
          rw [Bool.not_true, if_neg (by simp)]
          refine ⟨_, rfl, ?_⟩
          rw [filter_more, show chC l row (row.length + 1 + 1 + i) = false by unfold chC; rw [e1]; rfl]
          simp
        | false =>
          rw [Bool.not_false, if_pos rfl]
          refine ⟨_, rfl, _, rfl, _, rfl, a, l, row.length + 1, row.length + 1 + 1 + i, rfl, hL.mono (sm _), hV, hgi, _, rfl, ?_⟩
          cases e2 : Vbhoam.mutual_ l (row.length + 1) (row.length + 1 + 1 + i) with
          | false =>
            refine ⟨_, rfl, ?_⟩
            rw [filter_more, show chC l row (row.length + 1 + 1 + i) = false by unfold chC; rw [e1, e2]; rfl]
            simp
          | true =>
            refine ⟨_, rfl, .inl ⟨rfl, _, SqL.of upd_same⟩, _, rfl, p, _, _, rfl, rfl, upd_same, ?_, _, rfl, ?_⟩
            · rw [nv_len, List.length_cons]
              have := List.length_filter_le (chC l row) (List.range' (row.length + 1 + 1) i)
              rw [List.length_range'] at this
              have : sizeLine = 16777216 := rfl
              omega
            · rw [upd_upd, filter_more, show chC l row (row.length + 1 + 1 + i) = true by unfold chC; rw [e1, e2]; rfl, if_pos rfl, ← List.cons_append, nv_app]
              rfl
      · rintro σ H' ⟨v4, rfl, rfl⟩
        refine ⟨_, rfl, ?_⟩
        have := k p hp
        rw [choices_range hlen hc] at this
        rw [show ((xs.length : Int) - (((row.length : Nat) : Int) + 1 + 1)).toNat = l.length - (row.length + 1) by omega]
        exact this
end
end Rs
end
section
set_option Elab.async false
set_option linter.all false
set_option maxRecDepth 100000
set_option maxHeartbeats 2000000
namespace Rs
open PySem PySem.Spec PyProof.Rows L2
open Vbhoam (Likes)
section
variable {P : Program} {w : World} {K : PySem.W.Frag} {mg : Str → Option Value} {base : Heap}
/-! ### how many rows there are at most -/
theorem flat_len {f : List Nat → List (List Nat)} (hf : ∀ r, (f r).length ≤ 8) : ∀ L : List (List Nat), (L.flatMap f).length ≤ 8 * L.length
  | [] => Nat.le_refl _
  | r :: L => by
    rw [List.flatMap_cons, List.length_append, List.length_cons]
    have := hf r
    have := flat_len hf L
    omega
theorem iter_len {f : List Nat → List (List Nat)} (hf : ∀ r, (f r).length ≤ 8) : ∀ i, (iter f i [[]]).length ≤ 8 ^ i
  | 0 => Nat.le_refl _
  | i + 1 => by
    rw [iter_last]
    have h1 := flat_len hf (iter f i [[]])
    have h2 := iter_len hf i
    rw [Nat.pow_succ]
    omega
theorem pow8 {i : Nat} (h : i ≤ 6) : 8 ^ i ≤ 262144 := Nat.le_trans (Nat.pow_le_pow_right (by decide) h) (by decide)
theorem growP_len {l : Likes} (hV : Valid l) (r : List Nat) : (growP l r).length ≤ 8 := by
  unfold growP choices
  rw [List.length_map]
  split
  · simp
  · rw [List.length_cons]
    have := List.length_filter_le (fun j => decide (r.length + 1 < j) && (!r.contains j && Vbhoam.mutual_ l (r.length + 1) j)) (Vbhoam.guests l)
    rw [guests_len] at this
    have := hV.few
    omega
theorem iter_row {f : List Nat → List (List Nat)} (hf : ∀ r x, x ∈ f r → ∃ p, x = r ++ [p]) {i : Nat} {r : List Nat} (h : r ∈ iter f i [[]]) : r.length = i := by
  obtain ⟨s, rfl, hs⟩ := iter_starts hf i [] r h
  exact hs
/-! ### lists of lists that grow -/
theorem same_upd2 {H H1 : Hp} {p : Addr} {o : HO} (s : Same H H1) (h : H p = none) : Same H (upd H1 p o) := fun b u e => by
  rw [upd_ne (ne_of_none e h)]; exact s _ _ e
theorem paired_in {α β : Type} {R : α → β → Prop} {l₁ : List α} {l₂ : List β} (h : Paired R l₁ l₂) {a : α} (ha : a ∈ l₁) : ∃ b, R a b := by
  induction h with
  | nil => simp at ha
  | cons r _ ih =>
    rcases List.mem_cons.mp ha with e | e
    · exact ⟨_, by rw [e]; exact r⟩
    · exact ih e
theorem paired_upd {H : Hp} {p : Addr} {o : HO} {as : List Addr} {L : List (List Nat)} (h : Paired (fun b l => H b = some (.lst (nv l))) as L) (hp : ∀ b ∈ as, b ≠ p) : Paired (fun b l => upd H p o b = some (.lst (nv l))) as L := by
  induction h with
  | nil => exact .nil
  | cons r _ ih => exact .cons (by rw [upd_ne (hp _ (List.mem_cons_self ..))]; exact r) (ih fun b hb => hp b (List.mem_cons_of_mem _ hb))
theorem LL.apart {H : Hp} {p : Addr} {as : List Addr} {L : List (List Nat)} (h1 : H p = some (.lst (as.map V.ref))) (h2 : Paired (fun b l => H b = some (.lst (nv l))) as L) : ∀ b ∈ as, b ≠ p := fun b hb e => by
  obtain ⟨l, hl⟩ := paired_in h2 hb
  rw [e, h1] at hl
  have hl : as.map V.ref = nv l := by injection hl with hl; injection hl
  cases as with
  | nil => simp at hb
  | cons a as =>
    cases l with
    | nil => exact absurd hl (by simp [nv])
    | cons n l => exact absurd hl (by simp [nv])
theorem LL.push {H : Hp} {p r : Addr} {L : List (List Nat)} {x : List Nat} (h : LL H p L) (hr : H r = some (.lst (nv x))) (hn : r ≠ p) : ∃ xs, H p = some (.lst xs) ∧ xs.length = L.length ∧ LL (L2.upd H p (.lst (xs ++ [V.ref r]))) p (L ++ [x]) := by
  obtain ⟨as, h1, h2⟩ := h
  refine ⟨_, h1, by rw [List.length_map]; exact h2.length, as ++ [r], by rw [upd_same, List.map_append]; rfl, ?_⟩
  exact paired_snoc (paired_upd h2 (LL.apart h1 h2)) (by rw [upd_ne hn]; exact hr)
theorem LL.new {H : Hp} {p : Addr} (h : H p = some (.lst [])) : LL H p [] := ⟨[], h, .nil⟩
/-- a new list of lists; nothing else has changed -/
def NewLL (H : Hp) (Q : VK) (L : List (List Nat)) : Prop := ∀ H' p, Same H H' → H p = none → LL H' p L → Q (.ref p) H'
def spAllP : Sp := fun vs H Q _ => ∃ (a : Addr) (l : Likes), vs = [.ref a] ∧ Lists H a l ∧ Valid l ∧ NewLL H Q (allP l)
theorem d_all_pairings (T : Txt K mg) : Dn P w K mg base "all_pairings" 3 ["lists"] spAllP := by
  have D_choices_for_next_guest := d_choices_for_next_guest (P := P) (w := w) (base := base) T
  refine Dn.of T.f_all_pairings sc_all_pairings (fun vs H Q E h => ?_) (fun f cdv A outer s H vs Q E hr h => ?_)
  · obtain ⟨a, l, rfl, _⟩ := h
    rfl
  · obtain ⟨a, l, rfl, hL, hV, k⟩ := h
    refine ⟨_, (pss_cons (ps_set (i := 1) sc_all_pairings.nd rfl (Or.inl rfl) (pe_lst (pa_cons (pe_lst pa_nil) pa_nil)))
      (pss_cons (ps_for PassesOwn.never rfl (pi_range2 rfl T.b_range (pa_cons pe_int (pa_cons (pe_callB call_len_seq rfl T.b_len PySem.boot_len (pa_cons (pv 0) pa_nil)) pa_nil))) (pg_name (i := 2) sc_all_pairings.nd rfl (Or.inl rfl))
        (pss_cons (ps_set (i := 3) sc_all_pairings.nd rfl (Or.inl rfl) (pe_lst pa_nil))
      (pss_cons (ps_for PassesOwn.never rfl (pi_list (pv 1)) (pg_name (i := 4) sc_all_pairings.nd rfl (Or.inl rfl))
        (pss_one (ps_for PassesOwn.never rfl (pi_list (pe_callD D_choices_for_next_guest (hr.mono (by decide)) rfl (pa_cons (pv 0) (pa_cons (pv 4) pa_nil)))) (pg_name (i := 5) sc_all_pairings.nd rfl (Or.inl rfl))
        (pss_one (ps_expr (pe_bm PySem.F.plainAttrs_list PySem.F.slot_list_append PySem.F.type_list_append mt_append (pv 3) (pa_cons (pe_op op_cat (pv 4) (pe_lst (pa_cons (pv 5) pa_nil))) pa_nil)))))))
      (pss_one (ps_set (i := 1) sc_all_pairings.nd rfl (Or.inl rfl) (pv 3))))))
      (pss_one (ps_ret (pv 1))))), ?_⟩
    obtain ⟨xs, h1, h2⟩ := hL.len
    have hf := hV.few
    have sz : sizeLine = 16777216 := rfl
    -- rows = [[]]
    refine ⟨Nat.zero_le _, fun p0 hp0 => ⟨(by show 1 ≤ sizeLine; decide), fun q0 hq0 => ?_⟩⟩
    have s0 := same_upd (o := .lst []) hp0
    have s1 := same_upd (o := .lst [V.ref p0]) hq0
    have sH := s0.trans s1
    have e0 : upd (upd H p0 (.lst [])) q0 (.lst [V.ref p0]) p0 = some (.lst (nv [])) := by
      rw [upd_ne (ne_of_none upd_same hq0), upd_same]; rfl
    have L0 : LL (upd (upd H p0 (.lst [])) q0 (.lst [V.ref p0])) q0 [[]] := ⟨[p0], by rw [upd_same]; rfl, .cons e0 .nil⟩
    refine ⟨_, rfl, a, xs, rfl, .inl (SqL.of (sH _ _ h1)), 1, _, rfl, ⟨by decide, by decide, by omega, by omega⟩, for_range (n := ((xs.length : Int) - 1).toNat)
      (fun i σ H' => ∃ (q : Addr) (v2 v3 v4 v5 : Option V), σ = [some (.ref a), some (.ref q), v2, v3, v4, v5] ∧ Same H H' ∧ H q = none ∧ LL H' q (iter (growP l) i [[]])) ⟨q0, none, none, none, none, rfl, sH, s0.free hq0, L0⟩ ?_ ?_⟩
    · rintro i σ H1 hi ⟨q, v2, v3, v4, v5, rfl, s2, hq, LQ⟩
      have hin : i < l.length := by omega
      have cnt := iter_len (growP_len hV) i
      have c8 := pow8 (i := i) (by omega)
      have rl : ∀ r ∈ iter (growP l) i [[]], r.length = i := fun r hr => iter_row (growP_starts l) hr
      generalize hrows : iter (growP l) i [[]] = rows at LQ cnt rl
      -- longer = []
      refine ⟨Nat.zero_le _, fun p hp => ?_⟩
      have s3 := same_upd (o := .lst []) hp
      obtain ⟨as, g1, g2⟩ := LQ
      have lenA : as.length = rows.length := g2.length
      refine ⟨_, rfl, q, rfl, ⟨_, SqL.of (s3 _ _ g1)⟩, for_list (K := K) (a := q) (xs := as.map V.ref)
        (fun j σ H2 => ∃ v4 v5 : Option V, σ = [some (.ref a), some (.ref q), some (.int (1 + (i : Int))), some (.ref p), v4, v5] ∧ Same H1 H2 ∧ LL H2 p ((rows.take j).flatMap (growP l)))
        ⟨v4, v5, rfl, s3, LL.new upd_same⟩ (fun j σ H2 _ ⟨_, _, _, s4, _⟩ => SqL.of (s4 _ _ g1)) ?_ ?_⟩
      · rintro j x σ H2 hj ⟨v4, v5, rfl, s4, LP⟩
        obtain ⟨b, hb, rfl⟩ : ∃ b, as[j]? = some b ∧ x = V.ref b := by
          rw [List.getElem?_map] at hj
          cases e : as[j]? with
          | none => rw [e] at hj; cases hj
          | some b => rw [e] at hj; exact ⟨b, rfl, (Option.some.inj hj).symm⟩
        have hjl : j < rows.length := by
          rw [← lenA]
          exact (List.getElem?_eq_some_iff.mp hb).1
        obtain ⟨b', hb', hB⟩ := paired_at g2 (List.getElem?_eq_getElem hjl)
        have eb : b' = b := Option.some.inj (hb'.symm.trans hb)
        subst eb
        generalize hrow : rows[j] = row at hB
        have lrow : row.length = i := rl row (by rw [← hrow]; exact List.getElem_mem hjl)
        have hB2 := s4 _ _ hB
        have sHH2 := s2.trans s4
        -- for partner in choices_for_next_guest(lists, row)
        refine ⟨_, rfl, _, rfl, a, b', l, row, rfl, hL.mono sHH2, hV, SqL.of hB2, by omega, fun c hc => ?_⟩
        have s5 := same_upd (o := .lst (nv (choices l row))) hc
        have clen : (choices l row).length ≤ 8 := by have := growP_len hV row; unfold growP at this; rwa [List.length_map] at this
        refine ⟨c, rfl, ⟨_, SqL.of upd_same⟩, for_list (K := K) (a := c) (xs := nv (choices l row))
          (fun t σ H3 => ∃ v5 : Option V, σ = [some (.ref a), some (.ref q), some (.int (1 + (i : Int))), some (.ref p), some (.ref b'), v5] ∧ Same H1 H3 ∧ H3 c = some (.lst (nv (choices l row))) ∧ LL H3 p ((rows.take j).flatMap (growP l) ++ ((choices l row).take t).map fun z => row ++ [z]))
          ⟨v5, rfl, s4.trans s5, upd_same, by rw [List.take_zero, List.map_nil, List.append_nil]; exact LP.mono s5⟩ (fun t σ H3 _ ⟨_, _, _, hc3, _⟩ => SqL.of hc3) ?_ ?_⟩
        · rintro t x σ H3 ht ⟨v5, rfl, s6, hc3, LP3⟩
          obtain ⟨z, hz, rfl⟩ := nv_of ht
          have hB3 := s6 _ _ hB
          have tl : t < (choices l row).length := (List.getElem?_eq_some_iff.mp hz).1
          obtain ⟨ws, w1, _⟩ := LP3.len
          refine ⟨_, rfl, .inl ⟨rfl, _, SqL.of w1⟩, _, rfl, _, rfl, (by show 1 ≤ sizeLine; decide), fun r1 hr1 => ?_⟩
          have t1 := same_upd (o := .lst [V.int (z : Int)]) hr1
          refine ⟨b', r1, _, _, rfl, rfl, t1 _ _ hB3, upd_same, by rw [nv_len, lrow]; show i + 1 ≤ sizeLine; omega, fun r2 hr2 => ?_⟩
          have t2 := same_upd (o := .lst (nv row ++ [V.int (z : Int)])) hr2
          have t12 := t1.trans t2
          have e2 : nv row ++ [V.int (z : Int)] = nv (row ++ [z]) := by rw [nv_app]; rfl
          have LP4 := LP3.mono t12
          obtain ⟨ys, y1, y2, y3⟩ := LP4.push (r := r2) (x := row ++ [z]) (by rw [upd_same, e2]) (fun e => absurd (t1 _ _ w1) (by rw [← e, hr2]; simp))
          refine ⟨p, ys, _, rfl, rfl, y1, ?_, ?_⟩
          · rw [y2, List.length_append, List.length_map, List.length_take]
            have := flat_len (growP_len hV) (rows.take j)
            rw [List.length_take] at this
            omega
          · have hpc : c ≠ p := fun e => by
              obtain ⟨zs, z1, _⟩ := LP.len
              rw [← e, hc] at z1
              cases z1
            refine ⟨_, rfl, same_upd2 (s6.trans t12) hp, ?_, ?_⟩
            · rw [upd_ne hpc]; exact t12 _ _ hc3
            · rw [List.take_succ, hz]
              show LL _ _ (_ ++ (List.take t (choices l row) ++ [z]).map _)
              rw [List.map_append, ← List.append_assoc]
              exact y3
        · rintro σ H3 ⟨v5, rfl, s6, hc3, LP3⟩
          refine ⟨_, _, rfl, s6, ?_⟩
          rw [nv_len, List.take_length] at LP3
          rw [List.take_succ, List.getElem?_eq_getElem hjl, hrow, List.flatMap_append]
          show LL _ _ (_ ++ List.flatMap (growP l) [row])
          rw [List.flatMap_singleton]
          exact LP3
      · rintro σ H2 ⟨v4, v5, rfl, s4, LP⟩
        rw [List.length_map, lenA, List.take_length] at LP
        refine ⟨_, rfl, p, _, _, _, _, rfl, s2.trans s4, s2.free hp, ?_⟩
        rw [iter_last, hrows]
        exact LP
    · rintro σ H1 ⟨q, v2, v3, v4, v5, rfl, s2, hq, LQ⟩
      refine ⟨_, rfl, k _ q s2 hq ?_⟩
      rw [show ((xs.length : Int) - 1).toNat = l.length by omega] at LQ
      exact LQ
end
end Rs
end
section
set_option Elab.async false
set_option linter.all false
set_option maxRecDepth 100000
set_option maxHeartbeats 2000000
namespace Rs
open PySem PySem.Spec PyProof.Rows L2
open Vbhoam (Likes)
section
variable {P : Program} {w : World} {K : PySem.W.Frag} {mg : Str → Option Value} {base : Heap}
theorem refs_at {as : List Addr} {i : Nat} {x : V} (h : (as.map V.ref)[i]? = some x) : ∃ b, as[i]? = some b ∧ x = V.ref b := by
  rw [List.getElem?_map] at h
  cases e : as[i]? with
  | none => rw [e] at h; cases h
  | some b => rw [e] at h; exact ⟨b, rfl, (Option.some.inj h).symm⟩
/-- the item at a turn of a walk over a list of lists -/
theorem LL.turn {H : Hp} {as : List Addr} {L : List (List Nat)} (h : Paired (fun b l => H b = some (.lst (nv l))) as L) {i : Nat} {x : V} (hx : (as.map V.ref)[i]? = some x) : ∃ b l, x = V.ref b ∧ L[i]? = some l ∧ H b = some (.lst (nv l)) := by
  obtain ⟨b, hb, rfl⟩ := refs_at hx
  have hlt : i < L.length := by rw [← h.length]; exact (List.getElem?_eq_some_iff.mp hb).1
  obtain ⟨b', hb', hq⟩ := paired_at h (List.getElem?_eq_getElem hlt)
  have e : b' = b := Option.some.inj (hb'.symm.trans hb)
  subst e
  exact ⟨b', _, rfl, List.getElem?_eq_getElem hlt, hq⟩
theorem take_snoc {α : Type} {l : List α} {i : Nat} {x : α} (h : l[i]? = some x) : l.take (i + 1) = l.take i ++ [x] := by
  rw [List.take_succ, h]; rfl
theorem allP_row {l : Likes} {r : List Nat} (h : r ∈ allP l) : r.length = l.length := iter_row (growP_starts l) h
theorem allP_len {l : Likes} (hV : Valid l) : (allP l).length ≤ 2097152 := Nat.le_trans (iter_len (growP_len hV) _) (Nat.le_trans (Nat.pow_le_pow_right (by decide) hV.few) (by decide))
def spStables : Sp := fun vs H Q _ => ∃ (a : Addr) (l : Likes), vs = [.ref a] ∧ Lists H a l ∧ Valid l ∧ NewLL H Q (Vbhoam.stables l)
theorem d_stable_pairings (T : Txt K mg) : Dn P w K mg base "stable_pairings" 6 ["lists"] spStables := by
  have D_all_pairings := d_all_pairings (P := P) (w := w) (base := base) T
  have D_is_stable := d_is_stable (P := P) (w := w) (base := base) T
  refine Dn.of T.f_stable_pairings sc_stable_pairings (fun vs H Q E h => ?_) (fun f cdv A outer s H vs Q E hr h => ?_)
  · obtain ⟨a, l, rfl, _⟩ := h
    rfl
  · obtain ⟨a, l, rfl, hL, hV, k⟩ := h
    refine ⟨_, (pss_one (ps_ret (pe_lc (own := [("pairing", 1)]) rfl sc_stable_pairings.nd (pi_list (pe_callD D_all_pairings (hr.mono (by decide)) rfl (pa_cons (pv 0) pa_nil))) (blkOk_by (N := ["lists", "pairing"]) (sc := defScope s_stable_pairings) (by decide +kernel)) (fun _ _ _ _ _ => pg_name (i := 1) sc_stable_pairings.nd rfl (Or.inl rfl)) (fun _ _ _ _ _ => pts_one (pt_val (pe_callD D_is_stable (hr.mono (by decide)) rfl (pa_cons (pv 0) (pa_cons (pv 1) pa_nil))))) (fun _ _ _ _ _ => (pv 1))))), ?_⟩
    have sz : sizeLine = 16777216 := rfl
    refine ⟨_, rfl, a, l, rfl, hL, hV, fun H1 q s1 hq LQ => ?_⟩
    obtain ⟨as, g1, g2⟩ := LQ
    refine ⟨q, rfl, ⟨_, SqL.of g1⟩, fun D hD => lc_list (K := K) (a := q) (xs := as.map V.ref)
      (fun i H2 => Same H1 H2 ∧ LL H2 D (((allP l).take i).filter fun m => (Vbhoam.blocks l m).isEmpty)) ⟨same_upd hD, LL.new upd_same⟩ (fun i H2 _ ⟨s2, _⟩ => SqL.of (s2 _ _ g1)) ?_ ?_⟩
    · rintro i x H2 hx ⟨s2, LD⟩
      obtain ⟨b, r, rfl, hr, hb⟩ := LL.turn g2 hx
      have hrl : r.length = l.length := allP_row (List.mem_of_getElem? hr)
      refine ⟨rfl, _, rfl, _, rfl, a, b, l, r, rfl, hL.mono (s1.trans s2), hV, SqL.of (s2 _ _ hb), hrl, fun H3 s3 => ⟨_, rfl, ?_⟩⟩
      have LD3 := LD.mono s3
      cases e : (Vbhoam.blocks l r).isEmpty with
      | true =>
        obtain ⟨ys, y1, y2, y3⟩ := LD3.push (r := b) (x := r) (s3 _ _ (s2 _ _ hb)) (ne_of_none hb hD)
        refine ⟨_, rfl, ys, y1, ?_, same_upd2 (s2.trans s3) hD, ?_⟩
        · rw [y2]
          exact Nat.lt_of_le_of_lt (Nat.le_trans (List.length_filter_le _ _) (Nat.le_trans (by rw [List.length_take]; exact Nat.min_le_right _ _) (allP_len hV))) (by decide)
        · rw [take_snoc hr, List.filter_append, List.filter_cons, if_pos e]
          exact y3
      | false =>
        refine ⟨s2.trans s3, ?_⟩
        rw [take_snoc hr, List.filter_append, List.filter_cons, if_neg (by rw [e]; simp), List.filter_nil, List.append_nil]
        exact LD3
    · rintro H2 ⟨s2, LD⟩
      rw [List.length_map, g2.length, List.take_length, ← stables_eq] at LD
      exact k H2 D (s1.trans s2) (s1.free hD) LD
end
end Rs
end
section
set_option Elab.async false
set_option linter.all false
set_option maxRecDepth 100000
set_option maxHeartbeats 2000000
namespace Rs
open PySem PySem.Spec PyProof.Rows L2
open Vbhoam (Likes)
section
variable {P : Program} {w : World} {K : PySem.W.Frag} {mg : Str → Option Value} {base : Heap}
/-! ### list.count -/
def rCount (K : PySem.W.Frag) : V → List V → Hp → VK → Prop := fun x xs H Q => ∃ (a : Addr) (ys : List V) (y : V), x = V.ref a ∧ xs = [y] ∧ SqL K H a ys ∧ flatV y = true ∧ ys.all flatV = true ∧ Q (.int (ys.countP (fun z => eqV z y) : Nat)) H
theorem count_eqU {y : V} : ∀ {ys : List V} {us : List Value}, Vals ys us → ys.all flatV = true → us.countP (eqU y) = ys.countP fun z => eqV z y
  | _, _, .nil, _ => rfl
  | z :: ys, u :: us, .cons r t, f => by
    rw [List.all_cons, Bool.and_eq_true] at f
    rw [List.countP_cons, List.countP_cons, eqU_of r f.1, count_eqU t f.2]
theorem mt_countL {X : Cx} : MtR X "list.count" (rCount X.K) := by
  intro pins s σ H x xs v us Q I rx rxs h
  obtain ⟨a, ys, y, rfl, rfl, hs, fy, fys, q⟩ := h
  cases rx
  cases rxs with
  | cons ry rt =>
    rename_i uy ut
    cases rt
    obtain ⟨its, rv, ⟨⟨cls, dd, data, sl⟩, n, ho, hc, hdn, hd⟩, hlen⟩ := I.list hs
    simp only at hc hd
    subst hc hd
    refine call_meets PySem.F.slot_list_count ⟨_, ho, rfl⟩ PySem.F.entry_list_count (PySem.F.args_list_count_2 _ _)
      (SeqAt.list_countAt a its.toArray n dd sl uy (eqU y)) ⟨ho, fun u' hu' => mem_eqAt ry fy rv fys u' (by simpa using hu'), ?_⟩
    rw [show its.toArray.toList = its from rfl, count_eqU rv fys]
    exact ⟨.int _, H, I.tok _, ⟨_, rfl⟩, q⟩
theorem nv_count (j : Nat) : ∀ l : List Nat, (nv l).countP (fun z => eqV z (V.int (j : Int))) = l.count j
  | [] => rfl
  | x :: l => by
    show ((V.int (x : Int)) :: nv l).countP _ = _
    rw [List.countP_cons, nv_count j l, List.count_cons]
    show _ + (if ((x : Int) == (j : Int)) = true then 1 else 0) = _
    rw [int_beq]
/-! ### the rules by the written part, for the block of a comprehension -/
section
variable {X : Cx}
theorem mt_indexK (hK : X.K = K) : MtR X "list.index" (rIndex K) := by subst hK; exact mt_index
theorem mt_countK (hK : X.K = K) : MtR X "list.count" (rCount K) := by subst hK; exact mt_countL
theorem op_in_seqK (hK : X.K = K) : OpR X (compareOp .In) (rIn K false) := by subst hK; exact op_in_seq
theorem op_notIn_seqK (hK : X.K = K) : OpR X (compareOp .NotIn) (rIn K true) := by subst hK; exact op_notIn_seq
theorem ix_listK (hK : X.K = K) : IxR X (rIxL K) := by subst hK; exact ix_list
theorem ix_tupK (hK : X.K = K) : IxR X (rIxT K) := by subst hK; exact ix_tup
theorem call_lenK (hK : X.K = K) : CallR X (.builtin "len") (fun xs H Q => ∃ p ys, xs = [.ref p] ∧ (SqL K H p ys ∨ SqT K H p ys) ∧ Q (.int ys.length) H) := by subst hK; exact call_len_seq
theorem pe_bmK {o e : Expr} {es : List Expr} {to : TE} {t : TA} {name : Str} {apos cpos : Pos} {T id : String} {r : V → List V → Hp → VK → Prop} (hK : X.K = K)
    (pa : PlainAttrs T) (slot : Slot T name id) (hty : typeOf (.builtin id) = pure (.type "method_descriptor")) (hm : MtR X id r) (ho : PE X o to) (ha : PA X (e :: es) t)
    (hbase : attributeBase o name X.env (eval o X.env) = eval o X.env := by rfl)
    (hfew : ((backTo cpos (starEach (e :: es) X.env)).all (fun x => !x.1) && (backToKw cpos (keywordEach [] X.env)).all (fun x => x.1.isSome)
      && decide ((e :: es).length + ([] : List Keyword).length + (if ([] : List Keyword).isEmpty then 0 else 1) < 30)) = true := by rfl)
    (hline : (apos.endLine == cpos.line) = true := by rfl) (hs : starEach (e :: es) X.env = (false, eval e X.env) :: starEach es X.env := by rfl) (hplain : (backTo cpos (starEach es X.env)).any (·.1) = false := by rfl) :
    PE X (.Call (.Attribute o name apos) (e :: es) [] cpos) (tBM K T r to t) := by
  subst hK
  exact pe_bm pa slot hty hm ho ha hbase hfew hline hs hplain
end
/-! ### rings -/
def spFollow : Sp := fun vs H Q _ => ∃ (a : Addr) (l : Likes) (g f : Nat), vs = [.ref a, .int g, .int f] ∧ Lists H a l ∧ Valid l ∧ g ∈ Vbhoam.guests l ∧ Q (.bl (f == g || Vbhoam.mutual_ l g f)) H
theorem d_may_follow (T : Txt K mg) : Dn P w K mg base "may_follow" 2 ["lists", "guest", "follower"] spFollow := by
  have D_may_share := d_may_share (P := P) (w := w) (base := base) T
  refine Dn.of T.f_may_follow sc_may_follow (fun vs H Q E h => ?_) (fun f cdv A outer s H vs Q E hr h => ?_)
  · obtain ⟨a, l, g, f, rfl, _⟩ := h
    rfl
  · obtain ⟨a, l, g, f, rfl, hL, hV, hg, k⟩ := h
    refine ⟨_, (pss_one (ps_ret (pe_or (pe_cmpR op_eq (pv 2) (pv 1) (nomark _)) (pe_one (pe_callD D_may_share (hr.mono (by decide)) rfl (pa_cons (pv 0) (pa_cons (pv 1) (pa_cons (pv 2) pa_nil)))))))), ?_⟩
    refine ⟨_, rfl, _, rfl, rfl, _, rfl, ?_⟩
    rw [dec_nat]
    cases e : (f == g) with
    | true => rw [e] at k; exact k
    | false =>
      rw [e, Bool.false_or] at k
      exact ⟨_, rfl, _, rfl, _, rfl, a, l, g, f, rfl, hL, hV, hg, k⟩
def okR (l : Likes) (r : List Nat) (i : Nat) : Bool := r.count i == 1 && (Vbhoam.partner r i == i || Vbhoam.mutual_ l i (Vbhoam.partner r i))
theorem isRings_okR {l : Likes} {r : List Nat} (h : r.length = l.length) : Vbhoam.isRings l r = (Vbhoam.guests l).all (okR l r) := by
  rw [Bool.eq_iff_iff]
  constructor
  · intro q
    have F := isRings_full q
    unfold Vbhoam.isRings at q
    rw [Bool.and_eq_true, List.all_eq_true] at q
    rw [List.all_eq_true]
    intro i hi
    have := q.2 i hi
    rw [Bool.and_eq_true] at this
    unfold okR
    rw [count_full F hi]
    exact this.2
  · intro q
    rw [List.all_eq_true] at q
    unfold Vbhoam.isRings
    rw [Bool.and_eq_true, List.all_eq_true, beq_iff_eq]
    refine ⟨h, fun i hi => ?_⟩
    have := q i hi
    unfold okR at this
    rw [Bool.and_eq_true, beq_iff_eq] at this
    rw [Bool.and_eq_true]
    exact ⟨List.contains_iff_mem.mpr (List.count_pos_iff.mp (by omega)), this.2⟩
def spIsR (K : PySem.W.Frag) : Sp := fun vs H Q _ => ∃ (a b : Addr) (l : Likes) (m : List Nat), vs = [.ref a, .ref b] ∧ Lists H a l ∧ Valid l ∧ SqL K H b (nv m) ∧ m.length = l.length ∧ Q (.bl (Vbhoam.isRings l m)) H
theorem d_is_rings (T : Txt K mg) : Dn P w K mg base "is_rings" 3 ["lists", "row"] (spIsR K) := by
  have D_may_follow := d_may_follow (P := P) (w := w) (base := base) T
  refine Dn.of T.f_is_rings sc_is_rings (fun vs H Q E h => ?_) (fun f cdv A outer s H vs Q E hr h => ?_)
  · obtain ⟨a, b, l, m, rfl, _⟩ := h
    rfl
  · obtain ⟨a, b, l, m, rfl, hL, hV, hm, hlen, k⟩ := h
    refine ⟨_, (pss_cons (ps_for PassesOwn.never rfl (pi_range2 rfl T.b_range (pa_cons pe_int (pa_cons (pe_callB call_len_seq rfl T.b_len PySem.boot_len (pa_cons (pv 0) pa_nil)) pa_nil))) (pg_name (i := 2) sc_is_rings.nd rfl (Or.inl rfl))
        (pss_one (ps_if (PW.pt (pw_or (pt_cmpR op_ne (pe_bm PySem.F.plainAttrs_list PySem.F.slot_list_count PySem.F.type_list_count mt_countL (pv 1) (pa_cons (pv 2) pa_nil)) pe_int (nomark _)) (pw_or1 (pt_not (pt_val (pe_callD D_may_follow (hr.mono (by decide)) rfl (pa_cons (pv 0) (pa_cons (pv 2) (pa_cons (pe_ix ix_list (pv 1) (pe_op op_sub (pv 2) pe_int) (fun _ _ => rfl)) pa_nil))))))))) (pss_one (ps_ret pe_bl)) pss_nil)))
      (pss_one (ps_ret pe_bl))), ?_⟩
    obtain ⟨xs, h1, h2⟩ := hL.len
    have hf := hV.few
    rw [isRings_okR hlen] at k
    refine ⟨_, rfl, a, xs, rfl, .inl (SqL.of h1), 1, _, rfl, ⟨by decide, by decide, by omega, by omega⟩, for_range (n := ((xs.length : Int) - 1).toNat)
      (fun i σ H' => ∃ v2 : Option V, σ = [some (.ref a), some (.ref b), v2] ∧ H' = H ∧ ∀ g ∈ Vbhoam.guests l, g < 1 + i → okR l m g = true) ⟨none, rfl, rfl, fun g hg q => absurd (mem_guests.mp hg) (by omega)⟩ ?_ ?_⟩
    · rintro i σ H' hi ⟨v2, rfl, rfl, hn⟩
      have gi : (1 + i) ∈ Vbhoam.guests l := mem_guests.mpr ⟨by omega, by omega⟩
      have bad : okR l m (1 + i) = false → (Vbhoam.guests l).all (okR l m) = false := fun e => by
        rw [Bool.eq_false_iff]
        intro q
        rw [List.all_eq_true.mp q _ gi] at e
        cases e
      have good : okR l m (1 + i) = true → ∀ g ∈ Vbhoam.guests l, g < 1 + (i + 1) → okR l m g = true := fun e g hg q => by
        by_cases z : g = 1 + i
        · rw [z]; exact e
        · exact hn g hg (by omega)
      refine ⟨_, rfl, .inl ⟨rfl, _, hm⟩, _, rfl, b, _, _, rfl, rfl, hm, rfl, nv_flat _, ?_⟩
      rw [show (nv m).countP (fun z => eqV z (V.int (1 + (i : Int)))) = m.count (1 + i) from nv_count (1 + i) m]
      refine ⟨rfl, _, rfl, ?_⟩
      rw [show decide (V.int ((m.count (1 + i) : Nat) : Int) = V.int 1) = (m.count (1 + i) == 1) from dec_nat _ 1]
      cases e0 : (m.count (1 + i) == 1) with
      | false =>
        have := bad (by unfold okR; rw [e0]; rfl)
        rw [this] at k
        exact k
      | true =>
        refine ⟨_, rfl, _, rfl, _, rfl, _, rfl, _, _, rfl, rfl, b, _, _, _, rfl, rfl, hm, nv_partner (i := 1 + i) (by omega) (by omega) (by omega), a, l, 1 + i, _, rfl, hL, hV, gi, _, rfl, ?_⟩
        cases e1 : (Vbhoam.partner m (1 + i) == 1 + i || Vbhoam.mutual_ l (1 + i) (Vbhoam.partner m (1 + i))) with
        | false =>
          have := bad (by unfold okR; rw [e0, e1]; rfl)
          rw [this] at k
          exact k
        | true => exact ⟨_, rfl, rfl, good (by unfold okR; rw [e0, e1]; rfl)⟩
    · rintro σ H' ⟨v2, rfl, rfl, hn⟩
      have : (Vbhoam.guests l).all (okR l m) = true := List.all_eq_true.mpr fun g hg => hn g hg (by have := mem_guests.mp hg; omega)
      rw [this] at k
      exact k
def spBefore (K : PySem.W.Frag) : Sp := fun vs H Q _ => ∃ (b : Addr) (r : List Nat), vs = [.ref b] ∧ SqL K H b (nv r) ∧ r.length ≤ 7 ∧ (∀ g, 1 ≤ g → g ≤ r.length → r.contains g = true) ∧ ∀ p, H p = none → Q (.ref p) (upd H p (.lst (nv (befores r))))
theorem d_ones_before (T : Txt K mg) : Dn P w K mg base "ones_before" 1 ["row"] (spBefore K) := by
  refine Dn.of T.f_ones_before sc_ones_before (fun vs H Q E h => ?_) (fun f cdv A outer s H vs Q E hr h => ?_)
  · obtain ⟨b, r, rfl, _⟩ := h
    rfl
  · obtain ⟨b, r, rfl, hm, hl7, hc, k⟩ := h
    refine ⟨_, (pss_one (ps_ret (pe_lc (own := [("guest", 1)]) rfl sc_ones_before.nd (pi_range2 rfl T.b_range (pa_cons pe_int (pa_cons (pe_op op_add (pe_callB call_len_seq rfl T.b_len PySem.boot_len (pa_cons (pv 0) pa_nil)) pe_int) pa_nil))) (blkOk_by (N := ["row", "guest"]) (sc := defScope s_ones_before) (by decide +kernel)) (fun _ _ _ _ _ => pg_name (i := 1) sc_ones_before.nd rfl (Or.inl rfl)) (fun _ _ _ _ _ => pts_nil) (fun _ _ _ _ _ => (pe_op op_add (pe_bmK (K := K) rfl PySem.F.plainAttrs_list PySem.F.slot_list_index PySem.F.type_list_index (mt_indexK (K := K) rfl) (pv 0) (pa_cons (pv 1) pa_nil)) pe_int))))), ?_⟩
    have sz : sizeLine = 16777216 := rfl
    refine ⟨_, rfl, b, _, rfl, .inl hm, _, _, rfl, rfl, 1, _, rfl, ⟨by decide, by decide, by rw [nv_len]; omega, by rw [nv_len]; omega⟩, fun D hD => lc_range (n := (((nv r).length : Int) + 1 - 1).toNat)
      (fun i H' => H' = upd H D (.lst (nv ((List.range i).map fun k => r.findIdx (· == k + 1) + 1)))) rfl ?_ ?_⟩
    · rintro i H' hi rfl
      rw [nv_len] at hi
      have hci := hc (1 + i) (by omega) (by omega)
      obtain ⟨g1, g2, g3⟩ := nv_idx hci
      have hm' := fun o => (same_upd (o := o) hD).seq hm
      refine ⟨rfl, _, rfl, .inl ⟨rfl, _, hm' _⟩, _, rfl, b, nv r, _, _, _, rfl, rfl, hm' _, rfl, nv_flat r, g1, g2, g3, _, _, rfl, rfl, _, upd_same, ?_, ?_⟩
      · rw [nv_len, List.length_map, List.length_range]; omega
      · rw [upd_upd, List.range_succ, List.map_append, nv_app]
        show _ = upd H D (.lst (_ ++ [V.int ((r.findIdx (· == i + 1) + 1 : Nat) : Int)]))
        rw [Nat.add_comm i 1]
        rfl
    · rintro H' rfl
      rw [show (((nv r).length : Int) + 1 - 1).toNat = r.length by rw [nv_len]; omega]
      exact k D hD
end
end Rs
end
section
set_option Elab.async false
set_option linter.all false
set_option maxRecDepth 100000
set_option maxHeartbeats 2000000
namespace Rs
open PySem PySem.Spec PyProof.Rows L2
open Vbhoam (Likes)
section
variable {P : Program} {w : World} {K : PySem.W.Frag} {mg : Str → Option Value} {base : Heap}
def spWill (K : PySem.W.Frag) : Sp := fun vs H Q _ => ∃ (a b : Addr) (l : Likes) (r : List Nat) (g : Nat), vs = [.ref a, .ref b, .int g] ∧ Lists H a l ∧ Valid l ∧ SqL K H b (nv r) ∧ g ∈ Vbhoam.guests l ∧ Q (.bl (willing l r g)) H
theorem d_is_willing (T : Txt K mg) : Dn P w K mg base "is_willing" 3 ["lists", "row", "guest"] (spWill K) := by
  have D_likes_better := d_likes_better (P := P) (w := w) (base := base) T
  refine Dn.of T.f_is_willing sc_is_willing (fun vs H Q E h => ?_) (fun f cdv A outer s H vs Q E hr h => ?_)
  · obtain ⟨a, b, l, r, g, rfl, _⟩ := h
    rfl
  · obtain ⟨a, b, l, r, g, rfl, hL, hV, hm, hg, k⟩ := h
    refine ⟨_, (pss_cons (ps_if (PW.pt (pw_or (pt_cmpR op_gt (pv 2) (pe_callB call_len_seq rfl T.b_len PySem.boot_len (pa_cons (pv 1) pa_nil)) (nomark _)) (pw_or1 (pt_cmpR op_notIn_seq (pv 2) (pv 1) (by with_unfolding_all rfl))))) (pss_one (ps_ret pe_bl)) pss_nil)
      (pss_cons (ps_set (i := 3) sc_is_willing.nd rfl (Or.inl rfl) (pe_ix ix_list (pv 1) (pe_op op_sub (pv 2) pe_int) (fun _ _ => rfl)))
      (pss_cons (ps_set (i := 4) sc_is_willing.nd rfl (Or.inl rfl) (pe_op op_add (pe_bm PySem.F.plainAttrs_list PySem.F.slot_list_index PySem.F.type_list_index mt_index (pv 1) (pa_cons (pv 2) pa_nil)) pe_int))
      (pss_one (ps_ret (pe_or (pe_cmpR op_eq (pv 3) (pv 4) (nomark _)) (pe_one (pe_callD D_likes_better (hr.mono (by decide)) rfl (pa_cons (pv 0) (pa_cons (pv 2) (pa_cons (pv 3) (pa_cons (pv 4) pa_nil)))))))))))), ?_⟩
    have hg' := mem_guests.mp hg
    refine ⟨_, rfl, _, rfl, b, _, rfl, .inl hm, _, _, rfl, rfl, _, rfl, ?_⟩
    unfold willing at k
    have e0 : decide (((nv r).length : Int) < (g : Int)) = decide (r.length < g) := by rw [nv_len]; exact decide_eq_decide.mpr Int.ofNat_lt
    rw [e0]
    cases h1 : decide (r.length < g) with
    | true => rw [h1, Bool.true_or, if_pos rfl] at k; exact k
    | false =>
      rw [h1, Bool.false_or] at k
      refine ⟨_, rfl, _, rfl, b, _, rfl, .inl hm, rfl, nv_flat _, _, rfl, ?_⟩
      show if (!inV (.int (g : Int)) (nv r)) = true then _ else _
      rw [nv_in]
      cases h2 : r.contains g with
      | false => rw [h2, Bool.not_false, if_pos rfl] at k; exact k
      | true =>
        rw [h2, Bool.not_true, if_neg (by simp)] at k
        have hlt : g ≤ r.length := Nat.le_of_not_lt (of_decide_eq_false h1)
        obtain ⟨g1, g2, g3⟩ := nv_idx h2
        refine ⟨_, rfl, _, rfl, _, _, rfl, rfl, b, _, _, _, rfl, rfl, hm, nv_partner hg'.1 hlt rfl, ?_⟩
        refine ⟨_, rfl, .inl ⟨rfl, _, hm⟩, _, rfl, b, nv r, _, _, _, rfl, rfl, hm, rfl, nv_flat r, g1, g2, g3, _, _, rfl, rfl, ?_⟩
        refine ⟨_, rfl, _, rfl, rfl, _, rfl, ?_⟩
        rw [show decide (V.int ((Vbhoam.partner r g : Nat) : Int) = V.int ((r.findIdx (· == g) : Nat) + 1 : Int)) = (Vbhoam.partner r g == r.findIdx (· == g) + 1) from dec_nat _ (r.findIdx (· == g) + 1)]
        cases h3 : (Vbhoam.partner r g == r.findIdx (· == g) + 1) with
        | true => rw [h3, Bool.true_or] at k; exact k
        | false =>
          rw [h3, Bool.false_or] at k
          exact ⟨_, rfl, _, rfl, _, rfl, _, rfl, a, l, g, _, r.findIdx (· == g) + 1, rfl, hL, hV, hg, k⟩
theorem will_full {l : Likes} {r : List Nat} (h : Full l r) {g : Nat} (hg : g ∈ Vbhoam.guests l) : willing l r g = (Vbhoam.next r g == Vbhoam.previous r g || Vbhoam.prefers l g (Vbhoam.next r g) (Vbhoam.previous r g)) := by
  have hg' := mem_guests.mp hg
  have hc : r.contains g = true := List.contains_iff_mem.mpr (h.all g hg)
  unfold willing
  rw [hc, show decide (r.length < g) = false from decide_eq_false (by rw [h.len]; omega), previous_eq hc]
  rfl
theorem fault_first {l : Likes} {r : List Nat} (h : Full l r) {i : Nat} (hi : i < l.length) (hn : ∀ g ∈ Vbhoam.guests l, g < 1 + i → willing l r g = true) (hb : willing l r (1 + i) = false) : Vbhoam.ringFault l r = some (1 + i) := by
  unfold Vbhoam.ringFault
  have gi : 1 + i ∈ Vbhoam.guests l := mem_guests.mpr ⟨by omega, by omega⟩
  have e : List.range' 1 l.length = List.range' 1 i ++ List.range' (1 + 1 * i) (l.length - i) := by
    rw [List.range'_append, Nat.add_sub_cancel' (Nat.le_of_lt hi)]
  rw [guests_range, e, List.find?_append]
  have h1 : (List.range' 1 i).find? (fun i => !(Vbhoam.next r i == Vbhoam.previous r i || Vbhoam.prefers l i (Vbhoam.next r i) (Vbhoam.previous r i))) = none := by
    rw [List.find?_eq_none]
    intro x hx
    have hx := List.mem_range'_1.mp hx
    have gx : x ∈ Vbhoam.guests l := mem_guests.mpr ⟨hx.1, by omega⟩
    rw [← will_full h gx, hn x gx (by omega)]
    simp
  rw [h1]
  obtain ⟨m, hm⟩ : ∃ m, l.length - i = m + 1 := ⟨l.length - i - 1, by omega⟩
  rw [hm, Nat.one_mul, List.range'_succ, List.find?_cons, ← will_full h gi, hb]
  rfl
theorem fault_none {l : Likes} {r : List Nat} (h : Full l r) (hn : ∀ g ∈ Vbhoam.guests l, willing l r g = true) : Vbhoam.ringFault l r = none := by
  have := (fault_iff h).mpr hn
  exact Option.isNone_iff_eq_none.mp this
def spUnw (K : PySem.W.Frag) : Sp := fun vs H Q _ => ∃ (a b : Addr) (l : Likes) (r : List Nat), vs = [.ref a, .ref b] ∧ Lists H a l ∧ Valid l ∧ SqL K H b (nv r) ∧ Full l r ∧ Q (.int ((Vbhoam.ringFault l r).getD 0 : Nat)) H
theorem d_first_unwilling (T : Txt K mg) : Dn P w K mg base "first_unwilling" 4 ["lists", "row"] (spUnw K) := by
  have D_is_willing := d_is_willing (P := P) (w := w) (base := base) T
  refine Dn.of T.f_first_unwilling sc_first_unwilling (fun vs H Q E h => ?_) (fun f cdv A outer s H vs Q E hr h => ?_)
  · obtain ⟨a, b, l, m, rfl, _⟩ := h
    rfl
  · obtain ⟨a, b, l, m, rfl, hL, hV, hm, hF, k⟩ := h
    refine ⟨_, (pss_cons (ps_for PassesOwn.never rfl (pi_range2 rfl T.b_range (pa_cons pe_int (pa_cons (pe_callB call_len_seq rfl T.b_len PySem.boot_len (pa_cons (pv 0) pa_nil)) pa_nil))) (pg_name (i := 2) sc_first_unwilling.nd rfl (Or.inl rfl))
        (pss_one (ps_if (pt_not (pt_val (pe_callD D_is_willing (hr.mono (by decide)) rfl (pa_cons (pv 0) (pa_cons (pv 1) (pa_cons (pv 2) pa_nil)))))) (pss_one (ps_ret (pv 2))) pss_nil)))
      (pss_one (ps_ret pe_int))), ?_⟩
    obtain ⟨xs, h1, h2⟩ := hL.len
    have hf := hV.few
    refine ⟨_, rfl, a, xs, rfl, .inl (SqL.of h1), 1, _, rfl, ⟨by decide, by decide, by omega, by omega⟩, for_range (n := ((xs.length : Int) - 1).toNat)
      (fun i σ H' => ∃ v2 : Option V, σ = [some (.ref a), some (.ref b), v2] ∧ H' = H ∧ ∀ g ∈ Vbhoam.guests l, g < 1 + i → willing l m g = true) ⟨none, rfl, rfl, fun g hg q => absurd (mem_guests.mp hg) (by omega)⟩ ?_ ?_⟩
    · rintro i σ H' hi ⟨v2, rfl, rfl, hn⟩
      have gi : (1 + i) ∈ Vbhoam.guests l := mem_guests.mpr ⟨by omega, by omega⟩
      refine ⟨_, rfl, _, rfl, _, rfl, a, b, l, m, 1 + i, rfl, hL, hV, hm, gi, _, rfl, ?_⟩
      cases e0 : willing l m (1 + i) with
      | false =>
        rw [fault_first hF (by omega) hn e0] at k
        exact ⟨_, rfl, k⟩
      | true =>
        refine ⟨_, rfl, rfl, fun g hg q => ?_⟩
        by_cases z : g = 1 + i
        · rw [z]; exact e0
        · exact hn g hg (by omega)
    · rintro σ H' ⟨v2, rfl, rfl, hn⟩
      rw [fault_none hF fun g hg => hn g hg (by have := mem_guests.mp hg; omega)] at k
      exact k
/-! ### how long a ring is -/
def spRLen (K : PySem.W.Frag) : Sp := fun vs H Q _ => ∃ (b : Addr) (l : Likes) (r : List Nat) (g : Nat), vs = [.ref b, .int g] ∧ SqL K H b (nv r) ∧ Full l r ∧ g ∈ Vbhoam.guests l ∧ Q (.int (Vbhoam.ringLength r g : Nat)) H
theorem d_ring_length (T : Txt K mg) : Dn P w K mg base "ring_length" 1 ["row", "guest"] (spRLen K) := by
  refine Dn.of T.f_ring_length sc_ring_length (fun vs H Q E h => ?_) (fun f cdv A outer s H vs Q E hr h => ?_)
  · obtain ⟨b, l, r, g, rfl, _⟩ := h
    rfl
  · obtain ⟨b, l, r, g, rfl, hm, hF, hg, k⟩ := h
    refine ⟨_, (pss_cons (ps_set (i := 2) sc_ring_length.nd rfl (Or.inl rfl) pe_int)
      (pss_cons (ps_set (i := 3) sc_ring_length.nd rfl (Or.inl rfl) (pe_ix ix_list (pv 0) (pe_op op_sub (pv 1) pe_int) (fun _ _ => rfl)))
      (pss_cons (ps_while PassesOwn.never (pt_cmpR op_ne (pv 3) (pv 1) (nomark _)) (pss_cons (ps_set (i := 2) sc_ring_length.nd rfl (Or.inl rfl) (pe_op op_add (pv 2) pe_int))
      (pss_one (ps_set (i := 3) sc_ring_length.nd rfl (Or.inl rfl) (pe_ix ix_list (pv 0) (pe_op op_sub (pv 3) pe_int) (fun _ _ => rfl))))))
      (pss_one (ps_ret (pv 2)))))), ?_⟩
    have hg' := mem_guests.mp hg
    obtain ⟨R, hle⟩ := ringLength_is hF hg
    generalize Vbhoam.ringLength r g = n at R hle k
    refine ⟨_, rfl, _, rfl, _, _, rfl, rfl, b, _, _, _, rfl, rfl, hm, nv_partner hg'.1 (by rw [hF.len]; exact hg'.2) rfl, ?_⟩
    refine ⟨fun m σ H' => ∃ t : Nat, σ = [some (.ref b), some (.int g), some (.int (t : Nat)), some (.int (orb r g t : Nat))] ∧ H' = H ∧ 1 ≤ t ∧ t ≤ n ∧ m = n - t, ⟨n - 1, 1, rfl, rfl, Nat.le_refl _, R.pos, rfl⟩, ?_⟩
    rintro m σ H' ⟨t, rfl, rfl, h1, h2, rfl⟩
    refine ⟨_, rfl, _, rfl, rfl, _, rfl, ?_⟩
    rw [dec_nat]
    by_cases e : t = n
    · subst e
      rw [R.back, beq_self_eq_true]
      exact ⟨_, rfl, k⟩
    · have hne := R.no t h1 (by omega)
      rw [beq_false_of_ne hne]
      have ho := mem_guests.mp (orb_in hF hg t)
      refine ⟨fun σ' H2 => σ' = [some (.ref b), some (.int g), some (.int ((t + 1 : Nat) : Nat)), some (.int (orb r g (t + 1) : Nat))] ∧ H2 = H', fun σ' H2 ⟨q1, q2⟩ => ⟨n - (t + 1), by omega, t + 1, q1, q2, by omega, by omega, rfl⟩, ?_⟩
      refine ⟨_, rfl, _, _, rfl, rfl, _, rfl, _, rfl, _, _, rfl, rfl, b, _, _, _, rfl, rfl, hm, nv_partner ho.1 (by rw [hF.len]; exact ho.2) rfl, rfl, rfl⟩
def oddB (r : List Nat) (g : Nat) : Bool := decide (3 ≤ Vbhoam.ringLength r g) && decide (Vbhoam.ringLength r g % 2 = 1)
def spOdd (K : PySem.W.Frag) : Sp := fun vs H Q _ => ∃ (b : Addr) (l : Likes) (r : List Nat) (g : Nat), vs = [.ref b, .int g] ∧ SqL K H b (nv r) ∧ Full l r ∧ g ∈ Vbhoam.guests l ∧ Q (.bl (oddB r g)) H
theorem d_is_odd (T : Txt K mg) : Dn P w K mg base "is_odd" 2 ["row", "guest"] (spOdd K) := by
  have D_ring_length := d_ring_length (P := P) (w := w) (base := base) T
  refine Dn.of T.f_is_odd sc_is_odd (fun vs H Q E h => ?_) (fun f cdv A outer s H vs Q E hr h => ?_)
  · obtain ⟨b, l, r, g, rfl, _⟩ := h
    rfl
  · obtain ⟨b, l, r, g, rfl, hm, hF, hg, k⟩ := h
    refine ⟨_, (pss_cons (ps_set (i := 2) sc_is_odd.nd rfl (Or.inl rfl) (pe_callD D_ring_length (hr.mono (by decide)) rfl (pa_cons (pv 0) (pa_cons (pv 1) pa_nil))))
      (pss_one (ps_ret (pe_and (pe_cmpR op_ge (pv 2) pe_int (nomark _)) (pe_one (pe_cmpR op_eq (pe_op op_mod (pv 2) pe_int) pe_int (nomark _))))))), ?_⟩
    refine ⟨_, rfl, _, rfl, b, l, r, g, rfl, hm, hF, hg, ?_⟩
    unfold oddB at k
    generalize Vbhoam.ringLength r g = n at k
    refine ⟨_, rfl, _, _, rfl, rfl, _, rfl, ?_⟩
    rw [show decide ((3 : Int) ≤ ((n : Nat) : Int)) = decide (3 ≤ n) from decide_eq_decide.mpr (by omega)]
    cases h1 : decide (3 ≤ n) with
    | false => rw [h1, Bool.false_and] at k; exact k
    | true =>
      rw [h1, Bool.true_and] at k
      refine ⟨_, rfl, _, _, rfl, rfl, (by show (0 : Int) < 2; decide), rfl, ?_⟩
      have e : decide (V.int (((n : Nat) : Int) % 2) = V.int 1) = decide (n % 2 = 1) := by
        rw [dec_int, Bool.eq_iff_iff]
        simp
        omega
      rw [e]
      exact k
def spOdds (K : PySem.W.Frag) : Sp := fun vs H Q _ => ∃ (b : Addr) (l : Likes) (r : List Nat), vs = [.ref b] ∧ SqL K H b (nv r) ∧ Full l r ∧ Valid l ∧ ∀ p, H p = none → Q (.ref p) (upd H p (.lst (nv (Vbhoam.odd l r))))
theorem d_odd_guests (T : Txt K mg) : Dn P w K mg base "odd_guests" 3 ["row"] (spOdds K) := by
  have D_is_odd := d_is_odd (P := P) (w := w) (base := base) T
  refine Dn.of T.f_odd_guests sc_odd_guests (fun vs H Q E h => ?_) (fun f cdv A outer s H vs Q E hr h => ?_)
  · obtain ⟨b, l, r, rfl, _⟩ := h
    rfl
  · obtain ⟨b, l, r, rfl, hm, hF, hV, k⟩ := h
    refine ⟨_, (pss_one (ps_ret (pe_lc (own := [("guest", 1)]) rfl sc_odd_guests.nd (pi_range2 rfl T.b_range (pa_cons pe_int (pa_cons (pe_op op_add (pe_callB call_len_seq rfl T.b_len PySem.boot_len (pa_cons (pv 0) pa_nil)) pe_int) pa_nil))) (blkOk_by (N := ["row", "guest"]) (sc := defScope s_odd_guests) (by decide +kernel)) (fun _ _ _ _ _ => pg_name (i := 1) sc_odd_guests.nd rfl (Or.inl rfl)) (fun _ _ _ _ _ => pts_one (pt_val (pe_callD D_is_odd (hr.mono (by decide)) rfl (pa_cons (pv 0) (pa_cons (pv 1) pa_nil))))) (fun _ _ _ _ _ => (pv 1))))), ?_⟩
    have sz : sizeLine = 16777216 := rfl
    have hl := hF.len
    have hf := hV.few
    refine ⟨_, rfl, b, _, rfl, .inl hm, _, _, rfl, rfl, 1, _, rfl, ⟨by decide, by decide, by rw [nv_len]; omega, by rw [nv_len]; omega⟩, fun D hD => lc_range (n := (((nv r).length : Int) + 1 - 1).toNat)
      (fun i H' => H' = upd H D (.lst (nv ((List.range' 1 i).filter (oddB r))))) rfl ?_ ?_⟩
    · rintro i H' hi rfl
      rw [nv_len] at hi
      have gi : (1 + i) ∈ Vbhoam.guests l := mem_guests.mpr ⟨by omega, by omega⟩
      have hm' := fun o => (same_upd (o := o) hD).seq hm
      refine ⟨rfl, _, rfl, _, rfl, b, l, r, 1 + i, rfl, hm' _, hF, gi, _, rfl, ?_⟩
      cases e : oddB r (1 + i) with
      | true =>
        refine ⟨_, rfl, _, upd_same, ?_, ?_⟩
        · rw [nv_len]
          have := List.length_filter_le (oddB r) (List.range' 1 i)
          rw [List.length_range'] at this
          omega
        · rw [upd_upd, filter_more, e, if_pos rfl, nv_app]
          rfl
      | false =>
        show upd H D _ = _
        rw [filter_more, e]
        simp
    · rintro H' rfl
      have := k D hD
      unfold Vbhoam.odd at this
      rw [guests_range] at this
      rw [show (((nv r).length : Int) + 1 - 1).toNat = l.length by rw [nv_len]; omega]
      exact this
end
end Rs
end
section
set_option Elab.async false
set_option linter.all false
set_option maxRecDepth 100000
set_option maxHeartbeats 2000000
namespace Rs
open PySem PySem.Spec PyProof.Rows L2
open Vbhoam (Likes)
section
variable {P : Program} {w : World} {K : PySem.W.Frag} {mg : Str → Option Value} {base : Heap}
def grC (l : Likes) (row : List Nat) (f : Nat) : Bool := follow l row f && (willing l (row ++ [f]) (row.length + 1) && willing l (row ++ [f]) f)
theorem growR_eq (l : Likes) (row : List Nat) : growR l row = ((List.range' 1 l.length).filter (grC l row)).map fun f => row ++ [f] := by
  unfold growR
  rw [guests_range]
  rfl
theorem growR_len {l : Likes} (hV : Valid l) (r : List Nat) : (growR l r).length ≤ 8 := by
  rw [growR_eq, List.length_map]
  have := List.length_filter_le (grC l r) (List.range' 1 l.length)
  rw [List.length_range'] at this
  have := hV.few
  omega
theorem growR_starts (l : Likes) (r x : List Nat) (h : x ∈ growR l r) : ∃ p, x = r ++ [p] := by
  obtain ⟨p, _, rfl⟩ := List.mem_map.mp h
  exact ⟨p, rfl⟩
def spLen : Sp := fun vs H Q _ => ∃ (a b : Addr) (l : Likes) (row : List Nat), vs = [.ref a, .ref b] ∧ Lists H a l ∧ Valid l ∧ H b = some (.lst (nv row)) ∧ row.length < l.length ∧ NewLL H Q (growR l row)
theorem d_lengthened (T : Txt K mg) : Dn P w K mg base "lengthened" 4 ["lists", "row"] spLen := by
  have D_may_follow := d_may_follow (P := P) (w := w) (base := base) T
  have D_is_willing := d_is_willing (P := P) (w := w) (base := base) T
  refine Dn.of T.f_lengthened sc_lengthened (fun vs H Q E h => ?_) (fun f cdv A outer s H vs Q E hr h => ?_)
  · obtain ⟨a, b, l, m, rfl, _⟩ := h
    rfl
  · obtain ⟨a, b, l, row, rfl, hL, hV, hm, hlen, k⟩ := h
    refine ⟨_, (pss_cons (ps_set (i := 2) sc_lengthened.nd rfl (Or.inl rfl) (pe_op op_add (pe_callB call_len_seq rfl T.b_len PySem.boot_len (pa_cons (pv 1) pa_nil)) pe_int))
      (pss_cons (ps_set (i := 3) sc_lengthened.nd rfl (Or.inl rfl) (pe_lst pa_nil))
      (pss_cons (ps_for PassesOwn.never rfl (pi_range2 rfl T.b_range (pa_cons pe_int (pa_cons (pe_callB call_len_seq rfl T.b_len PySem.boot_len (pa_cons (pv 0) pa_nil)) pa_nil))) (pg_name (i := 4) sc_lengthened.nd rfl (Or.inl rfl))
        (pss_one (ps_if (PW.pt (pw_and (pt_cmpR op_notIn_seq (pv 4) (pv 1) (by with_unfolding_all rfl)) (pw_and1 (pt_val (pe_callD D_may_follow (hr.mono (by decide)) rfl (pa_cons (pv 0) (pa_cons (pv 2) (pa_cons (pv 4) pa_nil)))))))) (pss_cons (ps_set (i := 5) sc_lengthened.nd rfl (Or.inl rfl) (pe_op op_cat (pv 1) (pe_lst (pa_cons (pv 4) pa_nil))))
      (pss_one (ps_if (PW.pt (pw_and (pt_val (pe_callD D_is_willing (hr.mono (by decide)) rfl (pa_cons (pv 0) (pa_cons (pv 5) (pa_cons (pv 2) pa_nil))))) (pw_and1 (pt_val (pe_callD D_is_willing (hr.mono (by decide)) rfl (pa_cons (pv 0) (pa_cons (pv 5) (pa_cons (pv 4) pa_nil)))))))) (pss_one (ps_expr (pe_bm PySem.F.plainAttrs_list PySem.F.slot_list_append PySem.F.type_list_append mt_append (pv 3) (pa_cons (pv 5) pa_nil)))) pss_nil))) pss_nil)))
      (pss_one (ps_ret (pv 3)))))), ?_⟩
    obtain ⟨xs, h1, h2⟩ := hL.len
    have hf := hV.few
    have sz : sizeLine = 16777216 := rfl
    refine ⟨_, rfl, b, _, rfl, .inl (SqL.of hm), _, _, rfl, rfl, ?_⟩
    rw [nv_len]
    refine ⟨Nat.zero_le _, fun p hp => ?_⟩
    have hgi : row.length + 1 ∈ Vbhoam.guests l := mem_guests.mpr ⟨by omega, by omega⟩
    refine ⟨_, rfl, a, xs, rfl, .inl (SqL.of (same_upd hp _ _ h1)), 1, _, rfl, ⟨by decide, by decide, by omega, by omega⟩, for_range (n := ((xs.length : Int) - 1).toNat)
      (fun i σ H' => ∃ v4 v5 : Option V, σ = [some (.ref a), some (.ref b), some (.int ((row.length : Nat) + 1 : Int)), some (.ref p), v4, v5] ∧ Same H H' ∧ LL H' p (((List.range' 1 i).filter (grC l row)).map fun f => row ++ [f])) ⟨none, none, rfl, same_upd hp, LL.new upd_same⟩ ?_ ?_⟩
    · rintro i σ H' hi ⟨v4, v5, rfl, s1, LP⟩
      have gi : (1 + i) ∈ Vbhoam.guests l := mem_guests.mpr ⟨by omega, by omega⟩
      have no : ∀ H2 (v4 v5 : Option V), Same H H2 → LL H2 p (((List.range' 1 i).filter (grC l row)).map fun f => row ++ [f]) → grC l row (1 + i) = false →
          ∃ w4 w5 : Option V, [some (V.ref a), some (V.ref b), some (V.int ((row.length : Nat) + 1 : Int)), some (V.ref p), v4, v5] = [some (.ref a), some (.ref b), some (.int ((row.length : Nat) + 1 : Int)), some (.ref p), w4, w5] ∧ Same H H2 ∧ LL H2 p (((List.range' 1 (i + 1)).filter (grC l row)).map fun f => row ++ [f]) := fun H2 v4 v5 s2 LP2 e => by
        refine ⟨v4, v5, rfl, s2, ?_⟩
        rw [filter_more, e]
        simpa using LP2
      refine ⟨_, rfl, _, rfl, b, _, rfl, .inl (SqL.of (s1 _ _ hm)), rfl, nv_flat _, _, rfl, ?_⟩
      show if (!inV (.int ((1 + i : Nat) : Int)) (nv row)) = true then _ else _
      rw [nv_in]
      cases e1 : row.contains (1 + i) with
      | true => exact no _ _ _ s1 LP (by unfold grC follow; rw [e1]; rfl)
      | false =>
        refine ⟨_, rfl, _, rfl, _, rfl, a, l, row.length + 1, 1 + i, rfl, hL.mono s1, hV, hgi, _, rfl, ?_⟩
        cases e2 : ((1 + i) == row.length + 1 || Vbhoam.mutual_ l (row.length + 1) (1 + i)) with
        | false => exact no _ _ _ s1 LP (by unfold grC follow; rw [e1, e2]; rfl)
        | true =>
          have efo : follow l row (1 + i) = true := by unfold follow; rw [e1, e2]; rfl
          -- longer = row + [follower]
          refine ⟨_, rfl, _, rfl, (by show 1 ≤ sizeLine; decide), fun r1 hr1 => ?_⟩
          have t1 := same_upd (o := .lst [V.int (1 + (i : Int))]) hr1
          refine ⟨b, r1, _, _, rfl, rfl, t1 _ _ (s1 _ _ hm), upd_same, by rw [nv_len]; show row.length + 1 ≤ sizeLine; omega, fun r2 hr2 => ?_⟩
          have t2 := same_upd (o := .lst (nv row ++ [V.int (1 + (i : Int))])) hr2
          have t12 := t1.trans t2
          have s2 := s1.trans t12
          have e3 : nv row ++ [V.int (1 + (i : Int))] = nv (row ++ [1 + i]) := by rw [nv_app]; rfl
          have LP2 := LP.mono t12
          have hr2' : upd (upd H' r1 (.lst [V.int (1 + (i : Int))])) r2 (.lst (nv row ++ [V.int (1 + (i : Int))])) r2 = some (.lst (nv (row ++ [1 + i]))) := by rw [upd_same, e3]
          refine ⟨_, rfl, _, rfl, _, rfl, a, r2, l, row ++ [1 + i], row.length + 1, rfl, hL.mono s2, hV, SqL.of hr2', hgi, _, rfl, ?_⟩
          cases e4 : willing l (row ++ [1 + i]) (row.length + 1) with
          | false => exact no _ _ _ s2 LP2 (by unfold grC; rw [efo, e4]; rfl)
          | true =>
            refine ⟨_, rfl, _, rfl, _, rfl, a, r2, l, row ++ [1 + i], 1 + i, rfl, hL.mono s2, hV, SqL.of hr2', gi, _, rfl, ?_⟩
            cases e5 : willing l (row ++ [1 + i]) (1 + i) with
            | false => exact no _ _ _ s2 LP2 (by unfold grC; rw [efo, e4, e5]; rfl)
            | true =>
              obtain ⟨ws, w1, _⟩ := LP.len
              obtain ⟨ys, y1, y2, y3⟩ := LP2.push hr2' (fun e => absurd (t1 _ _ w1) (by rw [← e, hr2]; simp))
              refine ⟨_, rfl, .inl ⟨rfl, _, SqL.of y1⟩, _, rfl, p, ys, _, rfl, rfl, y1, ?_, _, _, rfl, same_upd2 s2 hp, ?_⟩
              · rw [y2, List.length_map]
                have := List.length_filter_le (grC l row) (List.range' 1 i)
                rw [List.length_range'] at this
                omega
              · rw [filter_more, show grC l row (1 + i) = true by unfold grC; rw [efo, e4, e5]; rfl, if_pos rfl, List.map_append]
                exact y3
    · rintro σ H' ⟨v4, v5, rfl, s1, LP⟩
      refine ⟨_, rfl, k H' p s1 hp ?_⟩
      rw [growR_eq]
      rw [show ((xs.length : Int) - 1).toNat = l.length by omega] at LP
      exact LP
/-! ### all rings without an unwilling guest -/
theorem paired_in2 {α β : Type} {R : α → β → Prop} {l₁ : List α} {l₂ : List β} (h : Paired R l₁ l₂) {a : α} (ha : a ∈ l₁) : ∃ b, b ∈ l₂ ∧ R a b := by
  induction h with
  | nil => simp at ha
  | cons r _ ih =>
    rcases List.mem_cons.mp ha with e | e
    · exact ⟨_, List.mem_cons_self .., by rw [e]; exact r⟩
    · obtain ⟨b, h1, h2⟩ := ih e
      exact ⟨b, List.mem_cons_of_mem _ h1, h2⟩
theorem LL.ext {H : Hp} {p q : Addr} {L M : List (List Nat)} (h : LL H p L) (k : LL H q M) (hM : ∀ l ∈ M, l ≠ []) : ∃ xs zs, H p = some (.lst xs) ∧ H q = some (.lst zs) ∧ xs.length = L.length ∧ zs.length = M.length ∧ LL (upd H p (.lst (xs ++ zs))) p (L ++ M) := by
  obtain ⟨as, h1, h2⟩ := h
  obtain ⟨bs, k1, k2⟩ := k
  refine ⟨_, _, h1, k1, by rw [List.length_map]; exact h2.length, by rw [List.length_map]; exact k2.length, ?_⟩
  have hb : ∀ b ∈ bs, b ≠ p := fun b hb e => by
    obtain ⟨l, hl1, hl⟩ := paired_in2 k2 hb
    rw [e, h1] at hl
    have hl : as.map V.ref = nv l := by injection hl with hl; injection hl
    cases l with
    | nil => exact hM [] hl1 rfl
    | cons n l =>
      cases as with
      | nil => exact absurd hl (by simp [nv])
      | cons a as => exact absurd hl (by simp [nv])
  exact ⟨as ++ bs, by rw [upd_same, List.map_append], paired_app (paired_upd h2 (LL.apart h1 h2)) (paired_upd k2 hb)⟩
def spWR : Sp := fun vs H Q _ => ∃ (a : Addr) (l : Likes), vs = [.ref a] ∧ Lists H a l ∧ Valid l ∧ NewLL H Q (allR l)
theorem d_willing_rings (T : Txt K mg) : Dn P w K mg base "willing_rings" 5 ["lists"] spWR := by
  have D_lengthened := d_lengthened (P := P) (w := w) (base := base) T
  refine Dn.of T.f_willing_rings sc_willing_rings (fun vs H Q E h => ?_) (fun f cdv A outer s H vs Q E hr h => ?_)
  · obtain ⟨a, l, rfl, _⟩ := h
    rfl
  · obtain ⟨a, l, rfl, hL, hV, k⟩ := h
    refine ⟨_, (pss_cons (ps_set (i := 1) sc_willing_rings.nd rfl (Or.inl rfl) (pe_lst (pa_cons (pe_lst pa_nil) pa_nil)))
      (pss_cons (ps_for PassesOwn.never rfl (pi_range2 rfl T.b_range (pa_cons pe_int (pa_cons (pe_callB call_len_seq rfl T.b_len PySem.boot_len (pa_cons (pv 0) pa_nil)) pa_nil))) (pg_name (i := 2) sc_willing_rings.nd rfl (Or.inl rfl))
        (pss_cons (ps_set (i := 3) sc_willing_rings.nd rfl (Or.inl rfl) (pe_lst pa_nil))
      (pss_cons (ps_for PassesOwn.never rfl (pi_list (pv 1)) (pg_name (i := 4) sc_willing_rings.nd rfl (Or.inl rfl))
        (pss_one (ps_expr (pe_bm PySem.F.plainAttrs_list PySem.F.slot_list_extend PySem.F.type_list_extend mt_extend (pv 3) (pa_cons (pe_callD D_lengthened (hr.mono (by decide)) rfl (pa_cons (pv 0) (pa_cons (pv 4) pa_nil))) pa_nil)))))
      (pss_one (ps_set (i := 1) sc_willing_rings.nd rfl (Or.inl rfl) (pv 3))))))
      (pss_one (ps_ret (pv 1))))), ?_⟩
    obtain ⟨xs, h1, h2⟩ := hL.len
    have hf := hV.few
    have sz : sizeLine = 16777216 := rfl
    -- rows = [[]]
    refine ⟨Nat.zero_le _, fun p0 hp0 => ⟨(by show 1 ≤ sizeLine; decide), fun q0 hq0 => ?_⟩⟩
    have s0 := same_upd (o := .lst []) hp0
    have s1 := same_upd (o := .lst [V.ref p0]) hq0
    have sH := s0.trans s1
    have e0 : upd (upd H p0 (.lst [])) q0 (.lst [V.ref p0]) p0 = some (.lst (nv [])) := by
      rw [upd_ne (ne_of_none upd_same hq0), upd_same]; rfl
    have L0 : LL (upd (upd H p0 (.lst [])) q0 (.lst [V.ref p0])) q0 [[]] := ⟨[p0], by rw [upd_same]; rfl, .cons e0 .nil⟩
    refine ⟨_, rfl, a, xs, rfl, .inl (SqL.of (sH _ _ h1)), 1, _, rfl, ⟨by decide, by decide, by omega, by omega⟩, for_range (n := ((xs.length : Int) - 1).toNat)
      (fun i σ H' => ∃ (q : Addr) (v2 v3 v4 : Option V), σ = [some (.ref a), some (.ref q), v2, v3, v4] ∧ Same H H' ∧ H q = none ∧ LL H' q (iter (growR l) i [[]])) ⟨q0, none, none, none, rfl, sH, s0.free hq0, L0⟩ ?_ ?_⟩
    · rintro i σ H1 hi ⟨q, v2, v3, v4, rfl, s2, hq, LQ⟩
      have hin : i < l.length := by omega
      have cnt := iter_len (growR_len hV) i
      have c8 := pow8 (i := i) (by omega)
      have rl : ∀ r ∈ iter (growR l) i [[]], r.length = i := fun r hr => iter_row (growR_starts l) hr
      generalize hrows : iter (growR l) i [[]] = rows at LQ cnt rl
      -- longer = []
      refine ⟨Nat.zero_le _, fun p hp => ?_⟩
      have s3 := same_upd (o := .lst []) hp
      obtain ⟨as, g1, g2⟩ := LQ
      have lenA : as.length = rows.length := g2.length
      refine ⟨_, rfl, q, rfl, ⟨_, SqL.of (s3 _ _ g1)⟩, for_list (K := K) (a := q) (xs := as.map V.ref)
        (fun j σ H2 => ∃ v4 : Option V, σ = [some (.ref a), some (.ref q), some (.int (1 + (i : Int))), some (.ref p), v4] ∧ Same H1 H2 ∧ LL H2 p ((rows.take j).flatMap (growR l)))
        ⟨v4, rfl, s3, LL.new upd_same⟩ (fun j σ H2 _ ⟨_, _, s4, _⟩ => SqL.of (s4 _ _ g1)) ?_ ?_⟩
      · rintro j x σ H2 hj ⟨v4, rfl, s4, LP⟩
        obtain ⟨b, row, rfl, hrow, hB⟩ := LL.turn g2 hj
        have lrow : row.length = i := rl row (List.mem_of_getElem? hrow)
        have hjl : j < rows.length := (List.getElem?_eq_some_iff.mp hrow).1
        have sHH2 := s2.trans s4
        -- longer.extend(lengthened(lists, row))
        obtain ⟨ws, w1, _⟩ := LP.len
        refine ⟨_, rfl, .inl ⟨rfl, _, SqL.of w1⟩, _, rfl, _, rfl, a, b, l, row, rfl, hL.mono sHH2, hV, s4 _ _ hB, by omega, fun H3 c s5 hc LC => ?_⟩
        obtain ⟨ys, zs, y1, y2, y3, y4, y5⟩ := (LP.mono s5).ext LC fun r hr e => by
          obtain ⟨z, rfl⟩ := growR_starts l row r hr
          exact absurd e (by simp)
        refine ⟨p, c, ys, zs, rfl, rfl, y1, y2, ?_, _, rfl, same_upd2 (s4.trans s5) hp, ?_⟩
        · rw [y3, y4]
          have h3 := flat_len (growR_len hV) (rows.take j)
          have h4 := growR_len hV row
          rw [List.length_take] at h3
          omega
        · rw [take_snoc hrow, List.flatMap_append, List.flatMap_singleton]
          exact y5
      · rintro σ H2 ⟨v4, rfl, s4, LP⟩
        rw [List.length_map, lenA, List.take_length] at LP
        refine ⟨_, rfl, p, _, _, _, rfl, s2.trans s4, s2.free hp, ?_⟩
        rw [iter_last, hrows]
        exact LP
    · rintro σ H1 ⟨q, v2, v3, v4, rfl, s2, hq, LQ⟩
      refine ⟨_, rfl, k _ q s2 hq ?_⟩
      rw [show ((xs.length : Int) - 1).toNat = l.length by omega] at LQ
      exact LQ
/-- a list of numbers, whether new or not; nothing else has changed -/
def GotL (H : Hp) (Q : VK) (l : List Nat) : Prop := ∀ H' p, Same H H' → H' p = some (.lst (nv l)) → Q (.ref p) H'
def spFR : Sp := fun vs H Q _ => ∃ (a : Addr) (l : Likes), vs = [.ref a] ∧ Lists H a l ∧ Valid l ∧ GotL H Q ((Vbhoam.witness l).getD [])
theorem find_take {α : Type} {p : α → Bool} {L : List α} {i : Nat} {x : α} (hx : L[i]? = some x) (hn : (L.take i).find? p = none) (hp : p x = true) : L.find? p = some x := by
  rw [← List.take_append_drop i L, List.find?_append, hn]
  obtain ⟨h1, h2⟩ := List.getElem?_eq_some_iff.mp hx
  rw [List.drop_eq_getElem_cons h1, h2, List.find?_cons, hp]
  rfl
theorem Full.has {l : Likes} {r : List Nat} (h : Full l r) : ∀ g, 1 ≤ g → g ≤ r.length → r.contains g = true := fun g h1 h2 => List.contains_iff_mem.mpr (h.all g (mem_guests.mpr ⟨h1, by rw [← h.len]; exact h2⟩))
theorem befores_len (r : List Nat) : (befores r).length = r.length := by unfold befores; rw [List.length_map, List.length_range]
theorem d_first_rings (T : Txt K mg) : Dn P w K mg base "first_rings" 6 ["lists"] spFR := by
  have D_willing_rings := d_willing_rings (P := P) (w := w) (base := base) T
  have D_ones_before := d_ones_before (P := P) (w := w) (base := base) T
  have D_first_rather_pair := d_first_rather_pair (P := P) (w := w) (base := base) T
  refine Dn.of T.f_first_rings sc_first_rings (fun vs H Q E h => ?_) (fun f cdv A outer s H vs Q E hr h => ?_)
  · obtain ⟨a, l, rfl, _⟩ := h
    rfl
  · obtain ⟨a, l, rfl, hL, hV, k⟩ := h
    refine ⟨_, (pss_cons (ps_for PassesOwn.never rfl (pi_list (pe_callD D_willing_rings (hr.mono (by decide)) rfl (pa_cons (pv 0) pa_nil))) (pg_name (i := 1) sc_first_rings.nd rfl (Or.inl rfl))
        (pss_one (ps_if (pt_cmpR (op_eqD hr.units) (pe_callD D_first_rather_pair (hr.mono (by decide)) rfl (pa_cons (pv 0) (pa_cons (pe_callD D_ones_before (hr.mono (by decide)) rfl (pa_cons (pv 1) pa_nil)) pa_nil))) (pe_lst pa_nil) (nomark _)) (pss_one (ps_ret (pv 1))) pss_nil)))
      (pss_one (ps_ret (pe_lst pa_nil)))), ?_⟩
    have hf := hV.few
    rw [witness_eq] at k
    refine ⟨_, rfl, a, l, rfl, hL, hV, fun H1 q s1 hq LQ => ?_⟩
    obtain ⟨as, g1, g2⟩ := LQ
    refine ⟨q, rfl, ⟨_, SqL.of g1⟩, for_list (K := K) (a := q) (xs := as.map V.ref)
      (fun i σ H2 => ∃ v1 : Option V, σ = [some (.ref a), v1] ∧ Same H1 H2 ∧ ((allR l).take i).find? (fun r => (Vbhoam.blocks l (befores r)).isEmpty) = none) ⟨none, rfl, Same.refl _, rfl⟩ (fun i σ H2 _ ⟨_, _, s2, _⟩ => SqL.of (s2 _ _ g1)) ?_ ?_⟩
    · rintro i x σ H2 hx ⟨v1, rfl, s2, hn⟩
      obtain ⟨b, r, rfl, hr', hb⟩ := LL.turn g2 hx
      have hF := allR_full (List.mem_of_getElem? hr')
      have hb2 := s2 _ _ hb
      refine ⟨_, rfl, _, rfl, b, r, rfl, SqL.of hb2, by rw [hF.len]; exact hf, hF.has, fun c hc => ?_⟩
      have t1 := same_upd (o := .lst (nv (befores r))) hc
      refine ⟨a, c, l, befores r, rfl, (hL.mono (s1.trans s2)).mono t1, hV, SqL.of upd_same, by rw [befores_len]; exact hF.len, fun d hd => ⟨Nat.zero_le _, fun e he => ?_⟩⟩
      have t2 := same_upd (o := .lst (nv (firstPair l (befores r)))) hd
      have t3 := same_upd (o := .lst []) he
      refine eq_nil_N (SqL.of (t3 _ _ upd_same)) upd_same ?_
      refine ⟨_, rfl, ?_⟩
      have ee : (firstPair l (befores r)).isEmpty = (Vbhoam.blocks l (befores r)).isEmpty := by
        unfold firstPair
        cases Vbhoam.blocks l (befores r) <;> rfl
      have sa := (t1.trans t2).trans t3
      rw [ee]
      cases e4 : (Vbhoam.blocks l (befores r)).isEmpty with
      | true =>
        rw [find_take hr' hn e4] at k
        exact ⟨_, rfl, k _ b ((s1.trans s2).trans sa) (sa _ _ hb2)⟩
      | false =>
        refine ⟨_, rfl, s2.trans sa, ?_⟩
        rw [take_snoc hr', List.find?_append, hn, List.find?_cons, e4]
        rfl
    · rintro σ H2 ⟨v1, rfl, s2, hn⟩
      rw [List.length_map, g2.length, List.take_length] at hn
      refine ⟨Nat.zero_le _, fun p hp => ?_⟩
      rw [hn] at k
      exact k _ p ((s1.trans s2).trans (same_upd hp)) upd_same
end
end Rs
end
section
set_option Elab.async false
set_option linter.all false
namespace Rs
open Vbhoam
/-! ### whom a guest shares with in some stable pairing -/
theorem mutual_comm (l : Likes) (i j : Nat) : mutual_ l i j = mutual_ l j i := by
  unfold mutual_
  rw [show (i != j) = (j != i) by rw [bne, bne, Bool.beq_comm], Bool.and_comm ((listOf l i).contains j)]
def GoodRow (l : Likes) (row : List Nat) : Prop := ∀ i, 1 ≤ i → i ≤ row.length → partner row i = 0 ∨ mutual_ l i (partner row i) = true
theorem partner_snoc {row : List Nat} {p : Nat} : partner (row ++ [p]) (row.length + 1) = p := by
  unfold partner
  simp
theorem partner_snoc_lt {row : List Nat} {p i : Nat} (h1 : 1 ≤ i) (h2 : i ≤ row.length) : partner (row ++ [p]) i = partner row i := by
  unfold partner
  rw [List.getElem?_append_left (by omega)]
theorem good_grow {l : Likes} {row x : List Nat} (G : GoodRow l row) (h : x ∈ growP l row) : GoodRow l x := by
  obtain ⟨p, hp, rfl⟩ := List.mem_map.mp h
  intro i h1 h2
  by_cases e : i = row.length + 1
  · subst e
    rw [partner_snoc]
    cases hc : row.contains (row.length + 1) with
    | true =>
      rw [choices_in hc] at hp
      have hp := List.mem_singleton.mp hp
      have hlt := findIdx_lt hc
      have hpv : partner row p = row.length + 1 := by
        rw [hp]
        unfold partner
        rw [Nat.add_sub_cancel, List.getElem?_eq_getElem hlt]
        exact eq_of_beq (List.findIdx_getElem (xs := row) (p := (· == row.length + 1)) (w := hlt))
      rcases G p (by omega) (by omega) with z | z
      · rw [hpv] at z; omega
      · rw [hpv, mutual_comm] at z
        exact .inr z
    | false =>
      rw [choices_out hc] at hp
      rcases List.mem_cons.mp hp with z | z
      · exact .inl z
      · have := (List.mem_filter.mp z).2
        simp only [Bool.and_eq_true] at this
        exact .inr this.2.2
  · have h2 : i ≤ row.length := by
      rw [List.length_append] at h2
      have h2 : i ≤ row.length + 1 := h2
      omega
    rw [partner_snoc_lt h1 h2]
    exact G i h1 h2
theorem good_iter {l : Likes} : ∀ (k : Nat) (row x : List Nat), GoodRow l row → x ∈ iter (growP l) k [row] → GoodRow l x
  | 0, row, x, G, h => by
    have : x = row := by simpa [iter] using h
    rw [this]; exact G
  | k + 1, row, x, G, h => by
    rw [iter_one] at h
    obtain ⟨y, hy, hx⟩ := List.mem_flatMap.mp h
    exact good_iter k y x (good_grow G hy) hx
theorem allP_good {l : Likes} {m : List Nat} (h : m ∈ allP l) : GoodRow l m := good_iter _ [] m (fun i h1 h2 => absurd h2 (by show ¬ i ≤ 0; omega)) h
theorem stable_mem {l : Likes} {m : List Nat} (h : m ∈ stables l) : m ∈ allP l := by
  rw [stables_eq] at h
  exact (List.mem_filter.mp h).1
/-- a guest's partners in stable pairings stand on the list, or are 0 -/
theorem stable_partner {l : Likes} (V : Valid l) {m : List Nat} (h : m ∈ stables l) {g : Nat} (hg : g ∈ guests l) : partner m g = 0 ∨ partner m g ∈ listOf l g := by
  have hg' := mem_guests.mp hg
  have hm := stable_mem h
  have hl : m.length = l.length := by
    obtain ⟨s, rfl, hs⟩ := iter_starts (growP_starts l) _ _ _ hm
    exact hs
  rcases allP_good hm g hg'.1 (by omega) with z | z
  · exact .inl z
  · rw [mutual_eq V hg, Bool.and_eq_true] at z
    exact .inr (List.contains_iff_mem.mp z.1)
theorem rank_inj {l : Likes} (V : Valid l) {g : Nat} (hg : g ∈ guests l) {x y : Nat} (hx : x = 0 ∨ x ∈ listOf l g) (hy : y = 0 ∨ y ∈ listOf l g) (e : rank l g x = rank l g y) : x = y := by
  have r0 : rank l g 0 = (listOf l g).length := by unfold rank; rw [if_pos (Or.inl rfl)]
  have rl : ∀ z, z ∈ listOf l g → rank l g z < (listOf l g).length ∧ (listOf l g)[rank l g z]? = some z := fun z hz => by
    rw [rank_eq V hg]
    have hlt := findIdx_lt (List.contains_iff_mem.mpr hz)
    refine ⟨hlt, ?_⟩
    rw [List.getElem?_eq_getElem hlt]
    exact congrArg some (eq_of_beq (List.findIdx_getElem (xs := listOf l g) (p := (· == z)) (w := hlt)))
  rcases hx with rfl | hx
  · rcases hy with rfl | hy
    · rfl
    · have := (rl y hy).1
      omega
  · rcases hy with rfl | hy
    · have := (rl x hx).1
      omega
    · have h1 := (rl x hx).2
      rw [e, (rl y hy).2] at h1
      exact (Option.some.inj h1).symm
theorem sorted_unique {r : Nat → Nat} : ∀ {xs ys : List Nat}, xs.Pairwise (fun x y => r x < r y) → ys.Pairwise (fun x y => r x < r y) → (∀ x, x ∈ xs ↔ x ∈ ys) → xs = ys
  | [], [], _, _, _ => rfl
  | [], y :: ys, _, _, h => absurd ((h y).mpr (List.mem_cons_self ..)) (by simp)
  | x :: xs, [], _, _, h => absurd ((h x).mp (List.mem_cons_self ..)) (by simp)
  | x :: xs, y :: ys, hx, hy, h => by
    have hx' := List.pairwise_cons.mp hx
    have hy' := List.pairwise_cons.mp hy
    have e : x = y := by
      rcases List.mem_cons.mp ((h x).mp (List.mem_cons_self ..)) with z | z
      · exact z
      · rcases List.mem_cons.mp ((h y).mpr (List.mem_cons_self ..)) with w | w
        · exact w.symm
        · have h1 := hy'.1 x z
          have h2 := hx'.1 y w
          omega
    subst e
    congr 1
    refine sorted_unique hx'.2 hy'.2 fun z => ?_
    constructor
    · intro hz
      rcases List.mem_cons.mp ((h z).mp (List.mem_cons_of_mem _ hz)) with w | w
      · have := hx'.1 z hz
        rw [w] at this
        omega
      · exact w
    · intro hz
      rcases List.mem_cons.mp ((h z).mpr (List.mem_cons_of_mem _ hz)) with w | w
      · have := hy'.1 z hz
        rw [w] at this
        omega
      · exact w
theorem insertBy_ok {l : Likes} {g x : Nat} : ∀ {L : List Nat}, L.Pairwise (fun a b => rank l g a < rank l g b) → (∀ y ∈ L, rank l g x = rank l g y → x = y) → (insertBy l g x L).Pairwise (fun a b => rank l g a < rank l g b) ∧ ∀ z, z ∈ insertBy l g x L ↔ z = x ∨ z ∈ L
  | [], _, _ => ⟨List.pairwise_singleton _ _, fun z => by simp [insertBy]⟩
  | y :: r, hL, hi => by
    have hL' := List.pairwise_cons.mp hL
    unfold insertBy
    by_cases h1 : rank l g x < rank l g y
    · rw [if_pos h1]
      refine ⟨List.pairwise_cons.mpr ⟨fun z hz => ?_, hL⟩, fun z => by simp⟩
      rcases List.mem_cons.mp hz with w | w
      · rw [w]; exact h1
      · have := hL'.1 z w
        omega
    · rw [if_neg h1]
      by_cases h2 : x = y
      · rw [if_pos h2]
        refine ⟨hL, fun z => ?_⟩
        subst h2
        simp
      · rw [if_neg h2]
        obtain ⟨q1, q2⟩ := insertBy_ok (x := x) hL'.2 fun z hz => hi z (List.mem_cons_of_mem _ hz)
        refine ⟨List.pairwise_cons.mpr ⟨fun z hz => ?_, q1⟩, fun z => ?_⟩
        · rcases (q2 z).mp hz with w | w
          · rw [w]
            have h3 : rank l g x ≠ rank l g y := fun e => h2 (hi y (List.mem_cons_self ..) e)
            omega
          · exact hL'.1 z w
        · rw [List.mem_cons, q2, List.mem_cons]
          constructor
          · rintro (w | w | w)
            · exact .inr (.inl w)
            · exact .inl w
            · exact .inr (.inr w)
          · rintro (w | w | w)
            · exact .inr (.inl w)
            · exact .inl w
            · exact .inr (.inr w)
theorem partners_ok {l : Likes} (V : Valid l) {g : Nat} (hg : g ∈ guests l) : ∀ {L : List Nat}, (∀ x ∈ L, x = 0 ∨ x ∈ listOf l g) → (L.foldr (insertBy l g) []).Pairwise (fun a b => rank l g a < rank l g b) ∧ ∀ z, z ∈ L.foldr (insertBy l g) [] ↔ z ∈ L
  | [], _ => ⟨List.Pairwise.nil, fun z => Iff.rfl⟩
  | x :: L, h => by
    obtain ⟨h1, h2⟩ := partners_ok V hg (L := L) fun y hy => h y (List.mem_cons_of_mem _ hy)
    obtain ⟨q1, q2⟩ := insertBy_ok (x := x) h1 fun y hy e => rank_inj V hg (h x (List.mem_cons_self ..)) (h y (List.mem_cons_of_mem _ ((h2 y).mp hy))) e
    refine ⟨q1, fun z => ?_⟩
    show z ∈ insertBy l g x _ ↔ _
    rw [q2, h2, List.mem_cons]
/-- as the program collects them -/
def collect (L : List Nat) : List Nat := L.foldl (fun acc x => if acc.contains x then acc else acc ++ [x]) []
theorem collect_snoc (L : List Nat) (x : Nat) : collect (L ++ [x]) = if (collect L).contains x then collect L else collect L ++ [x] := by
  unfold collect
  rw [List.foldl_append]
  rfl
theorem collect_ok_aux : ∀ (n : Nat) (L : List Nat), L.length = n → (collect L).Nodup ∧ ∀ z, z ∈ collect L ↔ z ∈ L := by
  intro n
  induction n with
  | zero =>
    intro L h
    have : L = [] := List.length_eq_zero_iff.mp h
    subst this
    exact ⟨List.nodup_nil, fun z => Iff.rfl⟩
  | succ n ih =>
    intro L h
    obtain ⟨M, x, rfl⟩ : ∃ M x, L = M ++ [x] := ⟨L.dropLast, L.getLast (by intro e; rw [e] at h; cases h), (List.dropLast_concat_getLast _).symm⟩
    rw [List.length_append] at h
    obtain ⟨h1, h2⟩ := ih M (by simpa using h)
    rw [collect_snoc]
    cases hc : (collect M).contains x with
    | true =>
      rw [if_pos rfl]
      refine ⟨h1, fun z => ?_⟩
      rw [h2, List.mem_append, List.mem_singleton]
      have := (h2 x).mp (List.contains_iff_mem.mp hc)
      constructor
      · exact .inl
      · rintro (w | w)
        · exact w
        · rw [w]; exact this
    | false =>
      rw [if_neg (by simp)]
      refine ⟨?_, fun z => ?_⟩
      · rw [List.nodup_append]
        refine ⟨h1, by simp, fun a ha b hb e => ?_⟩
        rw [List.mem_singleton.mp hb] at e
        subst e
        rw [List.contains_iff_mem.mpr ha] at hc
        cases hc
      · rw [List.mem_append, h2, List.mem_append]
theorem collect_ok (L : List Nat) : (collect L).Nodup ∧ ∀ z, z ∈ collect L ↔ z ∈ L := collect_ok_aux L.length L rfl
/-- sorted by the place on the list -/
theorem partners_eq {l : Likes} (V : Valid l) {g : Nat} (hg : g ∈ guests l) {ns : List Nat} (hp : ns.Perm (collect ((stables l).map fun m => partner m g))) (hs : ns.Pairwise fun x y => rank l g x ≤ rank l g y) : ns = Vbhoam.partners l g := by
  have hin : ∀ x ∈ (stables l).map (fun m => partner m g), x = 0 ∨ x ∈ listOf l g := fun x hx => by
    obtain ⟨m, hm, rfl⟩ := List.mem_map.mp hx
    exact stable_partner V hm hg
  obtain ⟨c1, c2⟩ := collect_ok ((stables l).map fun m => partner m g)
  obtain ⟨p1, p2⟩ := partners_ok V hg hin
  have hm : ∀ z, z ∈ ns ↔ z ∈ (stables l).map (fun m => partner m g) := fun z => (hp.mem_iff).trans (c2 z)
  have nd : ns.Nodup := hp.nodup_iff.mpr c1
  refine sorted_unique (r := rank l g) ?_ p1 fun z => (hm z).trans (p2 z).symm
  refine List.Pairwise.imp_of_mem (fun {x y} hx hy h => ?_) (hs.and nd)
  have hne : rank l g x ≠ rank l g y := fun e => h.2 (rank_inj V hg (hin x ((hm x).mp hx)) (hin y ((hm y).mp hy)) e)
  have := h.1
  omega
theorem collect_len {L : List Nat} {n : Nat} (h : ∀ x ∈ L, x ≤ n) : (collect L).length ≤ n + 1 := by
  obtain ⟨c1, c2⟩ := collect_ok L
  have := sub_len c1 (L := List.range (n + 1)) fun x hx => List.mem_range.mpr (by have := h x ((c2 x).mp hx); omega)
  rwa [List.length_range] at this
end Rs
end
section
set_option Elab.async false
set_option linter.all false
set_option maxRecDepth 100000
set_option maxHeartbeats 2000000
namespace Rs
open PySem PySem.Spec PyProof.Rows L2
open Vbhoam (Likes)
section
variable {P : Program} {w : World} {K : PySem.W.Frag} {mg : Str → Option Value} {base : Heap}
/-! ### what the calls that ask something answer -/
/-- a new list of numbers; nothing else has changed -/
def NewL (H : Hp) (Q : VK) (L : List Nat) : Prop := ∀ H' p, Same H H' → H p = none → H' p = some (.lst (nv L)) → Q (.ref p) H'
theorem le7 {n : Nat} (h : n ≤ 100) : n ≤ sizeLine := Nat.le_trans h (by decide)
/-- [a, ..] + xs -/
theorem cat_new {H : Hp} {Q : VK} {r b : Addr} {xs ys : List Nat} (hr : H r = some (.lst (nv xs))) (hb : H b = some (.lst (nv ys))) (hl : xs.length + ys.length ≤ 100) (k : ∀ p, H p = none → Q (.ref p) (upd H p (.lst (nv (xs ++ ys))))) : rCat (.ref r) (.ref b) H Q :=
  ⟨r, b, _, _, rfl, rfl, hr, hb, by rw [nv_len, nv_len]; exact le7 hl, fun p hp => by rw [← nv_app]; exact k p hp⟩
def spPairs : Sp := fun vs H Q _ => ∃ (a : Addr) (l : Likes), vs = [.ref a] ∧ Lists H a l ∧ Valid l ∧ NewL H Q (match Vbhoam.stables l with | [] => [0] | m :: _ => 1 :: m)
theorem stable_len {l : Likes} {m : List Nat} (h : m ∈ Vbhoam.stables l) : m.length = l.length := allP_row (stable_mem h)
theorem d_tell_pairs (T : Txt K mg) : Dn P w K mg base "tell_pairs" 7 ["lists"] spPairs := by
  have D_stable_pairings := d_stable_pairings (P := P) (w := w) (base := base) T
  refine Dn.of T.f_tell_pairs sc_tell_pairs (fun vs H Q E h => ?_) (fun f cdv A outer s H vs Q E hr h => ?_)
  · obtain ⟨a, l, rfl, _⟩ := h
    rfl
  · obtain ⟨a, l, rfl, hL, hV, k⟩ := h
    refine ⟨_, (pss_cons (ps_set (i := 1) sc_tell_pairs.nd rfl (Or.inl rfl) (pe_callD D_stable_pairings (hr.mono (by decide)) rfl (pa_cons (pv 0) pa_nil)))
      (pss_cons (ps_if (pt_cmpR (op_eqD hr.units) (pv 1) (pe_lst pa_nil) (nomark _)) (pss_one (ps_ret (pe_lst (pa_cons pe_int pa_nil)))) pss_nil)
      (pss_one (ps_ret (pe_op op_cat (pe_lst (pa_cons pe_int pa_nil)) (pe_ix ix_list (pv 1) pe_int (fun _ _ => rfl))))))), ?_⟩
    have hf := hV.few
    refine ⟨_, rfl, a, l, rfl, hL, hV, fun H1 q s1 hq LQ => ?_⟩
    refine ⟨_, rfl, Nat.zero_le _, fun e he => ?_⟩
    have s2 := same_upd (o := .lst []) he
    refine eq_nil_NN (LQ.mono s2) upd_same ⟨_, rfl, ?_⟩
    have s12 := s1.trans s2
    cases hS : Vbhoam.stables l with
    | nil =>
      rw [hS] at k
      exact ⟨(by show 1 ≤ sizeLine; decide), fun p hp => k _ p (s12.trans (same_upd hp)) (s12.free hp) upd_same⟩
    | cons m r =>
      rw [hS] at k LQ
      have hm := stable_len (l := l) (m := m) (by rw [hS]; exact List.mem_cons_self ..)
      refine ⟨(by show 1 ≤ sizeLine; decide), fun p hp => ?_⟩
      have s3 := same_upd (o := .lst (nv [1])) hp
      obtain ⟨xs, b, h1, h2, h3⟩ := LL.at_ ((LQ.mono s2).mono s3) (z := 0) (k := 0) rfl rfl
      refine ⟨_, rfl, q, xs, _, _, rfl, rfl, SqL.of h1, h2, ?_⟩
      refine cat_new (xs := [1]) (ys := m) upd_same h3 (by rw [hm]; show 1 + l.length ≤ 100; omega) fun p2 hp2 => ?_
      exact k _ p2 ((s12.trans s3).trans (same_upd hp2)) ((s12.trans s3).free hp2) upd_same
def spCounted : Sp := fun vs H Q _ => ∃ (b : Addr) (ns : List Nat), vs = [.ref b] ∧ H b = some (.lst (nv ns)) ∧ ns.length ≤ 50 ∧ NewL H Q (ns.length :: ns)
theorem d_counted (T : Txt K mg) : Dn P w K mg base "counted" 1 ["numbers"] spCounted := by
  refine Dn.of T.f_counted sc_counted (fun vs H Q E h => ?_) (fun f cdv A outer s H vs Q E hr h => ?_)
  · obtain ⟨b, ns, rfl, _⟩ := h
    rfl
  · obtain ⟨b, ns, rfl, hb, hn, k⟩ := h
    refine ⟨_, (pss_one (ps_ret (pe_op op_cat (pe_lst (pa_cons (pe_callB call_len_seq rfl T.b_len PySem.boot_len (pa_cons (pv 0) pa_nil)) pa_nil)) (pv 0)))), ?_⟩
    refine ⟨_, rfl, b, _, rfl, .inl (SqL.of hb), (by show 1 ≤ sizeLine; decide), fun p hp => ?_⟩
    rw [nv_len]
    have s1 := same_upd (o := .lst (nv [ns.length])) hp
    refine ⟨_, rfl, cat_new (xs := [ns.length]) (ys := ns) upd_same (s1 _ _ hb) (by show 1 + ns.length ≤ 100; omega) fun p2 hp2 => ?_⟩
    exact k _ p2 (s1.trans (same_upd hp2)) (s1.free hp2) upd_same
theorem witness_full {l : Likes} {r : List Nat} (h : Vbhoam.witness l = some r) : Full l r := by
  rw [witness_eq] at h
  exact allR_full (List.mem_of_find?_eq_some h)
theorem odd_len (l : Likes) (r : List Nat) : (Vbhoam.odd l r).length ≤ l.length := by
  unfold Vbhoam.odd
  exact Nat.le_trans (List.length_filter_le _ _) (Nat.le_of_eq (guests_len l))
def spTRings : Sp := fun vs H Q _ => ∃ (a : Addr) (l : Likes), vs = [.ref a] ∧ Lists H a l ∧ Valid l ∧ 1 ≤ l.length ∧ NewL H Q (match Vbhoam.witness l with | none => [0] | some r => 1 :: (r ++ ((Vbhoam.odd l r).length :: Vbhoam.odd l r)))
theorem d_tell_rings (T : Txt K mg) : Dn P w K mg base "tell_rings" 7 ["lists"] spTRings := by
  have D_first_rings := d_first_rings (P := P) (w := w) (base := base) T
  have D_odd_guests := d_odd_guests (P := P) (w := w) (base := base) T
  have D_counted := d_counted (P := P) (w := w) (base := base) T
  refine Dn.of T.f_tell_rings sc_tell_rings (fun vs H Q E h => ?_) (fun f cdv A outer s H vs Q E hr h => ?_)
  · obtain ⟨a, l, rfl, _⟩ := h
    rfl
  · obtain ⟨a, l, rfl, hL, hV, h1, k⟩ := h
    refine ⟨_, (pss_cons (ps_set (i := 1) sc_tell_rings.nd rfl (Or.inl rfl) (pe_callD D_first_rings (hr.mono (by decide)) rfl (pa_cons (pv 0) pa_nil)))
      (pss_cons (ps_if (pt_cmpR (op_eqD hr.units) (pv 1) (pe_lst pa_nil) (nomark _)) (pss_one (ps_ret (pe_lst (pa_cons pe_int pa_nil)))) pss_nil)
      (pss_one (ps_ret (pe_op op_cat (pe_op op_cat (pe_lst (pa_cons pe_int pa_nil)) (pv 1)) (pe_callD D_counted (hr.mono (by decide)) rfl (pa_cons (pe_callD D_odd_guests (hr.mono (by decide)) rfl (pa_cons (pv 1) pa_nil)) pa_nil))))))), ?_⟩
    have hf := hV.few
    refine ⟨_, rfl, a, l, rfl, hL, hV, fun H1 q s1 hq => ?_⟩
    refine ⟨_, rfl, Nat.zero_le _, fun e he => ?_⟩
    have s2 := same_upd (o := .lst []) he
    refine eq_nil_N (SqL.of (s2 _ _ hq)) upd_same ⟨_, rfl, ?_⟩
    have s12 := s1.trans s2
    cases hS : Vbhoam.witness l with
    | none =>
      rw [hS] at k
      exact ⟨(by show 1 ≤ sizeLine; decide), fun p hp => k _ p (s12.trans (same_upd hp)) (s12.free hp) upd_same⟩
    | some r =>
      rw [hS] at k hq
      have hF := witness_full hS
      have hrl := hF.len
      have hne : r.isEmpty = false := by
        cases r with
        | nil => exact absurd hrl (by show ¬ 0 = l.length; omega)
        | cons x r => rfl
      show if r.isEmpty = true then _ else _
      rw [hne]
      refine ⟨(by show 1 ≤ sizeLine; decide), fun p hp => ?_⟩
      have s3 := same_upd (o := .lst (nv [1])) hp
      have hq3 := s3 _ _ (s2 _ _ hq)
      refine ⟨_, rfl, cat_new (xs := [1]) (ys := r) upd_same hq3 (by rw [hrl]; show 1 + l.length ≤ 100; omega) fun p2 hp2 => ?_⟩
      have s4 := same_upd (o := .lst (nv ([1] ++ r))) hp2
      refine ⟨_, rfl, q, l, r, rfl, SqL.of (s4 _ _ hq3), hF, hV, fun p3 hp3 => ?_⟩
      have s5 := same_upd (o := .lst (nv (Vbhoam.odd l r))) hp3
      have ho := odd_len l r
      refine ⟨p3, _, rfl, upd_same, by omega, fun H6 p4 s6 hp4 h4 => ?_⟩
      refine cat_new (xs := [1] ++ r) (ys := (Vbhoam.odd l r).length :: Vbhoam.odd l r) (s6 _ _ (s5 _ _ upd_same)) h4 (by simp only [List.length_append, List.length_cons, List.length_nil]; omega) fun p5 hp5 => ?_
      have sA := (((s12.trans s3).trans s4).trans s5).trans s6
      exact k _ p5 (sA.trans (same_upd hp5)) (sA.free hp5) upd_same
def spTCheck (K : PySem.W.Frag) : Sp := fun vs H Q _ => ∃ (a b : Addr) (l : Likes) (m : List Nat), vs = [.ref a, .ref b] ∧ Lists H a l ∧ Valid l ∧ SqL K H b (nv m) ∧ m.length = l.length ∧
  NewL H Q (if Vbhoam.isPairing l m = false then [1] else match Vbhoam.blocks l m with | [] => [0] | p :: _ => [2, p.1, p.2])
theorem firstPair_len (l : Likes) (m : List Nat) : (firstPair l m).length ≤ 2 := by
  unfold firstPair
  cases Vbhoam.blocks l m <;> simp
theorem d_tell_check (T : Txt K mg) : Dn P w K mg base "tell_check" 5 ["lists", "row"] (spTCheck K) := by
  have D_is_pairing := d_is_pairing (P := P) (w := w) (base := base) T
  have D_first_rather_pair := d_first_rather_pair (P := P) (w := w) (base := base) T
  refine Dn.of T.f_tell_check sc_tell_check (fun vs H Q E h => ?_) (fun f cdv A outer s H vs Q E hr h => ?_)
  · obtain ⟨a, b, l, m, rfl, _⟩ := h
    rfl
  · obtain ⟨a, b, l, m, rfl, hL, hV, hm, hlen, k⟩ := h
    refine ⟨_, (pss_cons (ps_if (pt_not (pt_val (pe_callD D_is_pairing (hr.mono (by decide)) rfl (pa_cons (pv 0) (pa_cons (pv 1) pa_nil))))) (pss_one (ps_ret (pe_lst (pa_cons pe_int pa_nil)))) pss_nil)
      (pss_cons (ps_set (i := 2) sc_tell_check.nd rfl (Or.inl rfl) (pe_callD D_first_rather_pair (hr.mono (by decide)) rfl (pa_cons (pv 0) (pa_cons (pv 1) pa_nil))))
      (pss_cons (ps_if (pt_cmpR (op_eqD hr.units) (pv 2) (pe_lst pa_nil) (nomark _)) (pss_one (ps_ret (pe_lst (pa_cons pe_int pa_nil)))) pss_nil)
      (pss_one (ps_ret (pe_op op_cat (pe_lst (pa_cons pe_int pa_nil)) (pv 2))))))), ?_⟩
    refine ⟨_, rfl, _, rfl, a, b, l, m, rfl, hL, hV, hm, hlen, _, rfl, ?_⟩
    cases hP : Vbhoam.isPairing l m with
    | false =>
      rw [hP, if_pos rfl] at k
      exact ⟨(by show 1 ≤ sizeLine; decide), fun p hp => k _ p (same_upd hp) hp upd_same⟩
    | true =>
      rw [hP, if_neg (by simp)] at k
      refine ⟨_, rfl, _, rfl, a, b, l, m, rfl, hL, hV, hm, hlen, fun p hp => ?_⟩
      have s1 := same_upd (o := .lst (nv (firstPair l m))) hp
      refine ⟨_, rfl, Nat.zero_le _, fun e he => ?_⟩
      have s2 := same_upd (o := .lst []) he
      have hp2 := s2 _ _ (upd_same (H := H) (a := p) (o := .lst (nv (firstPair l m))))
      refine eq_nil_N (SqL.of hp2) upd_same ⟨_, rfl, ?_⟩
      have s12 := s1.trans s2
      generalize upd (upd H p (.lst (nv (firstPair l m)))) e (.lst []) = H3 at s12 hp2
      unfold firstPair at hp2 ⊢
      cases hB : Vbhoam.blocks l m with
      | nil =>
        rw [hB] at k
        exact ⟨(by show 1 ≤ sizeLine; decide), fun p hp => k _ p (s12.trans (same_upd hp)) (s12.free hp) upd_same⟩
      | cons x r =>
        rw [hB] at k hp2
        refine ⟨(by show 1 ≤ sizeLine; decide), fun p3 hp3 => ?_⟩
        have s3 := same_upd (o := .lst (nv [2])) hp3
        refine ⟨_, rfl, cat_new (xs := [2]) (ys := [x.1, x.2]) upd_same (s3 _ _ hp2) (by show 1 + 2 ≤ 100; decide) fun p4 hp4 => ?_⟩
        exact k _ p4 ((s12.trans s3).trans (same_upd hp4)) ((s12.trans s3).free hp4) upd_same
def spTProve (K : PySem.W.Frag) : Sp := fun vs H Q _ => ∃ (a b : Addr) (l : Likes) (m : List Nat), vs = [.ref a, .ref b] ∧ Lists H a l ∧ Valid l ∧ SqL K H b (nv m) ∧ m.length = l.length ∧
  NewL H Q (if Vbhoam.isRings l m = false then [1] else match Vbhoam.ringFault l m with
    | some i => [2, i]
    | none => match Vbhoam.ringBlocks l m with
      | p :: _ => [3, p.1, p.2]
      | [] => 0 :: (Vbhoam.odd l m).length :: Vbhoam.odd l m)
theorem fault_pos {l : Likes} {m : List Nat} {i : Nat} (h : Vbhoam.ringFault l m = some i) : 1 ≤ i := by
  unfold Vbhoam.ringFault at h
  exact (mem_guests.mp (List.mem_of_find?_eq_some h)).1
theorem d_tell_prove (T : Txt K mg) : Dn P w K mg base "tell_prove" 5 ["lists", "row"] (spTProve K) := by
  have D_is_rings := d_is_rings (P := P) (w := w) (base := base) T
  have D_first_unwilling := d_first_unwilling (P := P) (w := w) (base := base) T
  have D_ones_before := d_ones_before (P := P) (w := w) (base := base) T
  have D_first_rather_pair := d_first_rather_pair (P := P) (w := w) (base := base) T
  have D_odd_guests := d_odd_guests (P := P) (w := w) (base := base) T
  have D_counted := d_counted (P := P) (w := w) (base := base) T
  refine Dn.of T.f_tell_prove sc_tell_prove (fun vs H Q E h => ?_) (fun f cdv A outer s H vs Q E hr h => ?_)
  · obtain ⟨a, b, l, m, rfl, _⟩ := h
    rfl
  · obtain ⟨a, b, l, m, rfl, hL, hV, hm, hlen, k⟩ := h
    refine ⟨_, (pss_cons (ps_if (pt_not (pt_val (pe_callD D_is_rings (hr.mono (by decide)) rfl (pa_cons (pv 0) (pa_cons (pv 1) pa_nil))))) (pss_one (ps_ret (pe_lst (pa_cons pe_int pa_nil)))) pss_nil)
      (pss_cons (ps_set (i := 2) sc_tell_prove.nd rfl (Or.inl rfl) (pe_callD D_first_unwilling (hr.mono (by decide)) rfl (pa_cons (pv 0) (pa_cons (pv 1) pa_nil))))
      (pss_cons (ps_if (pt_cmpR op_ne (pv 2) pe_int (nomark _)) (pss_one (ps_ret (pe_lst (pa_cons pe_int (pa_cons (pv 2) pa_nil))))) pss_nil)
      (pss_cons (ps_set (i := 3) sc_tell_prove.nd rfl (Or.inl rfl) (pe_callD D_first_rather_pair (hr.mono (by decide)) rfl (pa_cons (pv 0) (pa_cons (pe_callD D_ones_before (hr.mono (by decide)) rfl (pa_cons (pv 1) pa_nil)) pa_nil))))
      (pss_cons (ps_if (pt_cmpR (op_neD hr.units) (pv 3) (pe_lst pa_nil) (nomark _)) (pss_one (ps_ret (pe_op op_cat (pe_lst (pa_cons pe_int pa_nil)) (pv 3)))) pss_nil)
      (pss_one (ps_ret (pe_op op_cat (pe_lst (pa_cons pe_int pa_nil)) (pe_callD D_counted (hr.mono (by decide)) rfl (pa_cons (pe_callD D_odd_guests (hr.mono (by decide)) rfl (pa_cons (pv 1) pa_nil)) pa_nil)))))))))), ?_⟩
    have hf := hV.few
    refine ⟨_, rfl, _, rfl, a, b, l, m, rfl, hL, hV, hm, hlen, _, rfl, ?_⟩
    cases hP : Vbhoam.isRings l m with
    | false =>
      rw [hP, if_pos rfl] at k
      exact ⟨(by show 1 ≤ sizeLine; decide), fun p hp => k _ p (same_upd hp) hp upd_same⟩
    | true =>
      rw [hP, if_neg (by simp)] at k
      have hF := isRings_full hP
      refine ⟨_, rfl, _, rfl, a, b, l, m, rfl, hL, hV, hm, hF, ?_⟩
      refine ⟨_, rfl, rfl, _, rfl, ?_⟩
      rw [show decide (V.int (((Vbhoam.ringFault l m).getD 0 : Nat) : Int) = V.int 0) = ((Vbhoam.ringFault l m).getD 0 == 0) from dec_nat _ 0]
      cases hU : Vbhoam.ringFault l m with
      | some i =>
        rw [hU] at k
        have hi := fault_pos hU
        show if (!((i : Nat) == 0)) = true then _ else _
        rw [show (i == 0) = false from beq_false_of_ne (by omega)]
        exact ⟨_, rfl, (by show 2 ≤ sizeLine; decide), fun p hp => k _ p (same_upd hp) hp upd_same⟩
      | none =>
        rw [hU] at k
        refine ⟨_, rfl, _, rfl, b, m, rfl, hm, by rw [hlen]; exact hf, hF.has, fun c hc => ?_⟩
        have t1 := same_upd (o := .lst (nv (befores m))) hc
        refine ⟨a, c, l, befores m, rfl, hL.mono t1, hV, SqL.of upd_same, by rw [befores_len]; exact hlen, fun d hd => ?_⟩
        have t2 := same_upd (o := .lst (nv (firstPair l (befores m)))) hd
        refine ⟨_, rfl, Nat.zero_le _, fun e he => ?_⟩
        have t3 := same_upd (o := .lst []) he
        have t123 := (t1.trans t2).trans t3
        have hd3 := t3 _ _ (upd_same (H := upd H c (.lst (nv (befores m)))) (a := d) (o := .lst (nv (firstPair l (befores m)))))
        refine ne_nil_N (SqL.of hd3) upd_same ⟨_, rfl, ?_⟩
        rw [ringBlocks_eq hF] at k
        generalize upd (upd (upd H c (.lst (nv (befores m)))) d (.lst (nv (firstPair l (befores m))))) e (.lst []) = H3 at t123 hd3
        unfold firstPair at hd3 ⊢
        cases hB : Vbhoam.blocks l (befores m) with
        | nil =>
          rw [hB] at k
          refine ⟨(by show 1 ≤ sizeLine; decide), fun p hp => ?_⟩
          have s3 := same_upd (o := .lst (nv [0])) hp
          refine ⟨_, rfl, b, l, m, rfl, (t123.trans s3).seq hm, hF, hV, fun p3 hp3 => ?_⟩
          have s5 := same_upd (o := .lst (nv (Vbhoam.odd l m))) hp3
          have ho := odd_len l m
          refine ⟨p3, _, rfl, upd_same, by omega, fun H6 p4 s6 hp4 h4 => ?_⟩
          refine cat_new (xs := [0]) (ys := (Vbhoam.odd l m).length :: Vbhoam.odd l m) (s6 _ _ (s5 _ _ upd_same)) h4 (by simp only [List.length_cons, List.length_nil]; omega) fun p5 hp5 => ?_
          have sA := ((t123.trans s3).trans s5).trans s6
          exact k _ p5 (sA.trans (same_upd hp5)) (sA.free hp5) upd_same
        | cons x r =>
          rw [hB] at k hd3
          refine ⟨(by show 1 ≤ sizeLine; decide), fun p3 hp3 => ?_⟩
          have s3 := same_upd (o := .lst (nv [3])) hp3
          refine ⟨_, rfl, cat_new (xs := [3]) (ys := [x.1, x.2]) upd_same (s3 _ _ hd3) (by show 1 + 2 ≤ 100; decide) fun p4 hp4 => ?_⟩
          exact k _ p4 ((t123.trans s3).trans (same_upd hp4)) ((t123.trans s3).free hp4) upd_same
def spTCount : Sp := fun vs H Q _ => ∃ (a : Addr) (l : Likes), vs = [.ref a] ∧ Lists H a l ∧ Valid l ∧ NewL H Q [(allP l).length, (Vbhoam.stables l).length]
theorem d_tell_count (T : Txt K mg) : Dn P w K mg base "tell_count" 7 ["lists"] spTCount := by
  have D_all_pairings := d_all_pairings (P := P) (w := w) (base := base) T
  have D_stable_pairings := d_stable_pairings (P := P) (w := w) (base := base) T
  refine Dn.of T.f_tell_count sc_tell_count (fun vs H Q E h => ?_) (fun f cdv A outer s H vs Q E hr h => ?_)
  · obtain ⟨a, l, rfl, _⟩ := h
    rfl
  · obtain ⟨a, l, rfl, hL, hV, k⟩ := h
    refine ⟨_, (pss_one (ps_ret (pe_lst (pa_cons (pe_callB call_len_seq rfl T.b_len PySem.boot_len (pa_cons (pe_callD D_all_pairings (hr.mono (by decide)) rfl (pa_cons (pv 0) pa_nil)) pa_nil)) (pa_cons (pe_callB call_len_seq rfl T.b_len PySem.boot_len (pa_cons (pe_callD D_stable_pairings (hr.mono (by decide)) rfl (pa_cons (pv 0) pa_nil)) pa_nil)) pa_nil))))), ?_⟩
    refine ⟨_, rfl, a, l, rfl, hL, hV, fun H1 q s1 hq LQ => ?_⟩
    obtain ⟨xs, x1, x2⟩ := LQ.len
    refine ⟨q, _, rfl, .inl (SqL.of x1), ?_⟩
    refine ⟨_, rfl, a, l, rfl, hL.mono s1, hV, fun H2 r s2 hr LR => ?_⟩
    obtain ⟨ys, y1, y2⟩ := LR.len
    refine ⟨r, _, rfl, .inl (SqL.of y1), (by show 2 ≤ sizeLine; decide), fun p hp => ?_⟩
    have s12 := s1.trans s2
    refine k _ p (s12.trans (same_upd hp)) (s12.free hp) ?_
    rw [upd_same, x2, y2]
    rfl
end
end Rs
end
section
set_option Elab.async false
set_option linter.all false
set_option maxRecDepth 100000
set_option maxHeartbeats 2000000
namespace Rs
open PySem PySem.Spec PyProof.Rows L2
open Vbhoam (Likes)
section
variable {P : Program} {w : World} {K : PySem.W.Frag} {mg : Str → Option Value} {base : Heap}
/-! ### all two who would rather share; the greatest of a list -/
def pl (bs : List (Nat × Nat)) : List (List Nat) := bs.map fun q => [q.1, q.2]
def rowB (l : Likes) (m : List Nat) (i : Nat) : List (List Nat) := ((List.range' (i + 1) (l.length - i)).filter (Vbhoam.block l m i)).map fun j => [i, j]
theorem blocks_rows (l : Likes) (m : List Nat) : pl (Vbhoam.blocks l m) = (List.range' 1 l.length).flatMap (rowB l m) := by
  unfold pl Vbhoam.blocks
  rw [List.map_flatMap, ← guests_range]
  refine flat_congr fun i hi => ?_
  rw [filter_from l i (mem_guests.mp hi).2, List.map_map]
  rfl
theorem rowB_len {l : Likes} (hV : Valid l) (m : List Nat) (i : Nat) : (rowB l m i).length ≤ 7 := by
  unfold rowB
  rw [List.length_map]
  refine Nat.le_trans (List.length_filter_le _ _) ?_
  rw [List.length_range']
  have := hV.few
  omega
theorem flatN_len {α β : Type} {f : α → List β} {k : Nat} (h : ∀ x, (f x).length ≤ k) : ∀ xs : List α, (xs.flatMap f).length ≤ xs.length * k
  | [] => Nat.zero_le _
  | x :: xs => by
    rw [List.flatMap_cons, List.length_append, List.length_cons, Nat.succ_mul, Nat.add_comm]
    exact Nat.add_le_add (flatN_len h xs) (h x)
def spRPs (K : PySem.W.Frag) : Sp := fun vs H Q _ => ∃ (a b : Addr) (l : Likes) (m : List Nat), vs = [.ref a, .ref b] ∧ Lists H a l ∧ Valid l ∧ SqL K H b (nv m) ∧ m.length = l.length ∧ NewLL H Q (pl (Vbhoam.blocks l m))
theorem d_rather_pairs (T : Txt K mg) : Dn P w K mg base "rather_pairs" 4 ["lists", "held"] (spRPs K) := by
  have D_would_rather_share := d_would_rather_share (P := P) (w := w) (base := base) T
  refine Dn.of T.f_rather_pairs sc_rather_pairs (fun vs H Q E h => ?_) (fun f cdv A outer s H vs Q E hr h => ?_)
  · obtain ⟨a, b, l, m, rfl, _⟩ := h
    rfl
  · obtain ⟨a, b, l, m, rfl, hL, hV, hm, hlen, k⟩ := h
    refine ⟨_, (pss_cons (ps_set (i := 2) sc_rather_pairs.nd rfl (Or.inl rfl) (pe_lst pa_nil))
      (pss_cons (ps_for PassesOwn.never rfl (pi_range2 rfl T.b_range (pa_cons pe_int (pa_cons (pe_callB call_len_seq rfl T.b_len PySem.boot_len (pa_cons (pv 0) pa_nil)) pa_nil))) (pg_name (i := 3) sc_rather_pairs.nd rfl (Or.inl rfl))
        (pss_one (ps_for PassesOwn.never rfl (pi_range2 rfl T.b_range (pa_cons (pe_op op_add (pv 3) pe_int) (pa_cons (pe_callB call_len_seq rfl T.b_len PySem.boot_len (pa_cons (pv 0) pa_nil)) pa_nil))) (pg_name (i := 4) sc_rather_pairs.nd rfl (Or.inl rfl))
        (pss_one (ps_if (pt_val (pe_callD D_would_rather_share (hr.mono (by decide)) rfl (pa_cons (pv 0) (pa_cons (pv 1) (pa_cons (pv 3) (pa_cons (pv 4) pa_nil)))))) (pss_one (ps_expr (pe_bm PySem.F.plainAttrs_list PySem.F.slot_list_append PySem.F.type_list_append mt_append (pv 2) (pa_cons (pe_lst (pa_cons (pv 3) (pa_cons (pv 4) pa_nil))) pa_nil)))) pss_nil)))))
      (pss_one (ps_ret (pv 2))))), ?_⟩
    obtain ⟨xs, h1, h2⟩ := hL.len
    have hf := hV.few
    have sz : sizeLine = 16777216 := rfl
    refine ⟨Nat.zero_le _, fun p hp => ?_⟩
    have s0 := same_upd (o := .lst []) hp
    refine ⟨_, rfl, a, xs, rfl, .inl (SqL.of (s0 _ _ h1)), 1, _, rfl, ⟨by decide, by decide, by omega, by omega⟩, for_range (n := ((xs.length : Int) - 1).toNat)
      (fun i σ H' => ∃ v3 v4 : Option V, σ = [some (.ref a), some (.ref b), some (.ref p), v3, v4] ∧ Same H H' ∧ LL H' p ((List.range' 1 i).flatMap (rowB l m))) ⟨none, none, rfl, s0, LL.new upd_same⟩ ?_ ?_⟩
    · rintro i σ H' hi ⟨v3, v4, rfl, s1, LP⟩
      refine ⟨_, rfl, _, _, rfl, rfl, _, rfl, a, xs, rfl, .inl (SqL.of (s1 _ _ h1)), _, _, rfl, ⟨by omega, by omega, by omega, by omega⟩, for_range (n := ((xs.length : Int) - (1 + (i : Int) + 1)).toNat)
        (fun j σ H'' => ∃ v4 : Option V, σ = [some (.ref a), some (.ref b), some (.ref p), some (.int (1 + (i : Int))), v4] ∧ Same H H'' ∧ LL H'' p ((List.range' 1 i).flatMap (rowB l m) ++ ((List.range' (1 + i + 1) j).filter (Vbhoam.block l m (1 + i))).map fun j => [1 + i, j])) ⟨v4, rfl, s1, by simpa using LP⟩ ?_ ?_⟩
      · rintro j σ H'' hj ⟨v4, rfl, s2, LP⟩
        have gi : (1 + i) ∈ Vbhoam.guests l := mem_guests.mpr ⟨by omega, by omega⟩
        have gj : (1 + i + 1 + j) ∈ Vbhoam.guests l := mem_guests.mpr ⟨by omega, by omega⟩
        refine ⟨_, rfl, _, rfl, _, rfl, _, rfl, a, b, l, m, 1 + i, 1 + i + 1 + j, rfl, hL.mono s2, hV, s2.seq hm, hlen, gi, gj, _, rfl, ?_⟩
        cases hb : Vbhoam.block l m (1 + i) (1 + i + 1 + j) with
        | true =>
          obtain ⟨ws, w1, w2⟩ := LP.len
          refine ⟨_, rfl, .inl ⟨rfl, _, SqL.of w1⟩, _, rfl, _, rfl, (by show 2 ≤ sizeLine; decide), fun r hr => ?_⟩
          have t1 := same_upd (o := .lst (nv [1 + i, 1 + i + 1 + j])) hr
          obtain ⟨ys, y1, y2, y3⟩ := (LP.mono t1).push (r := r) (x := [1 + i, 1 + i + 1 + j]) upd_same (fun e => by rw [e, w1] at hr; cases hr)
          refine ⟨p, ys, _, rfl, rfl, y1, ?_, _, rfl, same_upd2 (s2.trans t1) hp, ?_⟩
          · rw [y2, List.length_append, List.length_map]
            have e1 := flatN_len (rowB_len hV m) (List.range' 1 i)
            have e2 := List.length_filter_le (Vbhoam.block l m (1 + i)) (List.range' (1 + i + 1) j)
            rw [List.length_range'] at e1 e2
            omega
          · rw [filter_more, hb, if_pos rfl, List.map_append, ← List.append_assoc]
            exact y3
        | false =>
          refine ⟨_, rfl, s2, ?_⟩
          rw [filter_more, hb, if_neg (by simp), List.append_nil]
          exact LP
      · rintro σ H'' ⟨v4, rfl, s2, LP⟩
        refine ⟨_, _, rfl, s2, ?_⟩
        rw [List.range'_concat, List.flatMap_append, List.flatMap_singleton, Nat.one_mul]
        rw [show ((xs.length : Int) - (1 + (i : Int) + 1)).toNat = l.length - (1 + i) by omega] at LP
        exact LP
    · rintro σ H' ⟨v3, v4, rfl, s1, LP⟩
      refine ⟨_, rfl, k H' p s1 hp ?_⟩
      rw [show ((xs.length : Int) - 1).toNat = l.length by omega] at LP
      rw [blocks_rows]
      exact LP
end
end Rs
end
section
set_option Elab.async false
set_option linter.all false
set_option maxRecDepth 100000
set_option maxHeartbeats 2000000
namespace Rs
open PySem PySem.Spec PyProof.Rows L2
open Vbhoam (Likes)
section
variable {P : Program} {w : World} {K : PySem.W.Frag} {mg : Str → Option Value} {base : Heap}
theorem call_maxL {X : Cx} (hc : X.calm = true) : CallR X (.builtin "max") (fun xs H Q => ∃ (a : Addr) (ns : List Int), xs = [.ref a] ∧ SqL X.K H a (ns.map V.int) ∧ 0 < ns.length ∧ ∀ M, M ∈ ns → (∀ x ∈ ns, x ≤ M) → Q (.int M) H) := by
  intro pins s σ H xs us Q I r h
  obtain ⟨a, ns, rfl, hs, hne, q⟩ := h
  obtain ⟨u, rfl, ru⟩ := vals1 r
  cases ru
  obtain ⟨its, rv, ⟨⟨cls, dd, data, sl⟩, n, ho, hcl, hdn, hd⟩, hlen⟩ := I.list hs
  simp only at hcl hd
  subst hcl hd
  have hi : IntsAre its ns := by
    clear hs hne q ho hlen hdn
    induction ns generalizing its with
    | nil => cases rv; exact .nil
    | cons x ns ih =>
      cases rv with
      | cons r1 r2 => obtain ⟨t, rfl⟩ := r1; exact .cons _ _ (ih _ r2)
  have hl : s.heap.IsList a its.toArray := ⟨_, ho, rfl, n, rfl⟩
  obtain ⟨ys, e⟩ := hi.allInts.items
  have hns : ns = ys.toList.map (·.1) := by rw [← hi.numsOf, ← nums_intItems, ← e]
  have hsz : 0 < ys.size := by
    have h3 := hne
    rw [hns, List.length_map, Array.length_toList] at h3
    exact h3
  rw [e] at hl
  refine max_intList (I.ok.hd hc) hl hsz fun v h' tk hv hk => ?_
  obtain ⟨t, rfl⟩ := intItems_at hv
  obtain ⟨h1, h2⟩ := argBest_gt (numAt ys) (ys.size - 1)
  refine ⟨.int _, H, I.kept hk, ⟨t, rfl⟩, q _ ?_ fun x hx => ?_⟩
  · rw [hns, numAt_eq]; exact getD_mem (by rw [List.length_map, Array.length_toList]; omega)
  · rw [hns] at hx
    obtain ⟨j, hj, rfl⟩ := mem_getD hx
    rw [List.length_map, Array.length_toList] at hj
    rw [← numAt_eq]; exact h2 j (by omega)
end
end Rs
end
section
set_option Elab.async false
set_option linter.all false
set_option maxRecDepth 100000
set_option maxHeartbeats 2000000
/-! A lambda of a def's body, made where it stands; sorted by such a key. -/
namespace Rs
open PySem PySem.Spec PyProof.Rows L2
/-- the place of the lambda's code: not made yet, or made -/
def LamT (q : Str) (pos : Pos) (P : Addr) (H : Hp) : Prop :=
  H P = some (.tbl #[]) ∨ ∃ c, H P = some (.tbl #[rawInt pos.line, rawInt pos.col, .ref c]) ∧ H c = some (.ext fun h => h.CodeRec (.ref c) q)
abbrev lamObj (X : Cx) (params : Arguments) (body : Expr) (scope : Scope) (c : Addr) (ctv : Value) : Obj :=
  PySem.W.kla_obj "<lambda>" (X.env.qual ++ "<lambda>") params body scope (cloFrom X.env.cells scope.names []) ((X.mg "__name__").getD .none) c ctv
structure LamMade (X : Cx) (params : Arguments) (body : Expr) (scope : Scope) (pos : Pos) (P : Addr) (H H' : Hp) (f : Addr) : Prop where
  new : H f = none
  at_ : ∃ c ctv, H' P = some (.tbl #[rawInt pos.line, rawInt pos.col, .ref c]) ∧ H' c = some (.ext fun h => h.CodeRec (.ref c) (X.env.qual ++ "<lambda>")) ∧ H' f = some (.ext fun h => h.get? f = some (lamObj X params body scope c ctv))
  same : ∀ b o, b ≠ P → H b = some o → H' b = some o
theorem LamMade.t {X : Cx} {params : Arguments} {body : Expr} {scope : Scope} {pos : Pos} {P : Addr} {H H' : Hp} {f : Addr} (h : LamMade X params body scope pos P H H' f) : LamT (X.env.qual ++ "<lambda>") pos P H' := by
  obtain ⟨c, ctv, h1, h2, _⟩ := h.at_
  exact .inr ⟨c, h1, h2⟩
def tLam (X : Cx) (params : Arguments) (body : Expr) (scope : Scope) (pos : Pos) (P : Addr) : TE := fun _ H Q => LamT (X.env.qual ++ "<lambda>") pos P H ∧ ∀ f H', LamMade X params body scope pos P H H' f → Q (.ref f) H'
theorem rec_ext {P : Program} {w : World} {H : Hp} {h : Heap} {c : Addr} {q : Str} (x : h.CodeRec (.ref c) q) : ObjOk P w H h c (.ext fun h => h.CodeRec (.ref c) q) := by
  refine ⟨x, ?_, fun h1 h2 y k => ?_⟩
  · obtain ⟨c', o, vs, t, e, g, _⟩ := x
    cases e
    exact ⟨o, g⟩
  · obtain ⟨c', o, vs, t, e, g, r⟩ := y
    cases e
    exact ⟨c, o, vs, t, rfl, k o g, r⟩
theorem obj_ext {P : Program} {w : World} {H : Hp} {h : Heap} {f : Addr} {ob : Obj} (x : h.get? f = some ob) : ObjOk P w H h f (.ext fun h => h.get? f = some ob) := ⟨x, ⟨ob, x⟩, fun _ _ y k => k ob y⟩
section
variable {X : Cx} {params : Arguments} {body : Expr} {scope : Scope} {pos : Pos} {c P : Addr}
theorem pe_lam (hc : X.env.code = .ref c) (C : PySem.W.CodeHd X.base c P) (hB : X.base.BuiltinsAt X.mg P) (hdef : defaultsOf params X.env = ([], [])) (hfree : ∀ y ∈ scope.names, y.2 = .free → X.env.kindOf y.1 = some .cell) :
    PE X (.Lambda params body scope pos) (tLam X params body scope pos P) := by
  intro pins s σ H Q I h
  obtain ⟨hT, k⟩ := h
  refine PySem.W.kla_eval hdef ?_
  have hcl := closure_ok (scope := scope) (env := X.env) fun y hy e => I.ok.has _ (.inl (hfree y hy e))
  have hg : s.heap.Ns mainGlobals X.mg := I.mod.glob.keeps I.bk
  have C' := C.keeps I.bk
  have hB' : s.heap.BuiltinsAt X.mg P := by
    obtain ⟨bm, o, b1, b2, b3, b4, b5, b6⟩ := hB
    exact ⟨bm, o, b1, b2, b3, b4, I.bk _ _ b5, b6⟩
  rcases hT with h0 | ⟨c', h0, h1⟩
  · have hP : s.heap.get? P = some (PySem.W.tabObj #[]) := I.hok P _ h0
    have hgP : mainGlobals ≠ P := fun e => by
      obtain ⟨o, es, ep, e1, _⟩ := I.mod.glob
      have := (I.bs _ _ e1).2
      rw [e, h0] at this
      cases this
    refine PySem.W.kla_makeFunction (mg := X.mg) hcl I.ok.glob hg hc C' hP trivial rfl hgP hB' fun c' ctv h' tk hx hge hlt hrec htb => ?_
    have hn1 : H c' = none := I.hok.fresh hge
    have hn2 : H h'.objs.size = none := I.hok.fresh (Nat.le_trans hge (Nat.le_of_lt hlt))
    have ne1 : c' ≠ h'.objs.size := Nat.ne_of_lt hlt
    have ne2 : c' ≠ P := fun e => by rw [e, h0] at hn1; cases hn1
    have ne3 : h'.objs.size ≠ P := fun e => by rw [e, h0] at hn2; cases hn2
    have hkeep : ∀ b o, b ≠ P → s.heap.get? b = some o → (h'.push (lamObj X params body scope c' ctv)).get? b = some o := fun b o hb e => Heap.get?_push_of_some _ (hx b o hb e)
    have htb2 : (h'.push (lamObj X params body scope c' ctv)).get? P = some (PySem.W.tabObj #[rawInt pos.line, rawInt pos.col, .ref c']) := Heap.get?_push_of_some _ htb
    have hsame : ∀ b o, b ≠ P → H b = some o → upd (upd (upd H P (.tbl #[rawInt pos.line, rawInt pos.col, .ref c'])) c' (.ext fun h => h.CodeRec (.ref c') (X.env.qual ++ "<lambda>"))) h'.objs.size (.ext fun h => h.get? h'.objs.size = some (lamObj X params body scope c' ctv)) b = some o := fun b o hb e => by
      rw [upd_ne (ne_of_none e hn2), upd_ne (ne_of_none e hn1), upd_ne hb]
      exact e
    have hHP : upd (upd (upd H P (.tbl #[rawInt pos.line, rawInt pos.col, .ref c'])) c' (.ext fun h => h.CodeRec (.ref c') (X.env.qual ++ "<lambda>"))) h'.objs.size (.ext fun h => h.get? h'.objs.size = some (lamObj X params body scope c' ctv)) P = some (.tbl #[rawInt pos.line, rawInt pos.col, .ref c']) := by
      rw [upd_ne ne3.symm, upd_ne ne2.symm, upd_same]
    have hHc : upd (upd (upd H P (.tbl #[rawInt pos.line, rawInt pos.col, .ref c'])) c' (.ext fun h => h.CodeRec (.ref c') (X.env.qual ++ "<lambda>"))) h'.objs.size (.ext fun h => h.get? h'.objs.size = some (lamObj X params body scope c' ctv)) c' = some (.ext fun h => h.CodeRec (.ref c') (X.env.qual ++ "<lambda>")) := by
      rw [upd_ne ne1, upd_same]
    have hHf : upd (upd (upd H P (.tbl #[rawInt pos.line, rawInt pos.col, .ref c'])) c' (.ext fun h => h.CodeRec (.ref c') (X.env.qual ++ "<lambda>"))) h'.objs.size (.ext fun h => h.get? h'.objs.size = some (lamObj X params body scope c' ctv)) h'.objs.size = some (.ext fun h => h.get? h'.objs.size = some (lamObj X params body scope c' ctv)) := upd_same
    generalize hH2 : upd (upd (upd H P (.tbl #[rawInt pos.line, rawInt pos.col, .ref c'])) c' (.ext fun h => h.CodeRec (.ref c') (X.env.qual ++ "<lambda>"))) h'.objs.size (.ext fun h => h.get? h'.objs.size = some (lamObj X params body scope c' ctv)) = H2 at hsame hHP hHc hHf
    have hfree2 : ∀ b o, s.heap.get? b = some o → H b = none → H2 b = none := fun b o e n => by
      have hb := Heap.lt_size e
      rw [← hH2, upd_ne (Nat.ne_of_lt (Nat.lt_of_lt_of_le hb (Nat.le_trans hge (Nat.le_of_lt hlt)))), upd_ne (Nat.ne_of_lt (Nat.lt_of_lt_of_le hb hge)), upd_ne (fun z => by rw [z, h0] at n; cases n)]
      exact n
    have un : Un X.fs [] H H2 s.heap (h'.push (lamObj X params body scope c' ctv)) := {
      keep := fun b o e n _ _ => hkeep b o (fun z => by rw [z, h0] at n; cases n) e
      slot := fun b o e n _ _ => ⟨o.slots, hkeep b o (fun z => by rw [z, h0] at n; cases n) e⟩
      free := fun b o e n _ => hfree2 b o e n
      there := fun b o e _ => by
        by_cases z : b = P
        · exact ⟨_, by rw [z]; exact htb2⟩
        · exact ⟨o, hkeep b o z e⟩
      tups := fun b xs e => hsame b _ (fun z => by rw [z, h0] at e; cases e) e
      frzs := fun b o u e => hsame b _ (fun z => by rw [z, h0] at e; cases e) e
      tbls := fun b ps e => by
        by_cases z : b = P
        · subst z
          rw [h0] at e
          cases e
          exact ⟨#[rawInt pos.line, rawInt pos.col, .ref c'], by rw [hHP]; simp⟩
        · exact ⟨#[], by rw [hsame b _ z e]; simp⟩ }
    have hok : HOk X.prog X.w H2 (h'.push (lamObj X params body scope c' ctv)) := fun b u e => by
      by_cases z1 : b = h'.objs.size
      · subst z1
        rw [hHf] at e
        cases e
        exact obj_ext (Heap.get?_push_size _ rfl)
      · by_cases z2 : b = c'
        · subst z2
          rw [hHc] at e
          cases e
          exact rec_ext (hrec.push _)
        · by_cases z3 : b = P
          · subst z3
            rw [hHP] at e
            cases e
            exact htb2
          · have e' : H b = some u := by
              rw [← hH2, upd_ne z1, upd_ne z2, upd_ne z3] at e
              exact e
            refine (I.hok b u e').stay (fun b' u' hb' q => hkeep b' u' (fun z => ?_) q) (fun b' q => hsame b' _ (fun z => by rw [z, h0] at q; cases q) q) fun b' xs q => hsame b' _ (fun z => by rw [z, h0] at q; cases q) q
            rcases hb' with r | r
            · exact z3 (r.symm.trans z)
            · rw [z, h0] at r; cases r
    exact ⟨.ref h'.objs.size, H2, I.un (t' := tk) un hok, rfl, k _ _ ⟨hn2, ⟨c', ctv, hHP, hHc, hHf⟩, hsame⟩⟩
  · have hP : s.heap.get? P = some (PySem.W.tabObj #[rawInt pos.line, rawInt pos.col, .ref c']) := I.hok P _ h0
    refine PySem.W.kla_makeFunctionHit (mg := X.mg) (cv := .ref c') hcl I.ok.glob hg hc C' hP (by simp [TriplesOk, rawInt]) (by simp [codeAmong, rawInt]) hB' fun ctv h' tk hk hsz => ?_
    have hn2 : H h'.objs.size = none := I.hok.fresh hsz
    have J := I.laid (t' := tk) (h' := h'.push (lamObj X params body scope c' ctv)) (a := h'.objs.size) (o := .ext fun h => h.get? h'.objs.size = some (lamObj X params body scope c' ctv)) (fun b u e => Heap.get?_push_of_some _ (hk b u e)) hsz (obj_ext (Heap.get?_push_size _ rfl))
    exact ⟨.ref h'.objs.size, _, J, rfl, k _ _ ⟨hn2, ⟨c', ctv, by rw [upd_ne (ne_of_none h0 hn2)]; exact h0, by rw [upd_ne (ne_of_none h1 hn2)]; exact h1, upd_same⟩, fun b o _ e => by rw [upd_ne (ne_of_none e hn2)]; exact e⟩⟩
end
/-! ### the lambda called -/
abbrev lamEnv (q : Str) (scope : Scope) (L f c : Addr) (cl : List (Str × Addr)) : Env := PySem.W.envX q scope L f (.ref c) cl
abbrev lamCx (X : Cx) (A : Around) (N : List Str) (s : Shared) (H : Hp) (scope : Scope) (f c : Addr) : Cx where
  prog := X.prog
  w := X.w
  K := X.K
  mg := X.mg
  base := X.base
  A := A.deeper (lamEnv (X.env.qual ++ "<lambda>") scope s.heap.objs.size f c (cloFrom X.env.cells scope.names []))
  N := N
  s_0 := s
  H_0 := H
  env := lamEnv (X.env.qual ++ "<lambda>") scope s.heap.objs.size f c (cloFrom X.env.cells scope.names [])
  outer := X.stack
  stack := lamEnv (X.env.qual ++ "<lambda>") scope s.heap.objs.size f c (cloFrom X.env.cells scope.names []) :: X.stack
  ex := []
  fn := fun _ => false
  calm := true
  pn := []
  xe := fun _ _ => False
theorem clo_look {cells : List (Str × Addr)} {names : List (Str × NameKind)} {x : Str} {c : Addr} (h : (cloFrom cells names []).lookup x = some c) : (x, NameKind.free) ∈ names ∧ c = (cells.lookup x).getD 0 := by
  rcases cloFrom_mem (PySem.mem_of_lookup h) with h | h
  · exact absurd h (by simp)
  · exact h
theorem look_clo {cells : List (Str × Addr)} {names : List (Str × NameKind)} {x : Str} {c : Addr} (h : (x, NameKind.free) ∈ names) (hc : cells.lookup x = some c) : (cloFrom cells names []).lookup x = some c := by
  obtain ⟨c', e⟩ := L2.mem_lookup (cloFrom_has (cells := cells) (acc := []) h)
  rw [e, (clo_look e).2, hc]
  rfl
section
variable {X : Cx} {params : Arguments} {body : Expr} {scope : Scope} {A : Around} {N : List Str} {f c : Addr} {ctv : Value} {x : Str}
/-- f(v): the body is read at the parameter's value and at those of the names around -/
theorem lam_run {pins : List (Addr × Obj)} {σ σl : L2.St} {H : Hp} {s : Shared} {Q : VK} {tb : TE} {v : V} {u : Value}
    (I : L2.Inv X pins σ H s) (hd : A.handled = none) (hfr : A.frames = some X.stack) (hdp : A.depth < recursionLimit)
    (hf : H f = some (.ext fun h => h.get? f = some (lamObj X params body scope c ctv))) (hc : H c = some (.ext fun h => h.CodeRec (.ref c) (X.env.qual ++ "<lambda>")))
    (hk : scope.kind = .function) (hco : scope.isCoroutine = false) (hgen : scope.isGenerator = false) (hcell : ∀ y ∈ scope.names, y.2 ≠ .cell)
    (hbind : ∀ (q : Str) (cl : List (Str × Addr)) (pm cdv ct u : Value), bindArgs (PySem.W.kla_fn "<lambda>" q params body scope cl pm cdv ct) ⟨[u], []⟩ = pure [(x, u)]) (hx : scope.names.lookup x = some .local)
    (hfree : ∀ y ∈ scope.names, y.2 = .free → X.env.kindOf y.1 = some .cell)
    (hl : σl.length = N.length) (hσ : ∀ (i : Nat) (y : Str) (z : V), N[i]? = some y → σl[i]? = some (some z) → (y = x ∧ z = v) ∨ (scope.names.lookup y = some .free ∧ Vis X.env.scope y ∧ ∃ j : Nat, X.N[j]? = some y ∧ σ[j]? = some (some z)))
    (r : RelV v u) (hb : PE (lamCx X A N s H scope f c) body tb) (q : tb σl H Q) :
    codeAny (model X.prog X.w) A (.call (.ref f) ⟨[u], []⟩) (fun r s' => ∃ z, r = .ok (.ret z) ∧ EP X pins σ Q z s') s := by
  have ho : s.heap.get? f = some (lamObj X params body scope c ctv) := (I.hok f _ hf).1
  have hrec : s.heap.CodeRec (.ref c) (X.env.qual ++ "<lambda>") := (I.hok c _ hc).1
  refine PySem.W.kla_callFunE hdp ho rfl hco hgen rfl hrec ?_
  rw [hbind]
  refine wpAny_pure (wpAny_newFunctionEnv hcell (fun y hy => ?_) (fun h1 hns hsb => ⟨(I.nolimit).fresh _ hsb, ?_⟩) hk)
  · rw [List.mem_singleton.mp hy]; exact hx
  show codeAny _ _ (.expr body (lamEnv (X.env.qual ++ "<lambda>") scope s.heap.objs.size f c (cloFrom X.env.cells scope.names []))) _ _
  have hk1 : ∀ b o, s.heap.get? b = some o → h1.get? b = some o := fun b o e => hsb.extBut b o (Nat.ne_of_lt (Heap.lt_size e)) (Heap.get?_push_of_some _ e)
  have cl1 : ∀ y c', (cloFrom X.env.cells scope.names []).lookup y = some c' → X.env.cells.lookup y = some c' := fun y c' e => by
    obtain ⟨h2, h3⟩ := clo_look e
    obtain ⟨c2, e2⟩ := I.ok.has y (.inl (hfree _ h2 rfl))
    rw [e2] at h3
    rw [e2]
    exact congrArg some h3.symm
  have J : L2.Inv (lamCx X A N s H scope f c) [] σl H { s with heap := h1, toks := s.toks + [(x, u)].length } := by
    refine ⟨⟨I.mod, hk, rfl, rfl, Nat.le_refl _, fun y z c' e1 e2 => I.ok.inj y z c' (cl1 y c' e1) (cl1 z c' e2), fun y hy => ?_, fun y c' e => Bool.noConfusion (show false = true from e), fun _ => hd, Around.frames_deeper hfr, .inr ⟨rfl, rfl⟩,
        fun b z => absurd (show b ∈ ([] : List Addr) from z) (by simp), fun b o e => I.bs b o e, Nat.le_trans I.ok.bsz I.sz, fun b _ _ z => absurd (show b ∈ ([] : List Addr) from z) (by simp), fun b z => absurd (show b ∈ ([] : List Addr) from z) (by simp), I.stack, I.stkFree⟩,
      rfl, I.bare, Un.kept hk1, ⟨_, hns, fun i y z e1 e2 e3 => ?_⟩, fun y c' e => ?_, I.hok.fresh (Nat.le_refl _), fun y c' e => I.freeC y c' (cl1 y c' e), fun p hp => absurd (show p ∈ ([] : List (Addr × Obj)) from hp) (by simp), I.hok.kept hk1, hl⟩
    · have hy : scope.names.lookup y = some .cell ∨ scope.names.lookup y = some .free := hy
      rcases hy with hy | hy
      · exact absurd rfl (hcell _ (PySem.mem_of_lookup hy))
      · obtain ⟨c2, e2⟩ := I.ok.has y (.inl (hfree _ (PySem.mem_of_lookup hy) rfl))
        exact ⟨c2, look_clo (PySem.mem_of_lookup hy) e2⟩
    · rcases hσ i y z e1 e2 with ⟨rfl, rfl⟩ | ⟨h2, h3, j, h4, h5⟩
      · refine ⟨u, r, .inl ⟨hx, ?_⟩⟩
        show ([(y, u)] : List (Str × Value)).reverse.lookup y = some u
        simp
      · obtain ⟨m, hn, hlk⟩ := I.loc
        obtain ⟨u', r', lk⟩ := hlk j y z h4 h5 h3
        refine ⟨u', r', .inr ⟨.inr h2, ?_⟩⟩
        have hkc := hfree _ (PySem.mem_of_lookup h2) rfl
        rcases lk with ⟨hl', _⟩ | ⟨_, c', hc', hcl⟩
        · rw [show X.env.kindOf y = some .cell from hkc] at hl'
          cases hl'
        · exact ⟨c', look_clo (PySem.mem_of_lookup h2) hc', by obtain ⟨o, e, d⟩ := hcl; exact ⟨o, hk1 _ _ e, d⟩⟩
    · obtain ⟨z, o, e1, e2⟩ := I.cell y c' (cl1 y c' e)
      exact ⟨z, o, hk1 _ _ e1, e2⟩
  refine PySem.W.kla_codeExpr (wpAny_mono (hb [] _ σl H Q J q) (fun z s' hz => ?_) fun e s' hF => hF.elim)
  obtain ⟨v', H', J', r', q'⟩ := hz
  exact ⟨z, rfl, I.after ⟨v', H', J'.os, J'.bare, J'.base, J'.hok, r', q'⟩⟩
end
end Rs
end
section
set_option Elab.async false
set_option linter.all false
set_option maxRecDepth 100000
set_option maxHeartbeats 4000000
/-! sorted(xs, key = a lambda of the body): the sort's own objects are untracked; between the turns the body's invariant holds. -/
namespace Rs
open PySem PySem.Spec PyProof.Rows L2
/-- an object of ours that stands untracked is tracked from now on -/
theorem inv_adopt {X : Cx} {pins : List (Addr × Obj)} {σ : L2.St} {H : Hp} {s : Shared} {D : Addr} {o : HO} (I : L2.Inv X pins σ H s) (f : FpOk X pins H D) (new : ObjOk X.prog X.w (upd H D o) s.heap D o) : L2.Inv X pins σ (upd H D o) s := by
  obtain ⟨f0, f1, f2, f3, f4, f5⟩ := f
  refine I.step (h' := s.heap) (g' := s.gens) (t' := s.toks) (d' := s.drawn) (ch := [D]) (fun b hb => ?_) (fun b o _ _ _ e _ => e) (fun b o _ _ _ e _ => ⟨o.slots, e⟩) (fun b o hc _ n => by rw [upd_ne (fun z => hc (by simp [z]))]; exact n) (fun b o _ e => ⟨o, e⟩)
    (fun b xs q => by rw [upd_ne (ne_of_none q f0)]; exact q) (fun b u xs q => by rw [upd_ne (ne_of_none q f0)]; exact q) (fun b ps q => ⟨#[], by rw [upd_ne (ne_of_none q f0), q]; simp⟩) (fun m hm => hm) (fun b u e => ?_) I.bare
  · have e : b = D := by simpa using hb
    subst e
    exact ⟨f3, f1, f4, f5⟩
  · by_cases z : b = D
    · subst z; rw [upd_same] at e; cases e; exact new
    · rw [upd_ne z] at e
      exact (I.hok b u e).stay (fun c v _ q => q) (fun c q => by rw [upd_ne (ne_of_none q f0)]; exact q) fun c xs q => by rw [upd_ne (ne_of_none q f0)]; exact q
section
variable {X : Cx} {A : Around} {E : Value → Shared → Prop} {s : Shared} {pins : List (Addr × Obj)} {σ : L2.St} {H : Hp}
/-- two records of ours were written, the frame's map stands, all else is kept -/
theorem inv_two {x y : Addr} {h' : Heap} {tk : Nat} {m : Str → Option Value} (I : L2.Inv X pins σ H s) (fx : FpOk X pins H x) (fy : FpOk X pins H y) (hm : s.heap.Ns X.env.locals m) (hm' : h'.Ns X.env.locals m)
    (keep : ∀ b o, b ≠ x → b ≠ y → b ≠ X.env.locals → s.heap.get? b = some o → h'.get? b = some o) : L2.Inv X pins σ H { s with heap := h', toks := tk } := by
  have tr : ∀ b u, H b = some u → b ≠ x ∧ b ≠ y ∧ b ≠ X.env.locals := fun b u e => ⟨ne_of_none e fx.1, ne_of_none e fy.1, ne_of_none e I.free⟩
  refine I.step (h' := h') (g' := s.gens) (t' := tk) (d' := s.drawn) (ch := [x, y]) (fun b hb => ?_) (fun b o n1 _ n2 e _ => ?_) (fun b o n1 _ n2 e _ => ⟨o.slots, ?_⟩) (fun _ _ _ _ n => n) (fun b o n e => ?_) (fun _ _ e => e) (fun _ _ _ e => e) (fun b ps e => ⟨#[], by rw [e]; simp⟩) (fun m2 h2 => ?_) (fun b u e => ?_) I.bare
  · rcases List.mem_cons.mp hb with z | z
    · rw [z]; exact ⟨fx.2.2.2.1, fx.2.1, fx.2.2.2.2.1, fx.2.2.2.2.2⟩
    · rw [List.mem_singleton.mp z]; exact ⟨fy.2.2.2.1, fy.2.1, fy.2.2.2.2.1, fy.2.2.2.2.2⟩
  · exact keep b o (fun z => n2 (by simp [z])) (fun z => n2 (by simp [z])) n1 e
  · exact keep b o (fun z => n2 (by simp [z])) (fun z => n2 (by simp [z])) n1 e
  · by_cases z : b = X.env.locals
    · obtain ⟨o', _, _, e', _⟩ := hm'
      exact ⟨o', by rw [z]; exact e'⟩
    · exact ⟨o, keep b o (fun z => n (by simp [z])) (fun z => n (by simp [z])) z e⟩
  · rw [h2.eq_nsMap, ← hm.eq_nsMap]
    exact hm'
  · refine (I.hok b u e).stay (fun c v hc q => ?_) (fun _ q => q) fun _ _ q => q
    have hn : c ≠ x ∧ c ≠ y ∧ c ≠ X.env.locals := by
      rcases hc with z | z
      · rw [z]; exact tr b u e
      · exact tr c _ z
    exact keep c v hn.1 hn.2.1 hn.2.2 q
/-- the sort behind its keys, by the library's own word for it -/
theorem srt_end {a kS : Addr} {vs : List Value} {kz : List Int} {keys : Array Value} {e e1 : Nat} {P : PySem.Fin → Shared → Prop} (I : L2.Inv X pins σ H s) (nk : s.heap.get? kS = some (seqObj "list" keys e)) (na : s.heap.get? a = some (seqObj "list" #[] e1)) (fk : FpOk X pins H kS) (fa : FpOk X pins H a) (hne : kS ≠ a)
    (hk : IntsAre keys.toList kz) (hlen : kz.length = vs.length) (hZ : vs.length ≤ sizeLine)
    (done : ∀ h' tk out c, L2.Inv X pins σ H { s with heap := h', toks := tk } → h'.get? a = some (seqObj "list" out c) → KskOut false kz vs out.toList → P (.done (.ret .none)) { s with heap := h', toks := tk }) :
    wpAny (model X.prog X.w) A (ksk_end a false vs.toArray e1 (.ref kS) keys) P E s := by
  obtain ⟨m, hm, _⟩ := I.loc
  have mem : ∀ p, p ∈ (Att.ledger s.heap X.env.locals kS).filter (fun p => decide (p.1 ≠ a)) ↔ s.heap.get? p.1 = some p.2 ∧ p.1 ≠ X.env.locals ∧ p.1 ≠ kS ∧ p.1 ≠ a := fun ⟨b, o⟩ => by
    rw [List.mem_filter, Att.mem_ledger]
    simp only [ne_eq, decide_eq_true_eq]
    exact ⟨fun ⟨⟨q1, q2, q3⟩, q4⟩ => ⟨q3, q1, q2, q4⟩, fun ⟨q1, q2, q3, q4⟩ => ⟨⟨q2, q3, q1⟩, q4⟩⟩
  refine ksk_end_Any (e := e) (h₀ := Att.noObjs s.heap) (news := (Att.ledger s.heap X.env.locals kS).filter fun p => decide (p.1 ≠ a)) (Att.fr_all hm) (fun p hp => ?_) hne (fun p hp => ((mem p).mp hp).2.2.1) (fun p hp => ((mem p).mp hp).2.2.2) hk hlen hZ fun h' tk out c F' N' ko => ?_
  · rcases List.mem_append.mp hp with q | q
    · obtain ⟨q1, q2, _⟩ := (mem p).mp q
      exact ⟨q1, q2, Att.noObjs_get _ _⟩
    · rcases List.mem_cons.mp q with z | z
      · rw [z]; exact ⟨nk, fk.2.1, Att.noObjs_get _ _⟩
      · rw [List.mem_singleton.mp z]; exact ⟨na, fa.2.1, Att.noObjs_get _ _⟩
  · refine done h' tk out c (inv_two I fk fa hm F'.ns fun b o n1 n2 n3 eb => ?_) (N' _ (List.mem_cons_self ..)).1 ko
    exact (N' (b, o) (List.mem_cons_of_mem _ ((mem (b, o)).mpr ⟨eb, n3, n1, n2⟩))).1
/-- the keys, item by item: kS holds those that are reckoned -/
theorem srt_rest {a kS : Addr} {vs : List Value} {kz : List Int} {e1 : Nat} {P : PySem.Fin → Shared → Prop} {f : Value} (I : L2.Inv X pins σ H s) (nk : s.heap.get? kS = some (seqObj "list" #[] 0)) (na : s.heap.get? a = some (seqObj "list" #[] e1)) (fk : FpOk X pins H kS) (fa : FpOk X pins H a) (hne : kS ≠ a)
    (hlen : kz.length = vs.length) (hZ : vs.length ≤ sizeLine)
    (key : ∀ (i : Nat) (v : Value) (k : Int), vs[i]? = some v → kz[i]? = some k → ∀ (pins' : List (Addr × Obj)) (s' : Shared), L2.Inv X pins' σ H s' →
      wpAny (model X.prog X.w) A (call f [v]) (EP X pins' σ fun z H' => z = .int k ∧ H' = H) (fun _ _ => False) s')
    (done : ∀ s' out c, L2.Inv X pins σ H s' → s'.heap.get? a = some (seqObj "list" out c) → KskOut false kz vs out.toList → P (.done (.ret .none)) s') :
    wpAny (model X.prog X.w) A (ksk_rest a f false vs.toArray e1 (.ref kS)) P E s := by
  have big : sizeLine = 16777216 := sizeLine_eq
  have two : ∀ b ∈ [kS, a], FpOk X pins H b := fun b hb => by
    rcases List.mem_cons.mp hb with z | z
    · rw [z]; exact fk
    · rw [List.mem_singleton.mp z]; exact fa
  unfold ksk_rest
  refine wpAny_bind (wpAny_rule ?_)
  rw [List.forIn_toArray]
  refine wpAny_bind (ksk_fold (fun i s' => ∃ (got : Array Value) (n : Nat), L2.Inv X pins σ H s' ∧ s'.heap.get? kS = some (seqObj "list" got n) ∧ s'.heap.get? a = some (seqObj "list" #[] e1) ∧ IntsAre got.toList (kz.take i)) vs 0 s ⟨#[], 0, I, nk, na, by simpa using IntsAre.nil⟩ ?turn ?rest)
  case turn =>
    rintro j v s' hv ⟨got, n, I', gk, ga, hgot⟩
    rw [Nat.zero_add] at hgot ⊢
    have lj : j < vs.length := (List.getElem?_eq_some_iff.mp hv).1
    have lk : j < kz.length := by omega
    have room : got.size ≤ vs.length := by
      have q := hgot.length
      rw [Array.length_toList, List.length_take] at q
      omega
    have I2 := I'.pinned two fun b hb => by
      rcases List.mem_cons.mp hb with z | z
      · rw [z]; exact ⟨_, gk, fun _ q => by cases q⟩
      · rw [List.mem_singleton.mp z]; exact ⟨_, ga, fun _ q => by cases q⟩
    refine wpAny_bind (wpAny_attempt (wpAny_mono (key j v kz[j] hv (List.getElem?_eq_getElem lk) _ s' I2) (fun r s2 hr => ?_) fun _ _ no => no.elim))
    obtain ⟨z, H', I3, rz, rfl, rfl⟩ := hr
    obtain ⟨t, rfl⟩ := rz
    have pin3 : ∀ b o, b ∈ [kS, a] → s'.heap.get? b = some o → s2.heap.get? b = some o := fun b o hb eb => (I3.pin (b, o) (List.mem_append_right _ (List.mem_append_right _ (mem_pinsAt hb eb)))).1
    have gk3 := pin3 kS _ (by simp) gk
    have ga3 := pin3 a _ (by simp) ga
    have only := Heap.SameBut.update s2.heap kS (Obj.mapSeq (·.push (.int kz[j] t)))
    have put := get?_update_seq gk3 (·.push (.int kz[j] t))
    refine wpAny_bind (listUpdate_at gk3 rfl ?_ (by omega) (by rw [Array.size_push]; omega))
    refine wpAny_pure ⟨rfl, got.push (.int kz[j] t), _, ?_, put, (only.2 a hne.symm).trans ga3, ?_⟩
    · exact I3.unpinned.turned (t' := s2.toks) (it := kS) (fun b o hb eb => (only.2 b hb).trans eb) fk.1 fk.2.1 fk.2.2.2.1 fk.2.2.2.2.1 fk.2.2.2.2.2
    · rw [Array.toList_push, List.take_succ_eq_append_getElem lk]
      exact ksk_snoc hgot
  case rest =>
    rintro s' ⟨got, n, I', gk, ga, hgot⟩
    rw [Nat.zero_add, ← hlen, List.take_length] at hgot
    refine wpAny_bind (listItems_at gk rfl ?_)
    exact srt_end I' gk ga fk fa hne hgot hlen hZ fun h3 tk3 out c I3 n3 k3 => done _ out c I3 n3 k3
/-- what comes out, as numbers -/
theorem out_nums {g : Int → Int} {ns : List Int} {its out : List Value} (hi : IntsAre its ns) (ko : KskOut false (ns.map g) its out) : ∃ ms : List Int, IntsAre out ms ∧ ms.Perm ns ∧ ms.Pairwise fun x y => g x ≤ g y := by
  obtain ⟨ps, hp, rfl, hs⟩ := ko
  have num : its.map numOf = ns := hi.nums
  have pr : ∀ q ∈ ps, q.1 = g (numOf q.2) ∧ ∃ n t, q.2 = Value.int n t := fun q hq => by
    have hz := hp.mem_iff.mp hq
    rw [← num, List.map_map] at hz
    obtain ⟨i, h1, h2⟩ := List.mem_iff_getElem?.mp hz |>.elim fun i h => (⟨i, (List.getElem?_zip_eq_some.mp h).1, (List.getElem?_zip_eq_some.mp h).2⟩ : ∃ i : Nat, (its.map (g ∘ numOf))[i]? = some q.1 ∧ its[i]? = some q.2)
    rw [List.getElem?_map, h2] at h1
    exact ⟨(Option.some.inj h1).symm, hi.all _ (List.mem_of_getElem? h2)⟩
  refine ⟨(ps.map Prod.snd).map numOf, intsAre_map _ fun v hv => ?_, ?_, ?_⟩
  · obtain ⟨q, hq, rfl⟩ := List.mem_map.mp hv
    exact (pr q hq).2
  · have h2 := (hp.map Prod.snd).map numOf
    have hl := hi.length
    rw [List.map_snd_zip (by rw [List.length_map]; omega), num] at h2
    exact h2
  · rw [List.map_map, List.pairwise_map]
    refine hs.imp_of_mem fun {x y} hx hy h => ?_
    have h : x.1 ≤ y.1 := h
    rw [(pr x hx).1, (pr y hy).1] at h
    exact h
/-- sorted(xs, key = f), f a function value: g its value at each item -/
theorem srt_sorted {Q : VK} {l f : Addr} {ns : List Int} (g : Int → Int) (I : L2.Inv X pins σ H s) (hl : SqL X.K H l (ns.map V.int))
    (key : ∀ n ∈ ns, ∀ (t : Tok) (pins' : List (Addr × Obj)) (s' : Shared), L2.Inv X pins' σ H s' →
      wpAny (model X.prog X.w) X.A.in1.in1 (call (.ref f) [.int n t]) (EP X pins' σ fun z H' => z = .int (g n) ∧ H' = H) (fun _ _ => False) s')
    (done : ∀ (ns' : List Int) (p : Addr), ns'.Perm ns → ns'.Pairwise (fun x y => g x ≤ g y) → H p = none → Q (.ref p) (upd H p (.lst (ns'.map V.int)))) :
    wpAny (model X.prog X.w) X.A (call (.builtin "sorted") [.ref l] [(Str.ofString "key", .ref f)]) (EP X pins σ Q) E s := by
  obtain ⟨its, rv, hpl, hmost⟩ := I.list hl
  rw [List.length_map] at hmost
  have hi : IntsAre its ns := rv.ints
  have same := hi.length
  have big : sizeLine = 16777216 := sizeLine_eq
  refine call_function_entry_kw kind_sorted plain_sorted entry_sorted (ksk_s1 _ _) ?_
  unfold Builtin.«sorted»
  refine wpAny_bind (m := checkCount "sorted" 1 1 _) (wpAny_pure ?_)
  refine wpAny_bind (collect_list hpl.isList ?_ (by omega))
  refine wpAny_bind (wpAny_newList ?_ (by omega))
  -- the copy, at the second new place
  generalize hh : (s.heap.push (seqObj "list" #[] 0)).update s.heap.objs.size (Obj.mapSeq (· ++ its.toArray)) = hA
  have szA : hA.objs.size = s.heap.objs.size + 1 := by rw [← hh, Heap.size_update, size_push']
  have oldA : ∀ b o, s.heap.get? b = some o → hA.get? b = some o := fun b o q => by
    have lt := Heap.lt_size q
    rw [← hh, Heap.get?_update_ne _ _ _ _ (Nat.ne_of_lt lt), Heap.get?_push_ne _ _ _ (Nat.ne_of_lt lt)]
    exact q
  show wpAny _ _ _ _ _ { s with heap := hA.push (seqObj "list" its.toArray 0) }
  generalize hD : hA.objs.size = D
  have eD : D = s.heap.objs.size + 1 := by rw [← hD, szA]
  have atD : (hA.push (seqObj "list" its.toArray 0)).get? D = some (seqObj "list" its.toArray 0) := by rw [← hD]; exact Heap.get?_push_size _ rfl
  have gap : s.heap.objs.size ≤ D := by rw [eD]; exact Nat.le_succ _
  have fD : FpOk X pins H D := I.fpOk gap (I.hok.fresh gap)
  generalize hB : hA.push (seqObj "list" its.toArray 0) = hC at atD ⊢
  have oldC : ∀ b o, s.heap.get? b = some o → hC.get? b = some o := fun b o q => by rw [← hB]; exact Heap.get?_push_of_some _ (oldA b o q)
  have ltD : D < hC.objs.size := Heap.lt_size atD
  refine wpAny_bind (wpAny_holding (wpAny_call_entry_kw slot_list_sort ⟨_, atD, rfl⟩ entry_list_sort ?body (ksk_l1 _ _)))
  show wpAny (model X.prog X.w) X.A.in1.in1 (Builtin.«list.sort» ⟨[.ref D], [(Str.ofString "key", .ref f)]⟩) _ _ _
  rw [ksk_t1]
  -- the sort: D is emptied, the items are held by a tuple, the keys by a list
  have only := Heap.SameBut.update hC D (Obj.mapSeq fun _ => (#[] : Array Value))
  have atD2 := get?_update_seq atD fun _ => (#[] : Array Value)
  generalize hE : hC.update D (Obj.mapSeq fun _ => (#[] : Array Value)) = hF at only atD2
  have szF : hF.objs.size = hC.objs.size := by rw [← hE, Heap.size_update]
  unfold ksk_tree
  refine wpAny_bind (listItems_at atD rfl ?_)
  refine wpAny_bind (listUpdate_at atD rfl ?_ (by rw [List.size_toArray]; omega) (Nat.zero_le _))
  rw [hE]
  refine wpAny_bind (seqEpoch_at atD2 rfl ?_)
  refine wpAny_bind (wpAny_newTuple ?_ (by show its.length ≤ _; omega))
  refine wpAny_bind (wpAny_newList ?_ (Nat.zero_le _))
  refine wpAny_holding ?_
  have oldF : ∀ b o, s.heap.get? b = some o → ((hF.push (seqObj "tuple" its.toArray 0)).push (seqObj "list" #[] 0)).get? b = some o := fun b o q => by
    have ne : b ≠ D := Nat.ne_of_lt (Nat.lt_of_lt_of_le (Heap.lt_size q) gap)
    exact Heap.get?_push_of_some _ (Heap.get?_push_of_some _ ((only.2 b ne).trans (oldC b o q)))
  have szK : (hF.push (seqObj "tuple" its.toArray 0)).objs.size = hC.objs.size + 1 := by rw [size_push', szF]
  have gapK : s.heap.objs.size ≤ hC.objs.size + 1 := Nat.le_succ_of_le (Nat.le_trans gap (Nat.le_of_lt ltD))
  refine srt_rest (s := { s with heap := (hF.push (seqObj "tuple" its.toArray 0)).push (seqObj "list" #[] 0) }) (kS := (hF.push (seqObj "tuple" its.toArray 0)).objs.size) (kz := ns.map g)
    (I.kept (t' := s.toks) oldF) (Heap.get?_push_size _ rfl) (Heap.get?_push_of_some _ (Heap.get?_push_of_some _ atD2)) (by rw [szK]; exact I.fpOk gapK (I.hok.fresh gapK)) fD (by rw [szK]; exact Nat.ne_of_gt (Nat.lt_succ_of_lt ltD))
    (by rw [List.length_map, same]) (by omega) (fun i v k hv hk pins' s' I' => ?_) fun s' out c I' na' ko => ⟨_, rfl, ?_⟩
  · rw [List.getElem?_map] at hk
    obtain ⟨n, hn, rfl⟩ := Option.map_eq_some_iff.mp hk
    obtain ⟨t, ht⟩ := hi.get i n hn
    rw [ht] at hv
    cases hv
    exact key n (List.mem_of_getElem? hn) t pins' s' I'
  · obtain ⟨ms, h1, h2, h3⟩ := out_nums hi ko
    have few : (ms.map V.int).length ≤ sizeLine := by rw [List.length_map, h2.length_eq]; exact hmost
    have new : ObjOk X.prog X.w (upd H D (.lst (ms.map V.int))) s'.heap D (.lst (ms.map V.int)) := ⟨few, out.toList, c, vals_of_ints h1, by rw [na']⟩
    exact wpAny_pure ⟨_, rfl, .ref D, _, inv_adopt I' fD new, rfl, done ms D h2 h3 fD.1⟩
end
end Rs
end
section
set_option Elab.async false
set_option linter.all false
set_option maxRecDepth 100000
set_option maxHeartbeats 2000000
namespace Rs
open PySem PySem.Spec PyProof.Rows L2
section
variable {X : Cx} {params : Arguments} {body : Expr} {scope : Scope} {lpos kpos p pos : Pos} {c P : Addr} {e : Expr} {N : List Str} {x : Str} {k : Nat} {te tb : TE} {K : PySem.W.Frag}
/-- sorted(e, key = lambda x: body) -/
def rSortLam (X : Cx) (K : PySem.W.Frag) (params : Arguments) (body : Expr) (scope : Scope) (lpos : Pos) (P : Addr) (N : List Str) (x : Str) (tb : TE) (σ : L2.St) (Q : VK) (v : V) (H1 : Hp) : Prop := LamT (X.env.qual ++ "<lambda>") lpos P H1 ∧ ∃ (l : Addr) (ns : List Int), v = .ref l ∧ SqL K H1 l (ns.map V.int) ∧
  ∃ (g : Int → Int) (σl : Int → L2.St), (∀ n, (σl n).length = N.length ∧ ∀ (i : Nat) (y : Str) (z : V), N[i]? = some y → (σl n)[i]? = some (some z) → (y = x ∧ z = .int n) ∨ (scope.names.lookup y = some .free ∧ Vis X.env.scope y ∧ ∃ j : Nat, X.N[j]? = some y ∧ σ[j]? = some (some z))) ∧
    ∀ f H2, LamMade X params body scope lpos P H1 H2 f → (∀ n ∈ ns, tb (σl n) H2 fun z H' => z = .int (g n) ∧ H' = H2) ∧
      ∀ (ns' : List Int) (q : Addr), ns'.Perm ns → ns'.Pairwise (fun a b => g a ≤ g b) → H2 q = none → Q (.ref q) (upd H2 q (.lst (ns'.map V.int)))
def tSortLam (X : Cx) (K : PySem.W.Frag) (params : Arguments) (body : Expr) (scope : Scope) (lpos : Pos) (P : Addr) (N : List Str) (x : Str) (te tb : TE) : TE := fun σ H Q => te σ H (rSortLam X K params body scope lpos P N x tb σ Q)
theorem pe_sortLam (hK : X.K = K) (hc : X.env.code = .ref c) (C : PySem.W.CodeHd X.base c P) (hB : X.base.BuiltinsAt X.mg P) (hcalm : X.calm = true) (hr : Room (k + 3) X.A)
    (hg : Gl X "sorted") (hm : X.mg "sorted" = none)
    (hk : scope.kind = .function) (hco : scope.isCoroutine = false) (hgen : scope.isGenerator = false) (hcell : ∀ y ∈ scope.names, y.2 ≠ .cell) (hx : scope.names.lookup x = some .local)
    (hfree : ∀ y ∈ scope.names, y.2 = .free → X.env.kindOf y.1 = some .cell) (hdef : defaultsOf params X.env = ([], []))
    (hbind : ∀ (q : Str) (cl : List (Str × Addr)) (pm cdv ct u : Value), bindArgs (PySem.W.kla_fn "<lambda>" q params body scope cl pm cdv ct) ⟨[u], []⟩ = pure [(x, u)])
    (he : PE X e te) (hb : ∀ (A : Around) (s : Shared) (H : Hp) (f c : Addr), Room k (A.deeper (lamEnv (X.env.qual ++ "<lambda>") scope s.heap.objs.size f c (cloFrom X.env.cells scope.names []))) → PE (lamCx X A N s H scope f c) body tb)
    (hs : starEach [e] X.env = [(false, eval e X.env)] := by rfl) :
    PE X (.Call (.Name "sorted" p) [e] [⟨some (Str.ofString "key"), .Lambda params body scope lpos, kpos⟩] pos) (tSortLam X K params body scope lpos P N x te tb) := by
  subst hK
  intro pins s σ H Q I h
  refine wpAny_Call_Name_kw (ld_blt I hg hm PyProof.Rows.boot_sorted ?_)
  have hA := (pa_cons he pa_nil (hs := hs)) pos pins s σ H (fun vs H1 => ∃ v, vs = [v] ∧ rSortLam X X.K params body scope lpos P N x tb σ Q v H1) I (by
    show te σ H fun v H1 => ∃ v', [v] = [v'] ∧ rSortLam X X.K params body scope lpos P N x tb σ Q v' H1
    have e2 : (fun v H1 => ∃ v', [v] = [v'] ∧ rSortLam X X.K params body scope lpos P N x tb σ Q v' H1) = rSortLam X X.K params body scope lpos P N x tb σ Q := by
      funext v H1
      refine propext ⟨fun ⟨v', e, q⟩ => ?_, fun q => ⟨v, rfl, q⟩⟩
      cases e
      exact q
    rw [e2]
    exact h)
  rw [hs] at hA ⊢
  refine callWith_builtin_kwB (first := []) rfl rfl (evalArgs_kwB rfl (thn hA fun us s1 hq => ?_))
  obtain ⟨vs, H1, I1, r1, v, rfl, hT, l, ns, rfl, hl, g, σl, hσ, hq⟩ := hq
  have eu : us = [.ref l] := by
    cases r1 with
    | cons q t => cases t; cases q; rfl
  subst eu
  have hP1 : ∀ b xs, SqL X.K H1 b xs → ∀ H2, (∀ b o, b ≠ P → H1 b = some o → H2 b = some o) → SqL X.K H2 b xs := fun b xs hS H2 sm => by
    have nb : ∀ o, H1 b = some o → (∀ ps, o ≠ .tbl ps) → b ≠ P := fun o e ne z => by
      rcases hT with t | ⟨_, t, _⟩ <;> (rw [z, t] at e; cases e; exact ne _ rfl)
    rcases hS with (q | ⟨o, q⟩) | q
    · exact .inl (.inl (sm _ _ (nb _ q fun _ z => by cases z) q))
    · exact .inl (.inr ⟨o, sm _ _ (nb _ q fun _ z => by cases z) q⟩)
    · exact .inr q
  refine thn ((pk_cons (pe_lam hc C hB hdef hfree) pk_nil) pos pins s1 σ H1 (fun zs H2 => ∃ f, zs = [.ref f] ∧ LamMade X params body scope lpos P H1 H2 f) I1 ⟨hT, fun f H2 hM => ⟨f, rfl, hM⟩⟩) fun ks s2 hz => ?_
  obtain ⟨zs, H2, I2, r2, f, rfl, hM⟩ := hz
  have ek : ks = [.ref f] := by
    cases r2 with
    | cons q t => cases t; cases q; rfl
  subst ek
  obtain ⟨h1, h2⟩ := hq f H2 hM
  obtain ⟨c', ctv, m1, m2, m3⟩ := hM.at_
  show wpAny _ _ (call (.builtin "sorted") [.ref l] [(Str.ofString "key", .ref f)]) _ _ _
  refine srt_sorted g I2 (hP1 l _ hl H2 hM.same) (fun n hn t pins' s' I' => ?_) h2
  have hr1 : Room (k + 1) X.A.in1.in1 := (hr.in1).in1
  refine wpAny_call (codeAny_mono (lam_run (A := X.A.in1.in1) (N := N) (σl := σl n) (v := .int n) (u := .int n t) (tb := tb) (Q := fun z H' => z = .int (g n) ∧ H' = H2) I' hr1.hd I'.ok.frames hr1.depth m3 m2 hk hco hgen hcell hbind hx hfree (hσ n).1 (hσ n).2 ⟨t, rfl⟩ (hb _ _ _ _ _ (hr1.deeper _)) (h1 n hn)) fun r s'' hr => ?_)
  obtain ⟨z, rfl, ep⟩ := hr
  exact ep
end
end Rs
end
section
set_option Elab.async false
set_option linter.all false
set_option maxRecDepth 100000
set_option maxHeartbeats 2000000
namespace Rs
open PySem PySem.Spec PyProof.Rows L2
open Vbhoam (Likes)
section
variable {P : Program} {w : World} {K : PySem.W.Frag} {mg : Str → Option Value} {base : Heap}
theorem nocell_by {scope : Scope} (h : (scope.names.all fun y => !decide (y.2 = .cell)) = true) : ∀ y ∈ scope.names, y.2 ≠ .cell := fun y hy e => by
  have := List.all_eq_true.mp h y hy
  rw [decide_eq_true e] at this
  cases this
theorem hfree_by {scope sc : Scope} (h : (scope.names.all fun y => !decide (y.2 = .free) || decide (sc.names.lookup y.1 = some .cell)) = true) : ∀ y ∈ scope.names, y.2 = .free → sc.names.lookup y.1 = some .cell := fun y hy e => by
  have := List.all_eq_true.mp h y hy
  rw [decide_eq_true e] at this
  exact of_decide_eq_true this
structure AtC (K : PySem.W.Frag) (mg : Str → Option Value) (x : Str) (st : Stmt) (ps : List Str) (c : Addr) : Prop where
  ex : ∃ (f : Addr) (fd : FuncData), Fun K x x st f fd ∧ mg x = some (.ref f) ∧ Binds K fd ps [] ∧ fd.code = .ref c
theorem Dn.ofC {x : Str} {st : Stmt} {N ps : List Str} {k : Nat} {sp : Sp} {c : Addr} (F : AtC K mg x st ps c) (S : FnScope N ps (defScope st)) (len : ∀ vs H Q E, sp vs H Q E → vs.length = ps.length)
    (hbody : ∀ (f : Addr) (A : Around) (outer : List Env) (s : Shared) (H : Hp) (vs : List V) (Q : VK) (E : XK), Room k (A.deeper (envOfC x (defScope st) s.heap.objs.size f (.ref c))) → sp vs H Q E →
      ∃ t, PSs (cxOf CX0 P w K mg base N x (defScope st) f (.ref c) A outer s H E).nox (defBody st) t ∧ t { nx := fun _ H' => Q .non H', rt := Q } (start N vs) H) : Dn P w K mg base x (k + 1) ps sp := by
  obtain ⟨f, fd, F1, F2, F3, F4⟩ := F.ex
  obtain ⟨oc, od, kV, doc, pm, an, cdv, ct, osl, rfl, lk, hcd⟩ := F1.ex
  have e : cdv = .ref c := F4
  subst e
  refine ⟨f, _, fn_of lk hcd S len (fun A outer s H vs Q E hr hsp => ?_), F2, F1.kp, F3⟩
  obtain ⟨t, h, q⟩ := hbody f A outer s H vs Q E hr hsp
  exact ⟨t, h.nox, q⟩
/-- where the lambda of a def's last row stands -/
def lamPosOf (s : Stmt) : Pos := match (defBody s).getLast? with
  | some (.Return (some (.Call _ _ [⟨_, .Lambda _ _ _ p, _⟩] _)) _) => p
  | _ => ⟨0, 0, 0, 0⟩
def lamQual : Str := Str.ofString "best_first" ++ Str.ofString ".<locals>." ++ Str.ofString "<lambda>"
abbrev LT (P : Addr) (H : Hp) : Prop := LamT lamQual (lamPosOf s_best_first) P H
/-- all but the table of the lambda's code is as it was -/
def SameT (P : Addr) (H H' : Hp) : Prop := ∀ b o, b ≠ P → H b = some o → H' b = some o
theorem LT.mono {P : Addr} {H H' : Hp} (s : Same H H') (h : LT P H) : LT P H' := by
  rcases h with h | ⟨c, h1, h2⟩
  · exact .inl (s _ _ h)
  · exact .inr ⟨c, s _ _ h1, s _ _ h2⟩
theorem LT.at_ {P : Addr} {H : Hp} (h : LT P H) : ∃ ps, H P = some (.tbl ps) := by
  rcases h with h | ⟨c, h1, h2⟩
  · exact ⟨_, h⟩
  · exact ⟨_, h1⟩
theorem LT.ne {P b : Addr} {H : Hp} {xs : List V} (h : LT P H) (hb : H b = some (.lst xs)) : b ≠ P := fun e => by
  obtain ⟨ps, hp⟩ := h.at_
  rw [e, hp] at hb
  cases hb
theorem LL.monoT {P : Addr} {H H' : Hp} {a : Addr} {L : List (List Nat)} (t : LT P H) (s : SameT P H H') (h : LL H a L) : LL H' a L := by
  obtain ⟨as, h1, h2⟩ := h
  exact ⟨as, s _ _ (t.ne h1) h1, paired_mono (fun b l e => s _ _ (t.ne e) e) h2⟩
theorem ints_nv (ns : List Nat) : (ns.map fun (n : Nat) => (n : Int)).map V.int = nv ns := by
  unfold nv
  rw [List.map_map]
  rfl
theorem perm_nat {ns' : List Int} {ns : List Nat} (h : ns'.Perm (ns.map fun (n : Nat) => (n : Int))) : ∃ ms : List Nat, ns' = ms.map (fun (n : Nat) => (n : Int)) ∧ ms.Perm ns := by
  refine ⟨ns'.map Int.toNat, ?_, ?_⟩
  · rw [List.map_map]
    have : ns'.map ((fun (n : Nat) => (n : Int)) ∘ Int.toNat) = ns'.map id := List.map_congr_left fun x hx => by
      obtain ⟨n, _, rfl⟩ := List.mem_map.mp (h.mem_iff.mp hx)
      rfl
    rw [this, List.map_id]
  · have := h.map Int.toNat
    rw [List.map_map] at this
    have e : ns.map (Int.toNat ∘ fun (n : Nat) => (n : Int)) = ns.map id := List.map_congr_left fun x _ => rfl
    rw [e, List.map_id] at this
    exact this
theorem freeT {P p : Addr} {H H' : Hp} (t : LT P H) (s : SameT P H H') (t' : LT P H') (h : H' p = none) : H p = none := by
  cases e : H p with
  | none => rfl
  | some o =>
    by_cases z : p = P
    · obtain ⟨ps, hp⟩ := t'.at_
      rw [← z, h] at hp
      cases hp
    · rw [s p o z e] at h
      cases h
/-- others by their places on the guest's list -/
def spBest (PT : Addr) : Sp := fun vs H Q _ => ∃ (a b : Addr) (l : Likes) (g : Nat) (L : List Nat), vs = [.ref a, .int g, .ref b] ∧ Lists H a l ∧ Valid l ∧ g ∈ Vbhoam.guests l ∧ LT PT H ∧ H b = some (.lst (nv L)) ∧
  ∀ H' p ms, SameT PT H H' → LT PT H' → H p = none → ms.Perm L → ms.Pairwise (fun x y => Vbhoam.rank l g x ≤ Vbhoam.rank l g y) → H' p = some (.lst (nv ms)) → Q (.ref p) H'
theorem d_best_first {c PT : Addr} (T : Txt K mg) (F : AtC K mg "best_first" s_best_first ["lists", "guest", "others"] c) (hC : PySem.W.CodeHd base c PT) (hB : base.BuiltinsAt mg PT) : Dn P w K mg base "best_first" 5 ["lists", "guest", "others"] (spBest PT) := by
  have D_place_on_list := d_place_on_list (P := P) (w := w) (base := base) T
  refine Dn.ofC F sc_best_first (fun vs H Q E h => ?_) (fun f A outer s H vs Q E hr h => ?_)
  · obtain ⟨a, b, l, g, L, rfl, _⟩ := h
    rfl
  · obtain ⟨a, p2, l, g, col, rfl, hL, hV, hg, T2, hp22, k⟩ := h
    refine ⟨_, (pss_one (ps_ret (pe_sortLam (K := K) (N := ["other", "lists", "guest"]) (x := "other") (k := 1) rfl rfl hC hB rfl (hr.mono (by decide)) rfl T.b_sorted rfl rfl rfl (nocell_by (by decide +kernel)) rfl (hfree_by (sc := defScope s_best_first) (by decide +kernel)) rfl (fun _ _ _ _ _ _ => rfl) (pv 2) (fun _ _ _ _ _ hrl => (pe_callD D_place_on_list (hrl.mono (by decide)) rfl (pa_cons (pe_ix (ix_listK (K := K) rfl) (pv 1) (pv 2) (fun _ _ => rfl)) (pa_cons (pv 0) pa_nil))))))), ?_⟩
    refine ⟨_, rfl, T2, p2, col.map (fun (n : Nat) => (n : Int)), rfl, (by rw [ints_nv]; exact SqL.of hp22), fun n => ((Vbhoam.listOf l g).findIdx (· == n.toNat) : Nat), fun n => [some (.int n), some (.ref a), some (.int g)], fun n => ⟨rfl, ?_⟩, fun fl H3 hM => ⟨?_, ?_⟩⟩
    · intro i y z e1 e2
      match i, e1, e2 with
      | 0, e1, e2 =>
        have e1 := Option.some.inj e1
        have e2 := Option.some.inj (Option.some.inj e2)
        exact .inl ⟨e1.symm, e2.symm⟩
      | 1, e1, e2 =>
        have e1 := Option.some.inj e1
        have e2 := Option.some.inj (Option.some.inj e2)
        subst e1 e2
        exact .inr ⟨rfl, Or.inr (Or.inl rfl), 0, rfl, rfl⟩
      | 2, e1, e2 =>
        have e1 := Option.some.inj e1
        have e2 := Option.some.inj (Option.some.inj e2)
        subst e1 e2
        exact .inr ⟨rfl, Or.inr (Or.inl rfl), 1, rfl, rfl⟩
      | i + 3, e1, e2 => simp at e1
    · intro n hn
      obtain ⟨m, hm, rfl⟩ := List.mem_map.mp hn
      have L3 : Lists H3 a l := LL.monoT T2 hM.same hL
      obtain ⟨xs, b, h1, h2, h3⟩ := L3.at_ hg
      exact ⟨_, rfl, _, rfl, a, xs, _, _, rfl, rfl, SqL.of h1, h2, _, rfl, b, _, m, rfl, SqL.of h3, rfl, rfl⟩
    · intro ns' q4 hperm hpw hq4
      obtain ⟨ms, rfl, hms⟩ := perm_nat hperm
      have hpw2 : ms.Pairwise fun x y => Vbhoam.rank l g x ≤ Vbhoam.rank l g y := by
        rw [List.pairwise_map] at hpw
        refine hpw.imp fun {x y} h => ?_
        rw [rank_eq hV hg, rank_eq hV hg]
        exact Int.ofNat_le.mp h
      have T3 : LT PT H3 := hM.t
      have s4 := same_upd (o := .lst ((ms.map fun (n : Nat) => (n : Int)).map V.int)) hq4
      refine k _ q4 ms (fun b o hb eb => s4 _ _ (hM.same b o hb eb)) (T3.mono s4) (freeT T2 hM.same T3 hq4) hms hpw2 (by rw [upd_same, ints_nv])
end
end Rs
end
section
set_option Elab.async false
set_option linter.all false
set_option maxRecDepth 100000
set_option maxHeartbeats 2000000
namespace Rs
open PySem PySem.Spec PyProof.Rows L2
open Vbhoam (Likes)
section
variable {P : Program} {w : World} {K : PySem.W.Frag} {mg : Str → Option Value} {base : Heap}
def spTPart (PT : Addr) : Sp := fun vs H Q _ => ∃ (a : Addr) (l : Likes) (g : Nat), vs = [.ref a, .int g] ∧ Lists H a l ∧ Valid l ∧ g ∈ Vbhoam.guests l ∧ LT PT H ∧
  ∀ H' p, SameT PT H H' → LT PT H' → H p = none → H' p = some (.lst (nv ((Vbhoam.partners l g).length :: Vbhoam.partners l g))) → Q (.ref p) H'
theorem d_tell_partners {c PT : Addr} (T : Txt K mg) (F : AtC K mg "best_first" s_best_first ["lists", "guest", "others"] c) (hC : PySem.W.CodeHd base c PT) (hB : base.BuiltinsAt mg PT) : Dn P w K mg base "tell_partners" 7 ["lists", "guest"] (spTPart PT) := by
  have D_stable_pairings := d_stable_pairings (P := P) (w := w) (base := base) T
  have D_best_first := d_best_first (P := P) (w := w) (base := base) T F hC hB
  have D_counted := d_counted (P := P) (w := w) (base := base) T
  refine Dn.of T.f_tell_partners sc_tell_partners (fun vs H Q E h => ?_) (fun f cdv A outer s H vs Q E hr h => ?_)
  · obtain ⟨a, l, g, rfl, _⟩ := h
    rfl
  · obtain ⟨a, l, g, rfl, hL, hV, hg, hT, k⟩ := h
    refine ⟨_, (pss_cons (ps_set (i := 2) sc_tell_partners.nd rfl (Or.inl rfl) (pe_lst pa_nil))
      (pss_cons (ps_for PassesOwn.never rfl (pi_list (pe_callD D_stable_pairings (hr.mono (by decide)) rfl (pa_cons (pv 0) pa_nil))) (pg_name (i := 3) sc_tell_partners.nd rfl (Or.inl rfl))
        (pss_cons (ps_set (i := 4) sc_tell_partners.nd rfl (Or.inl rfl) (pe_ix ix_list (pv 3) (pe_op op_sub (pv 1) pe_int) (fun _ _ => rfl)))
      (pss_one (ps_if (pt_cmpR op_notIn_seq (pv 4) (pv 2) (by with_unfolding_all rfl)) (pss_one (ps_expr (pe_bm PySem.F.plainAttrs_list PySem.F.slot_list_append PySem.F.type_list_append mt_append (pv 2) (pa_cons (pv 4) pa_nil)))) pss_nil))))
      (pss_one (ps_ret (pe_callD D_counted (hr.mono (by decide)) rfl (pa_cons (pe_callD D_best_first (hr.mono (by decide)) rfl (pa_cons (pv 0) (pa_cons (pv 1) (pa_cons (pv 2) pa_nil)))) pa_nil)))))), ?_⟩
    have hg' := mem_guests.mp hg
    have hf := hV.few
    refine ⟨Nat.zero_le _, fun p2 hp2 => ?_⟩
    have s0 := same_upd (o := .lst []) hp2
    refine ⟨_, rfl, a, l, rfl, hL.mono s0, hV, fun H1 q s1 hq LQ => ?_⟩
    have s01 := s0.trans s1
    obtain ⟨as, g1, g2⟩ := LQ
    have hap : ∀ b ∈ as, b ≠ p2 := fun b hb e => by
      obtain ⟨r, hr1, hr2⟩ := paired_in2 g2 hb
      have hr3 := stable_len hr1
      have h0 : H1 p2 = some (.lst []) := s1 _ _ upd_same
      rw [e, h0] at hr2
      have hr4 : ([] : List V) = nv r := by injection hr2 with hr2; injection hr2
      have hr5 := congrArg List.length hr4
      rw [nv_len] at hr5
      have hr5 : 0 = r.length := hr5
      omega
    refine ⟨q, rfl, ⟨_, SqL.of g1⟩, for_list (K := K) (a := q) (xs := as.map V.ref)
      (fun i σ H2 => ∃ v3 v4 : Option V, σ = [some (.ref a), some (.int g), some (.ref p2), v3, v4] ∧ Same H H2 ∧ Paired (fun b l => H2 b = some (.lst (nv l))) as (Vbhoam.stables l) ∧ H2 q = some (.lst (as.map V.ref)) ∧ H2 p2 = some (.lst (nv (collect (((Vbhoam.stables l).take i).map fun m => Vbhoam.partner m g)))))
      ⟨none, none, rfl, s01, g2, g1, s1 _ _ upd_same⟩ (fun i σ H2 _ ⟨_, _, _, _, _, h5, _⟩ => SqL.of h5) ?_ ?_⟩
    · rintro i x σ H2 hx ⟨v3, v4, rfl, s2, a2, hq2, hp22⟩
      obtain ⟨b, r, rfl, hr', hb⟩ := LL.turn a2 hx
      have hrl : r.length = l.length := stable_len (List.mem_of_getElem? hr')
      refine ⟨_, rfl, _, rfl, _, _, rfl, rfl, b, _, _, _, rfl, rfl, SqL.of hb, nv_partner hg'.1 (by omega) rfl, ?_⟩
      refine ⟨_, rfl, _, rfl, p2, _, rfl, .inl (SqL.of hp22), rfl, nv_flat _, _, rfl, ?_⟩
      show if (!inV (.int ((Vbhoam.partner r g : Nat) : Int)) (nv _)) = true then _ else _
      rw [nv_in]
      have ecol : collect (((Vbhoam.stables l).take (i + 1)).map fun m => Vbhoam.partner m g) = if (collect (((Vbhoam.stables l).take i).map fun m => Vbhoam.partner m g)).contains (Vbhoam.partner r g) then collect (((Vbhoam.stables l).take i).map fun m => Vbhoam.partner m g) else collect (((Vbhoam.stables l).take i).map fun m => Vbhoam.partner m g) ++ [Vbhoam.partner r g] := by
        rw [take_snoc hr', List.map_append]
        exact collect_snoc _ _
      cases e1 : (collect (((Vbhoam.stables l).take i).map fun m => Vbhoam.partner m g)).contains (Vbhoam.partner r g) with
      | true =>
        rw [e1, if_pos rfl] at ecol
        refine ⟨_, _, rfl, s2, a2, hq2, ?_⟩
        rw [ecol]
        exact hp22
      | false =>
        rw [e1, if_neg (by simp)] at ecol
        have clen : (collect (((Vbhoam.stables l).take i).map fun m => Vbhoam.partner m g)).length ≤ 7 + 1 := collect_len fun x hx => by
          obtain ⟨m, hm, rfl⟩ := List.mem_map.mp hx
          rcases stable_partner hV (List.mem_of_mem_take hm) hg with z | z
          · omega
          · have := mem_guests.mp (hV.one g hg _ z).1
            omega
        have nq : q ≠ p2 := fun e => by
          rw [e] at hq
          rw [upd_same] at hq
          cases hq
        refine ⟨_, rfl, .inl ⟨rfl, _, SqL.of hp22⟩, _, rfl, p2, _, _, rfl, rfl, hp22, ?_, _, _, rfl, same_upd2 s2 hp2, paired_upd a2 hap, ?_, ?_⟩
        · rw [nv_len]
          exact Nat.lt_of_le_of_lt clen (by decide)
        · rw [upd_ne nq]; exact hq2
        · rw [upd_same, ecol, nv_app]
          rfl
    · rintro σ H2 ⟨v3, v4, rfl, s2, LQ2, hq2, hp22⟩
      rw [List.length_map, g2.length, List.take_length] at hp22
      generalize hcol : collect ((Vbhoam.stables l).map fun m => Vbhoam.partner m g) = col at hp22
      have T2 := hT.mono s2
      have L2' := hL.mono s2
      refine ⟨_, rfl, _, rfl, _, rfl, a, p2, l, g, col, rfl, L2', hV, hg, T2, hp22, fun H3 q4 ms sT3 T3 hq4 hms hpw h4 => ?_⟩
      rw [← hcol] at hms
      have e := partners_eq hV hg hms hpw
      refine ⟨q4, ms, rfl, h4, ?_, fun H6 p4 s6 hp4 h6 => ?_⟩
      · rw [hms.length_eq]
        refine Nat.le_trans (collect_len (n := 7) fun x hx => ?_) (by decide)
        obtain ⟨m, hm, rfl⟩ := List.mem_map.mp hx
        rcases stable_partner hV hm hg with z | z
        · omega
        · have := mem_guests.mp (hV.one g hg _ z).1
          omega
      · have sT : SameT PT H H6 := fun b o hb eb => s6 _ _ (sT3 b o hb (s2 _ _ eb))
        exact k H6 p4 sT (T3.mono s6) (s2.free (freeT T2 sT3 T3 hp4)) (by rw [h6, e])
end
end Rs
end
section
set_option Elab.async false
set_option linter.all false
set_option maxRecDepth 100000
set_option maxHeartbeats 2000000
/-! A dict of the top that is only read: its keys whole numbers. -/
namespace Rs
open PySem PySem.Spec PyProof.Rows L2
def kdPairs : List DictEntry → Option (List (Int × Value))
  | [] => some []
  | e :: r => match e.key with
    | .int k _ => if e.hash = hashInt k then (kdPairs r).map ((k, e.val) :: ·) else none
    | _ => none
structure KD (K : PySem.W.Frag) (d : Addr) (vs : List (Int × Value)) : Prop where
  sys : (d == sysModules) = false
  at_ : ∃ es n, K.lookup d = some { cls := .type "dict", data := .dict es n } ∧ kdPairs es.toList = some vs
  nd : (vs.map (·.1)).Nodup
theorem kd_pairs {P : Program} {w : World} : ∀ {es : List DictEntry} {vs : List (Int × Value)}, kdPairs es = some vs → (∀ e ∈ es, ∃ k, (mixKind P w).is k e.key = true ∧ e.hash = (mixKind P w).hash k) ∧ PySem.Pairs (mixKind P w) es (vs.map fun kv => (Sum.inl kv.1, kv.2))
  | [], vs, h => by
    cases h
    exact ⟨fun e he => absurd he (by simp), .nil⟩
  | e :: r, vs, h => by
    unfold kdPairs at h
    split at h
    · rename_i k t hk
      split at h
      · rename_i hh
        obtain ⟨ws, hw, rfl⟩ := Option.map_eq_some_iff.mp h
        obtain ⟨h1, h2⟩ := kd_pairs (P := P) (w := w) hw
        refine ⟨fun e' he => ?_, .cons ?_ rfl h2⟩
        · rcases List.mem_cons.mp he with z | z
          · rw [z]
            exact ⟨Sum.inl k, by rw [hk]; exact mixKind_int P w k t, hh⟩
          · exact h1 e' z
        · rw [hk]; exact mixKind_int P w k t
      · cases h
    · cases h
theorem nodup_inl : ∀ {ks : List Int}, ks.Nodup → (ks.map fun k => (Sum.inl k : L2.Key)).Nodup
  | [], _ => List.nodup_nil
  | k :: ks, h => by
    have h := List.nodup_cons.mp h
    refine List.nodup_cons.mpr ⟨fun m => h.1 ?_, nodup_inl h.2⟩
    obtain ⟨k', hk, e⟩ := List.mem_map.mp m
    cases e
    exact hk
theorem KD.dictOf {P : Program} {w : World} {K : PySem.W.Frag} {d : Addr} {vs : List (Int × Value)} (D : KD K d vs) {h : Heap} (hi : K.In h) : h.DictOf (mixKind P w) d (vs.map fun kv => ((Sum.inl kv.1 : L2.Key), kv.2)) := by
  obtain ⟨es, n, h1, h2⟩ := D.at_
  obtain ⟨q1, q2⟩ := kd_pairs (P := P) (w := w) h2
  refine ⟨_, es, n, hi _ _ h1, ⟨rfl, rfl, rfl⟩, rfl, fun e he => q1 e (by simpa using he), q2, ?_⟩
  rw [List.map_map]
  have := nodup_inl D.nd
  rw [List.map_map] at this
  exact this
theorem valueAt_inl (k : Int) : ∀ vs : List (Int × Value), valueAt (vs.map fun kv => ((Sum.inl kv.1 : L2.Key), kv.2)) (Sum.inl k) = vs.lookup k
  | [] => rfl
  | (a, v) :: r => by
    have ih := valueAt_inl k r
    rw [List.lookup_cons]
    by_cases e : a = k
    · subst e
      rw [beq_self_eq_true]
      simp [valueAt]
    · rw [show (k == a) = false from beq_false_of_ne fun z => e z.symm]
      rw [← ih]
      simp [valueAt, List.find?_cons, e]
/-- a name of the top that holds such a dict -/
def KG (K : PySem.W.Frag) (mg : Str → Option Value) (x : Str) (vs : List (Int × Value)) : Prop := ∃ d, mg x = some (.ref d) ∧ KD K d vs
def tKGet (vs : List (Int × Value)) (ty : TE) : TE := fun σ H Q => ty σ H fun y H1 => ∃ k u v, y = .int k ∧ vs.lookup k = some u ∧ RelV v u ∧ Q v H1
def tKIn (vs : List (Int × Value)) (ty : TE) : TE := fun σ H Q => ty σ H fun y H1 => ∃ k, y = .int k ∧ Q (.bl (vs.lookup k).isSome) H1
section
variable {X : Cx} {x : Str} {vs : List (Int × Value)} {i : Expr} {p pos : Pos} {ty : TE}
theorem pe_dgetK (D : KG X.K X.mg x vs) (hi : PE X i ty) (hg : Gl X x := by rfl) (hs : L2.NoSl i := by intro _ _; rfl) (hd : (x == ("__debug__" : Str)) = false := by decide) : PE X (.Subscript (.Name x p) i pos) (tKGet vs ty) := by
  intro pins s σ H Q I h
  obtain ⟨d, hm, D⟩ := D
  refine L2.subD_of PySem.F.slot_dict_getitem.lookup hs (ld_glob I hg hm ?_ hd)
  refine thn (hi pins s σ H _ I h) fun iv s2 ⟨y, H2, I2, ry, k, u, v, ey, hl, rv, q2⟩ => ?_
  subst ey
  obtain ⟨t, rfl⟩ := ry
  have dd := D.dictOf (P := X.prog) (w := X.w) I2.kIn
  exact ⟨dd.typeIs, wpAny_getItem_of (mixKind_int X.prog X.w k t) dd.mapOf (by rw [valueAt_inl]; exact hl) ⟨v, H2, I2.tok _, rv, q2⟩⟩
theorem pc_dinK (D : KG X.K X.mg x vs) (hi : PE X i ty) (hg : Gl X x := by rfl) (hd : (x == ("__debug__" : Str)) = false := by decide) : PC X .In i (.Name x p) (tKIn vs ty) := by
  intro pins s σ H Q I h
  obtain ⟨d, hm, D⟩ := D
  refine thn (hi pins s σ H _ I h) fun iv s1 ⟨y, H1, I1, ry, k, ey, q1⟩ => ld_glob I1 hg hm ?_ hd
  subst ey
  obtain ⟨t, rfl⟩ := ry
  have dd := D.dictOf (P := X.prog) (w := X.w) I1.kIn
  refine wpAny_in_of (mixKind_int X.prog X.w k t) D.sys dd.mapOf ?_
  rw [valueAt_inl]
  exact ⟨.bl _, H1, I1.tok _, rfl, q1⟩
theorem pt_dinK (D : KG X.K X.mg x vs) (hi : PE X i ty) (hg : Gl X x := by rfl) (hd : (x == ("__debug__" : Str)) = false := by decide) (h1 : behindInMarks .In (.Name x p) = false := by with_unfolding_all rfl) : PT X (.Compare i [.In] [.Name x p] pos) (tB (tKIn vs ty)) :=
  pt_cmp (pc_dinK D hi hg hd) h1
end
/-! ### the tables of calls.py -/
def rangesOf : Nat → List (Int × Int)
  | 0 => [(1, 7)] | 1 => [(1, 7)] | 6 => [(1, 7)] | 8 => [(1, 1000)] | 9 => [(1, 1000), (1, 1000), (1, 1000)] | 11 => [(0, 50)] | 12 => [(1, 7), (0, 7), (0, 7)] | 15 => [(1, 7), (1, 7)]
  | _ => []
def longest : Nat → Option Nat
  | 1 => some 6 | 4 => some 7 | 5 => some 7 | 10 => some 7 | 11 => some 7 | 13 => some 7
  | _ => none
/-- a tuple of the top -/
def SqK (K : PySem.W.Frag) (a : Addr) (xs : List V) : Prop := ∃ (o : Obj) (its : Array Value) (n : Nat), K.lookup a = some o ∧ o.cls = .type "tuple" ∧ o.data = .seq its n ∧ its.size ≤ sizeLine ∧ Vals xs its.toList
theorem SqK.t {K : PySem.W.Frag} {a : Addr} {xs : List V} (h : SqK K a xs) (H : Hp) : SqT K H a xs := .inr h
structure Dicts (K : PySem.W.Frag) (mg : Str → Option Value) (rv lv : List (Int × Value)) : Prop where
  k_NUMBER_RANGES : KG K mg "NUMBER_RANGES" rv
  k_LONGEST_ROWS : KG K mg "LONGEST_ROWS" lv
  rs : ∀ c : Nat, c ≤ 16 → ∃ (r : Addr) (as : List Addr), rv.lookup (c : Int) = some (.ref r) ∧ SqK K r (as.map V.ref) ∧ Paired (fun a (q : Int × Int) => SqK K a [.int q.1, .int q.2]) as (rangesOf c)
  ls : ∀ c : Nat, c ≤ 16 → match longest c with
    | none => lv.lookup (c : Int) = none
    | some n => ∃ t, lv.lookup (c : Int) = some (.int (n : Int) t)
end Rs
end
section
set_option Elab.async false
set_option linter.all false
set_option maxRecDepth 100000
set_option maxHeartbeats 2000000
/-! The tables of calls.py, looked up in what the top has written. -/
namespace Rs
open PySem PySem.Spec PyProof.Rows L2
def tupOf (K : PySem.W.Frag) (a : Addr) : Option (List Value) := match K.lookup a with
  | some o => match o.cls, o.data with
    | .type t, .seq its _ => if t = "tuple" ∧ its.size ≤ sizeLine then some its.toList else none
    | _, _ => none
  | none => none
theorem tupOf_is {K : PySem.W.Frag} {a : Addr} {vs : List Value} {xs : List V} (h : tupOf K a = some vs) (r : Vals xs vs) : SqK K a xs := by
  unfold tupOf at h
  cases e : K.lookup a with
  | none => rw [e] at h; cases h
  | some o =>
    rw [e] at h
    dsimp only at h
    split at h
    · rename_i t its n hc hd
      split at h
      · rename_i hh
        cases h
        exact ⟨o, its, n, e, by rw [hc, hh.1], hd, hh.2, r⟩
      · cases h
    · cases h
def pairOk (K : PySem.W.Frag) (v : Value) (q : Int × Int) : Bool := match v with
  | .ref a => match tupOf K a with
    | some [.int x _, .int y _] => decide (x = q.1) && decide (y = q.2)
    | _ => false
  | _ => false
def pairsOk (K : PySem.W.Frag) : List Value → List (Int × Int) → Bool
  | [], [] => true
  | v :: vs, q :: qs => pairOk K v q && pairsOk K vs qs
  | _, _ => false
theorem pairOk_is {K : PySem.W.Frag} {v : Value} {q : Int × Int} (h : pairOk K v q = true) : ∃ a, v = .ref a ∧ SqK K a [.int q.1, .int q.2] := by
  unfold pairOk at h
  split at h
  · rename_i a
    split at h
    · rename_i x t y u e
      rw [Bool.and_eq_true, decide_eq_true_eq, decide_eq_true_eq] at h
      refine ⟨a, rfl, tupOf_is e ?_⟩
      rw [h.1, h.2]
      exact .cons ⟨t, rfl⟩ (.cons ⟨u, rfl⟩ .nil)
    · cases h
  · cases h
theorem pairsOk_is {K : PySem.W.Frag} : ∀ {vs : List Value} {qs : List (Int × Int)}, pairsOk K vs qs = true → ∃ as : List Addr, Vals (as.map V.ref) vs ∧ Paired (fun a (q : Int × Int) => SqK K a [.int q.1, .int q.2]) as qs
  | [], [], _ => ⟨[], .nil, .nil⟩
  | v :: vs, q :: qs, h => by
    have h : (pairOk K v q && pairsOk K vs qs) = true := h
    rw [Bool.and_eq_true] at h
    obtain ⟨a, rfl, h1⟩ := pairOk_is h.1
    obtain ⟨as, h2, h3⟩ := pairsOk_is h.2
    exact ⟨a :: as, .cons rfl h2, .cons h1 h3⟩
  | [], _ :: _, h => by cases h
  | _ :: _, [], h => by cases h
def rangesOk (K : PySem.W.Frag) (rv : List (Int × Value)) (c : Nat) : Bool := match rv.lookup (c : Int) with
  | some (.ref r) => match tupOf K r with
    | some vs => pairsOk K vs (rangesOf c)
    | none => false
  | _ => false
def longOk (lv : List (Int × Value)) (c : Nat) : Bool := match longest c with
  | none => (lv.lookup (c : Int)).isNone
  | some n => match lv.lookup (c : Int) with
    | some (.int m _) => decide (m = (n : Int))
    | _ => false
def ndOk : List Int → Bool
  | [] => true
  | x :: r => r.all (fun y => !decide (x = y)) && ndOk r
theorem ndOk_is : ∀ {l : List Int}, ndOk l = true → l.Nodup
  | [], _ => List.nodup_nil
  | x :: r, h => by
    have h : (r.all (fun y => !decide (x = y)) && ndOk r) = true := h
    rw [Bool.and_eq_true, List.all_eq_true] at h
    refine List.nodup_cons.mpr ⟨fun m => ?_, ndOk_is h.2⟩
    have := h.1 x m
    simp at this
def dictsOk (K : PySem.W.Frag) (es ls : List DictEntry) : Bool := match kdPairs es, kdPairs ls with
  | some rv, some lv => ndOk (rv.map (·.1)) && (ndOk (lv.map (·.1)) && (List.range 17).all fun c => rangesOk K rv c && longOk lv c)
  | _, _ => false
theorem dicts_mk {K : PySem.W.Frag} {mg : Str → Option Value} {rd ld : Addr} {es ls : Array DictEntry} {n n' : Nat} (g1 : mg "NUMBER_RANGES" = some (.ref rd)) (g2 : mg "LONGEST_ROWS" = some (.ref ld))
    (s1 : (rd == sysModules) = false) (s2 : (ld == sysModules) = false) (h1 : K.lookup rd = some { cls := .type "dict", data := .dict es n }) (h2 : K.lookup ld = some { cls := .type "dict", data := .dict ls n' }) (ok : dictsOk K es.toList ls.toList = true) : ∃ rv lv, Dicts K mg rv lv := by
  unfold dictsOk at ok
  split at ok
  · rename_i rv lv e1 e2
    rw [Bool.and_eq_true, Bool.and_eq_true, List.all_eq_true] at ok
    refine ⟨rv, lv, ⟨rd, g1, s1, ⟨es, n, h1, e1⟩, ndOk_is ok.1⟩, ⟨ld, g2, s2, ⟨ls, n', h2, e2⟩, ndOk_is ok.2.1⟩, fun c hc => ?_, fun c hc => ?_⟩
    · have q := ok.2.2 c (List.mem_range.mpr (by omega))
      rw [Bool.and_eq_true] at q
      have q := q.1
      unfold rangesOk at q
      split at q
      · rename_i r e
        split at q
        · rename_i vs e3
          obtain ⟨as, p1, p2⟩ := pairsOk_is q
          exact ⟨r, as, e, tupOf_is e3 p1, p2⟩
        · cases q
      · cases q
    · have q := ok.2.2 c (List.mem_range.mpr (by omega))
      rw [Bool.and_eq_true] at q
      have q := q.2
      have q : (match longest c with
        | none => (lv.lookup (c : Int)).isNone
        | some n => match lv.lookup (c : Int) with
          | some (.int m _) => decide (m = (n : Int))
          | _ => false) = true := q
      revert q
      cases longest c with
      | none => exact fun q => Option.isNone_iff_eq_none.mp q
      | some m =>
        intro q
        show ∃ t, lv.lookup (c : Int) = some (.int (m : Int) t)
        revert q
        cases lv.lookup (c : Int) with
        | none => exact fun q => by cases q
        | some v =>
          intro q
          cases v with
          | int m' t => exact ⟨t, by rw [of_decide_eq_true (show decide (m' = (m : Int)) = true from q)]⟩
          | _ => cases q
  · cases ok
end Rs
end
section
set_option Elab.async false
set_option linter.all false
set_option maxRecDepth 100000
set_option maxHeartbeats 2000000
namespace Rs
open PySem PySem.Spec PyProof.Rows L2
open Vbhoam (Likes)
section
variable {P : Program} {w : World} {K : PySem.W.Frag} {mg : Str → Option Value} {base : Heap}
/-! ### the ranges -/
def iv (l : List Int) : List V := l.map V.int
theorem iv_len (l : List Int) : (iv l).length = l.length := List.length_map _
theorem iv_at {l : List Int} {z : Int} {k : Nat} {x : Int} (e : z = (k : Int)) (h : l[k]? = some x) : atI (iv l) z = some (V.int x) := at_of e (by unfold iv; rw [List.getElem?_map, h]; rfl)
theorem iv_of {l : List Int} {k : Nat} {v : V} (h : (iv l)[k]? = some v) : ∃ x, l[k]? = some x ∧ v = V.int x := by
  unfold iv at h
  rw [List.getElem?_map] at h
  cases e : l[k]? with
  | none => rw [e] at h; cases h
  | some x => rw [e] at h; exact ⟨x, rfl, (Option.some.inj h).symm⟩
def inR (q : Int × Int) (x : Int) : Bool := decide (q.1 ≤ x) && decide (x ≤ q.2)
def numsOk (c : Nat) (ts : List Int) : Bool := ((rangesOf c).zip ts).all fun z => inR z.1 z.2
theorem zip_at {α β : Type} : ∀ {l : List α} {m : List β} {i : Nat} {a : α} {b : β}, l[i]? = some a → m[i]? = some b → (a, b) ∈ l.zip m
  | [], _, _, _, _, h, _ => by simp at h
  | _ :: _, [], _, _, _, _, h => by simp at h
  | x :: l, y :: m, 0, a, b, h1, h2 => by
    simp at h1 h2
    subst h1 h2
    exact List.mem_cons_self ..
  | x :: l, y :: m, i + 1, a, b, h1, h2 => List.mem_cons_of_mem _ (zip_at (by simpa using h1) (by simpa using h2))
theorem of_zip {α β : Type} : ∀ {l : List α} {m : List β} {z : α × β}, z ∈ l.zip m → ∃ i : Nat, l[i]? = some z.1 ∧ m[i]? = some z.2
  | [], _, _, h => by simp at h
  | _ :: _, [], _, h => by simp at h
  | x :: l, y :: m, z, h => by
    rw [List.zip_cons_cons] at h
    rcases List.mem_cons.mp h with e | e
    · exact ⟨0, by rw [e]; rfl, by rw [e]; rfl⟩
    · obtain ⟨i, h1, h2⟩ := of_zip e
      exact ⟨i + 1, by simpa using h1, by simpa using h2⟩
def spNums (K : PySem.W.Frag) : Sp := fun vs H Q _ => ∃ (b : Addr) (c : Nat) (ts : List Int), vs = [.int c, .ref b] ∧ c ≤ 16 ∧ SqL K H b (iv ts) ∧ ts.length = (rangesOf c).length ∧ Q (.bl (numsOk c ts)) H
theorem ranges_len : ∀ c : Nat, (rangesOf c).length ≤ 3 := fun c => by unfold rangesOf; split <;> decide
theorem d_numbers_in_range {rv lv : List (Int × Value)} (T : Txt K mg) (DD : Dicts K mg rv lv) : Dn P w K mg base "numbers_in_range" 1 ["call", "told"] (spNums K) := by
  refine Dn.of T.f_numbers_in_range sc_numbers_in_range (fun vs H Q E h => ?_) (fun f cdv A outer s H vs Q E hr h => ?_)
  · obtain ⟨b, c, ts, rfl, _⟩ := h
    rfl
  · obtain ⟨b, c, ts, rfl, hc, hb, hl, k⟩ := h
    refine ⟨_, (pss_cons (ps_set (i := 2) sc_numbers_in_range.nd rfl (Or.inl rfl) (pe_dgetK DD.k_NUMBER_RANGES (pv 0)))
      (pss_cons (ps_for PassesOwn.never rfl (pi_range1 rfl T.b_range (pa_cons (pe_callB call_len_seq rfl T.b_len PySem.boot_len (pa_cons (pv 2) pa_nil)) pa_nil)) (pg_name (i := 3) sc_numbers_in_range.nd rfl (Or.inl rfl))
        (pss_one (ps_if (PW.pt (pw_or (pt_cmpR op_lt (pe_ix ix_list (pv 1) (pv 3) (fun _ _ => rfl)) (pe_ix ix_tup (pe_ix ix_tup (pv 2) (pv 3) (fun _ _ => rfl)) pe_int (fun _ _ => rfl)) (nomark _)) (pw_or1 (pt_cmpR op_gt (pe_ix ix_list (pv 1) (pv 3) (fun _ _ => rfl)) (pe_ix ix_tup (pe_ix ix_tup (pv 2) (pv 3) (fun _ _ => rfl)) pe_int (fun _ _ => rfl)) (nomark _))))) (pss_one (ps_ret pe_bl)) pss_nil)))
      (pss_one (ps_ret pe_bl)))), ?_⟩
    obtain ⟨r, as, h1, h2, h3⟩ := DD.rs c hc
    have hla : as.length = (rangesOf c).length := h3.length
    have hl3 := ranges_len c
    refine ⟨_, rfl, c, _, .ref r, rfl, h1, rfl, ?_⟩
    refine ⟨_, rfl, r, _, rfl, .inr (h2.t _), _, rfl, by rw [List.length_map]; omega, by rw [List.length_map]; omega, for_range (lo := 0) (n := (((as.map V.ref).length : Nat) : Int).toNat)
      (fun i σ H' => ∃ v3 : Option V, σ = [some (.int c), some (.ref b), some (.ref r), v3] ∧ H' = H ∧ ∀ (j : Nat) q x, j < i → (rangesOf c)[j]? = some q → ts[j]? = some x → inR q x = true) ⟨none, rfl, rfl, fun j q x h => absurd h (Nat.not_lt_zero _)⟩ ?_ ?_⟩
    · rintro i σ H' hi ⟨v3, rfl, rfl, hn⟩
      rw [List.length_map] at hi
      have hi' : i < as.length := by omega
      obtain ⟨q, hq⟩ : ∃ q, (rangesOf c)[i]? = some q := ⟨_, List.getElem?_eq_getElem (by omega)⟩
      obtain ⟨x, hx⟩ : ∃ x, ts[i]? = some x := ⟨_, List.getElem?_eq_getElem (by omega)⟩
      obtain ⟨a, ha, hA⟩ := paired_at h3 hq
      have e0 : (0 : Int) + (i : Int) = (i : Nat) := by omega
      have at1 : atI (iv ts) (0 + (i : Int)) = some (V.int x) := iv_at e0 hx
      have at2 : atI (as.map V.ref) (0 + (i : Int)) = some (V.ref a) := at_of e0 (by rw [List.getElem?_map, ha]; rfl)
      have bad : inR q x = false → numsOk c ts = false := fun e => by
        rw [Bool.eq_false_iff]
        intro z
        have := List.all_eq_true.mp z (q, x) (zip_at hq hx)
        rw [e] at this
        cases this
      refine ⟨_, rfl, _, rfl, b, _, _, _, rfl, rfl, hb, at1, _, rfl, _, rfl, r, _, _, _, rfl, rfl, h2.t _, at2, a, _, _, _, rfl, rfl, hA.t _, at_of (j := 0) rfl rfl, _, _, rfl, rfl, _, rfl, ?_⟩
      by_cases c1 : x < q.1
      · rw [decide_eq_true c1]
        rw [bad (by unfold inR; rw [decide_eq_false (show ¬ q.1 ≤ x by omega)]; rfl)] at k
        exact k
      · rw [decide_eq_false c1]
        refine ⟨_, rfl, _, rfl, b, _, _, _, rfl, rfl, hb, at1, _, rfl, _, rfl, r, _, _, _, rfl, rfl, h2.t _, at2, a, _, _, _, rfl, rfl, hA.t _, at_of (j := 1) rfl rfl, _, _, rfl, rfl, _, rfl, ?_⟩
        by_cases c2 : q.2 < x
        · rw [decide_eq_true c2]
          rw [bad (by unfold inR; rw [decide_eq_false (show ¬ x ≤ q.2 by omega), Bool.and_false])] at k
          exact k
        · rw [decide_eq_false c2]
          refine ⟨_, rfl, rfl, fun j q' x' hj hq' hx' => ?_⟩
          by_cases z : j = i
          · subst z
            rw [hq] at hq'
            rw [hx] at hx'
            cases hq'; cases hx'
            unfold inR
            rw [decide_eq_true (show q.1 ≤ x by omega), decide_eq_true (show x ≤ q.2 by omega)]
            rfl
          · exact hn j q' x' (by omega) hq' hx'
    · rintro σ H' ⟨v3, rfl, rfl, hn⟩
      have : numsOk c ts = true := List.all_eq_true.mpr fun z hz => by
        obtain ⟨j, h1, h2⟩ := of_zip hz
        refine hn j z.1 z.2 ?_ h1 h2
        rw [List.length_map]
        have := (List.getElem?_eq_some_iff.mp h1).1
        omega
      rw [this] at k
      exact k
def rowOk (c : Nat) (row : List Int) : Bool := (match longest c with | some n => decide (row.length ≤ n) | none => true) && row.all fun x => inR (0, 7) x
def spRow (K : PySem.W.Frag) : Sp := fun vs H Q _ => ∃ (b : Addr) (c : Nat) (row : List Int), vs = [.int c, .ref b] ∧ c ≤ 16 ∧ SqL K H b (iv row) ∧ Q (.bl (rowOk c row)) H
theorem d_row_in_range {rv lv : List (Int × Value)} (T : Txt K mg) (DD : Dicts K mg rv lv) : Dn P w K mg base "row_in_range" 1 ["call", "row"] (spRow K) := by
  refine Dn.of T.f_row_in_range sc_row_in_range (fun vs H Q E h => ?_) (fun f cdv A outer s H vs Q E hr h => ?_)
  · obtain ⟨b, c, ts, rfl, _⟩ := h
    rfl
  · obtain ⟨b, c, row, rfl, hc, hb, k⟩ := h
    refine ⟨_, (pss_cons (ps_if (PW.pt (pw_and (pt_dinK DD.k_LONGEST_ROWS (pv 0)) (pw_and1 (pt_cmpR op_gt (pe_callB call_len_seq rfl T.b_len PySem.boot_len (pa_cons (pv 1) pa_nil)) (pe_dgetK DD.k_LONGEST_ROWS (pv 0)) (nomark _))))) (pss_one (ps_ret pe_bl)) pss_nil)
      (pss_cons (ps_for PassesOwn.never rfl (pi_list (pv 1)) (pg_name (i := 2) sc_row_in_range.nd rfl (Or.inl rfl))
        (pss_one (ps_if (PW.pt (pw_or (pt_cmpR op_lt (pv 2) pe_int (nomark _)) (pw_or1 (pt_cmpR op_gt (pv 2) (pe_gi rfl T.c_GREATEST_IN_ROW) (nomark _))))) (pss_one (ps_ret pe_bl)) pss_nil)))
      (pss_one (ps_ret pe_bl)))), ?_⟩
    have hl := DD.ls c hc
    unfold rowOk at k
    -- the walk over the row
    have fin : Q (.bl (row.all fun x => inR (0, 7) x)) H → (tSeq (tFor (iList K (tVar 1)) (gName 2) (tIfS (tOr (tTest (tOp (rI0 fun i j => .bl (decide (i < j))) (tVar 2) (tC (.int 0)))) (tTest (tOp (rI0 fun i j => .bl (decide (j < i))) (tVar 2) (tC (.int 7))))) (tRet (tC (.bl false))) tNext)) (tRet (tC (.bl true)))) { nx := fun _ H' => Q .non H', rt := Q } [some (.int c), some (.ref b), none] H := fun k => by
      refine ⟨_, rfl, b, rfl, ⟨_, hb⟩, for_list (K := K) (a := b) (xs := iv row) (fun i σ H' => ∃ v2 : Option V, σ = [some (.int c), some (.ref b), v2] ∧ H' = H ∧ ∀ (j : Nat) x, j < i → row[j]? = some x → inR (0, 7) x = true) ⟨none, rfl, rfl, fun j x h => absurd h (Nat.not_lt_zero _)⟩ (fun i σ H' _ ⟨_, _, e, _⟩ => by rw [e]; exact hb) ?_ ?_⟩
      · rintro i y σ H' hy ⟨v2, rfl, rfl, hn⟩
        obtain ⟨x, hx, rfl⟩ := iv_of hy
        have bad : inR (0, 7) x = false → (row.all fun x => inR (0, 7) x) = false := fun e => by
          rw [Bool.eq_false_iff]
          intro z
          have := List.all_eq_true.mp z x (List.mem_of_getElem? hx)
          rw [e] at this
          cases this
        refine ⟨_, rfl, _, _, rfl, rfl, _, rfl, ?_⟩
        by_cases c1 : x < 0
        · rw [decide_eq_true c1]
          rw [bad (by unfold inR; rw [decide_eq_false (show ¬ (0 : Int) ≤ x by omega)]; rfl)] at k
          exact k
        · rw [decide_eq_false c1]
          refine ⟨_, rfl, _, _, rfl, rfl, _, rfl, ?_⟩
          by_cases c2 : 7 < x
          · rw [decide_eq_true c2]
            rw [bad (by unfold inR; rw [decide_eq_false (show ¬ x ≤ (7 : Int) by omega), Bool.and_false])] at k
            exact k
          · rw [decide_eq_false c2]
            refine ⟨_, rfl, rfl, fun j x' hj hx' => ?_⟩
            by_cases z : j = i
            · subst z
              rw [hx] at hx'
              cases hx'
              unfold inR
              rw [decide_eq_true (show (0 : Int) ≤ x by omega), decide_eq_true (show x ≤ (7 : Int) by omega)]
              rfl
            · exact hn j x' (by omega) hx'
      · rintro σ H' ⟨v2, rfl, rfl, hn⟩
        have : (row.all fun x => inR (0, 7) x) = true := List.all_eq_true.mpr fun x hx => by
          obtain ⟨j, hj, e⟩ := List.mem_iff_getElem.mp hx
          exact hn j x (by rw [iv_len]; exact hj) (by rw [List.getElem?_eq_getElem hj, e])
        rw [this] at k
        exact k
    refine ⟨_, rfl, c, rfl, _, rfl, ?_⟩
    cases hg : longest c with
    | none =>
      rw [hg] at hl k
      have hl : lv.lookup (c : Int) = none := hl
      rw [hl]
      exact fin k
    | some n =>
      rw [hg] at hl k
      obtain ⟨t, hl⟩ := hl
      rw [hl]
      refine ⟨_, rfl, b, _, rfl, .inl hb, _, rfl, c, _, .int (n : Int), rfl, hl, ⟨t, rfl⟩, _, _, rfl, rfl, _, rfl, ?_⟩
      rw [iv_len]
      by_cases c1 : n < row.length
      · rw [show decide (((n : Nat) : Int) < ((row.length : Nat) : Int)) = true from decide_eq_true (by omega)]
        have k : Q (.bl (decide (row.length ≤ n) && row.all fun x => inR (0, 7) x)) H := k
        rw [decide_eq_false (show ¬ row.length ≤ n by omega)] at k
        exact k
      · rw [show decide (((n : Nat) : Int) < ((row.length : Nat) : Int)) = false from decide_eq_false (by omega)]
        have k : Q (.bl (decide (row.length ≤ n) && row.all fun x => inR (0, 7) x)) H := k
        rw [decide_eq_true (show row.length ≤ n by omega), Bool.true_and] at k
        exact fin k
def spIn (K : PySem.W.Frag) : Sp := fun vs H Q _ => ∃ (b1 b2 : Addr) (c : Nat) (ts row : List Int), vs = [.int c, .ref b1, .ref b2] ∧ c ≤ 16 ∧ SqL K H b1 (iv ts) ∧ ts.length = (rangesOf c).length ∧ SqL K H b2 (iv row) ∧ Q (.bl (numsOk c ts && rowOk c row)) H
theorem d_in_range {rv lv : List (Int × Value)} (T : Txt K mg) (DD : Dicts K mg rv lv) : Dn P w K mg base "in_range" 2 ["call", "told", "row"] (spIn K) := by
  have D_numbers_in_range := d_numbers_in_range (P := P) (w := w) (base := base) T DD
  have D_row_in_range := d_row_in_range (P := P) (w := w) (base := base) T DD
  refine Dn.of T.f_in_range sc_in_range (fun vs H Q E h => ?_) (fun f cdv A outer s H vs Q E hr h => ?_)
  · obtain ⟨b1, b2, c, ts, row, rfl, _⟩ := h
    rfl
  · obtain ⟨b1, b2, c, ts, row, rfl, hc, h1, h2, h3, k⟩ := h
    refine ⟨_, (pss_one (ps_ret (pe_and (pe_callD D_numbers_in_range (hr.mono (by decide)) rfl (pa_cons (pv 0) (pa_cons (pv 1) pa_nil))) (pe_one (pe_callD D_row_in_range (hr.mono (by decide)) rfl (pa_cons (pv 0) (pa_cons (pv 2) pa_nil))))))), ?_⟩
    refine ⟨_, rfl, _, rfl, b1, c, ts, rfl, hc, h1, h2, _, rfl, ?_⟩
    cases e : numsOk c ts with
    | false => rw [e] at k; exact k
    | true =>
      rw [e, Bool.true_and] at k
      exact ⟨_, rfl, _, rfl, b2, c, row, rfl, hc, h3, k⟩
end
end Rs
end
section
set_option Elab.async false
set_option linter.all false
set_option maxRecDepth 100000
set_option maxHeartbeats 2000000
namespace Rs
open PySem PySem.Spec PyProof.Rows L2
open Vbhoam (Likes)
section
variable {P : Program} {w : World} {K : PySem.W.Frag} {mg : Str → Option Value} {base : Heap}
/-! ### how calls stand one behind another -/
theorem shape_is {p : Int} {n k : Nat} (h : PyVbhoam.shape p = some (n, k)) : ∃ c : Nat, c ≤ 16 ∧ p = (c : Int) ∧ n = (rangesOf c).length ∧ k = if (longest c).isSome then 1 else 0 := by
  unfold PyVbhoam.shape at h
  by_cases e0 : p = 0
  · rw [if_pos e0] at h; cases h; exact ⟨0, by decide, e0, rfl, rfl⟩
  rw [if_neg e0] at h
  by_cases e1 : p = 1
  · rw [if_pos e1] at h; cases h; exact ⟨1, by decide, e1, rfl, rfl⟩
  rw [if_neg e1] at h
  by_cases e2 : p = 2
  · rw [if_pos e2] at h; cases h; exact ⟨2, by decide, e2, rfl, rfl⟩
  rw [if_neg e2] at h
  by_cases e3 : p = 3
  · rw [if_pos e3] at h; cases h; exact ⟨3, by decide, e3, rfl, rfl⟩
  rw [if_neg e3] at h
  by_cases e4 : p = 4
  · rw [if_pos e4] at h; cases h; exact ⟨4, by decide, e4, rfl, rfl⟩
  rw [if_neg e4] at h
  by_cases e5 : p = 5
  · rw [if_pos e5] at h; cases h; exact ⟨5, by decide, e5, rfl, rfl⟩
  rw [if_neg e5] at h
  by_cases e6 : p = 6
  · rw [if_pos e6] at h; cases h; exact ⟨6, by decide, e6, rfl, rfl⟩
  rw [if_neg e6] at h
  by_cases e7 : p = 7
  · rw [if_pos e7] at h; cases h; exact ⟨7, by decide, e7, rfl, rfl⟩
  rw [if_neg e7] at h
  by_cases e8 : p = 8
  · rw [if_pos e8] at h; cases h; exact ⟨8, by decide, e8, rfl, rfl⟩
  rw [if_neg e8] at h
  by_cases e9 : p = 9
  · rw [if_pos e9] at h; cases h; exact ⟨9, by decide, e9, rfl, rfl⟩
  rw [if_neg e9] at h
  by_cases e10 : p = 10
  · rw [if_pos e10] at h; cases h; exact ⟨10, by decide, e10, rfl, rfl⟩
  rw [if_neg e10] at h
  by_cases e11 : p = 11
  · rw [if_pos e11] at h; cases h; exact ⟨11, by decide, e11, rfl, rfl⟩
  rw [if_neg e11] at h
  by_cases e12 : p = 12
  · rw [if_pos e12] at h; cases h; exact ⟨12, by decide, e12, rfl, rfl⟩
  rw [if_neg e12] at h
  by_cases e13 : p = 13
  · rw [if_pos e13] at h; cases h; exact ⟨13, by decide, e13, rfl, rfl⟩
  rw [if_neg e13] at h
  by_cases e14 : p = 14
  · rw [if_pos e14] at h; cases h; exact ⟨14, by decide, e14, rfl, rfl⟩
  rw [if_neg e14] at h
  by_cases e15 : p = 15
  · rw [if_pos e15] at h; cases h; exact ⟨15, by decide, e15, rfl, rfl⟩
  rw [if_neg e15] at h
  by_cases e16 : p = 16
  · rw [if_pos e16] at h; cases h; exact ⟨16, by decide, e16, rfl, rfl⟩
  rw [if_neg e16] at h
  cases h
/-- one call, as the program reads it -/
inductive Rd1 (l : List Int) (i : Nat) : Nat → List Int → List Int → Nat → Prop
  | bare {c : Nat} (hc : c ≤ 16) (h0 : l[i]? = some (c : Int)) (hg : longest c = none) (hl : i + 1 + (rangesOf c).length ≤ l.length) : Rd1 l i c ((l.drop (i + 1)).take (rangesOf c).length) [] (i + 1 + (rangesOf c).length)
  | row {c g m : Nat} (hc : c ≤ 16) (h0 : l[i]? = some (c : Int)) (hg : longest c = some g) (hm : l[i + 1 + (rangesOf c).length]? = some (m : Int)) (hl : i + 1 + (rangesOf c).length + 1 + m ≤ l.length) :
      Rd1 l i c ((l.drop (i + 1)).take (rangesOf c).length) ((l.drop (i + 1 + (rangesOf c).length + 1)).take m) (i + 1 + (rangesOf c).length + 1 + m)
/-- a call of the specification, as the program hands it on -/
def conv (x : List (List Int)) : Int × List Int × List Int := ((x.headD []).headD 0, (x.headD []).tail, x.tail.headD [])
/-- how a call stands in the specification's list -/
def mkRaw (c : Nat) (ts row : List Int) : List (List Int) := ((c : Int) :: ts) :: (match longest c with | none => [] | some _ => [row])
theorem drop_cons {l : List Int} {i : Nat} {p : Int} {r : List Int} (h : l.drop i = p :: r) : l[i]? = some p ∧ r = l.drop (i + 1) ∧ i < l.length := by
  have hlt : i < l.length := by
    refine Nat.lt_of_not_le fun q => ?_
    rw [List.drop_eq_nil_of_le q] at h
    cases h
  rw [List.drop_eq_getElem_cons hlt] at h
  injection h with h1 h2
  exact ⟨by rw [List.getElem?_eq_getElem hlt, h1], h2.symm, hlt⟩
theorem call_step {l : List Int} {i f : Nat} {raw : List (List (List Int))} (h : PyFlat.calls PyVbhoam.shape f (l.drop i) = some raw) (hi : i < l.length) :
    ∃ (c : Nat) (ts row : List Int) (j : Nat) (x : List (List Int)) (rest : List (List (List Int))) (f' : Nat), Rd1 l i c ts row j ∧ raw = x :: rest ∧ conv x = ((c : Int), ts, row) ∧ PyFlat.calls PyVbhoam.shape f' (l.drop j) = some rest ∧ ts.length = (rangesOf c).length ∧ x = mkRaw c ts row ∧ f = f' + 1 ∧ c ≤ 16 := by
  obtain ⟨p, r, hd⟩ : ∃ p r, l.drop i = p :: r := ⟨_, _, List.drop_eq_getElem_cons hi⟩
  obtain ⟨h0, hr, _⟩ := drop_cons hd
  rw [hd] at h
  cases f with
  | zero => simp [PyFlat.calls] at h
  | succ f =>
    unfold PyFlat.calls at h
    split at h
    · cases h
    · rename_i c t hc
      split at h
      · cases h
      · rename_i cs hcs
        cases h
        simp only [PyFlat.call] at hc
        split at hc
        · cases hc
        · rename_i n k hs
          obtain ⟨c', h16, rfl, rfl, rfl⟩ := shape_is hs
          split at hc
          · cases hc
          · rename_i hlen
            have hlen : (rangesOf c').length ≤ r.length := Nat.le_of_not_lt hlen
            have hrl : r.length = l.length - (i + 1) := by rw [hr, List.length_drop]
            have htl : (r.take (rangesOf c').length).length = (rangesOf c').length := by rw [List.length_take]; omega
            cases hg : longest c' with
            | none =>
              rw [hg] at hc
              simp only [Option.isSome_none, Bool.false_eq_true, if_false, PyFlat.rows] at hc
              cases hc
              refine ⟨c', _, [], _, _, cs, f, .bare h16 h0 hg (by omega), rfl, ?_, ?_, by rw [← hr]; exact htl, by unfold mkRaw; rw [hg, hr], rfl, h16⟩
              · show ((c' : Int), r.take (rangesOf c').length, []) = _
                rw [hr]
              · rw [hr, List.drop_drop] at hcs
                exact hcs
            | some g =>
              rw [hg] at hc
              simp only [Option.isSome_some, if_true, PyFlat.rows] at hc
              split at hc
              · cases hc
              · rename_i xs s hrow
                cases hc
                split at hrow
                · cases hrow
                · rename_i x s' hrow1
                  cases hrow
                  unfold PyFlat.row at hrow1
                  split at hrow1
                  · cases hrow1
                  · rename_i m r2 hr2
                    split at hrow1
                    · rename_i hm
                      cases hrow1
                      rw [hr, List.drop_drop] at hr2
                      obtain ⟨q1, q2, q3⟩ := drop_cons hr2
                      obtain ⟨m', rfl⟩ : ∃ m' : Nat, m = (m' : Int) := ⟨m.toNat, by omega⟩
                      have hm2 : m' ≤ r2.length := by have := hm.2; rwa [Int.toNat_natCast] at this
                      have hr2l : r2.length = l.length - (i + 1 + (rangesOf c').length + 1) := by rw [q2, List.length_drop]
                      refine ⟨c', _, _, _, _, cs, f, .row (m := m') h16 h0 hg q1 (by omega), rfl, ?_, ?_, by rw [← hr]; exact htl, by unfold mkRaw; rw [hg, hr, q2, Int.toNat_natCast], rfl, h16⟩
                      · show ((c' : Int), r.take (rangesOf c').length, r2.take ((m' : Int)).toNat) = _
                        rw [hr, q2, Int.toNat_natCast]
                      · rw [q2, List.drop_drop, Int.toNat_natCast] at hcs
                        exact hcs
                    · cases hrow1
theorem calls_nil {f : Nat} {raw : List (List (List Int))} (h : PyFlat.calls PyVbhoam.shape f [] = some raw) : raw = [] := by
  cases f <;> (unfold PyFlat.calls at h; cases h; rfl)
theorem cut_iv {l : List Int} {lo hi : Nat} {zl zh : Int} (e1 : zl = (lo : Int)) (e2 : zh = (hi : Int)) (h1 : lo ≤ hi) (h2 : hi ≤ l.length) : cutV (iv l) (some zl) (some zh) = iv ((l.drop lo).take (hi - lo)) := by
  subst e1 e2
  unfold cutV
  rw [HT.sIx_nat, HT.sIx_nat, iv_len, Nat.min_eq_left (show lo ≤ l.length by omega), Nat.min_eq_left h2]
  unfold iv
  rw [← List.map_drop, ← List.map_take]
def CallAt (H0 H : Hp) (t : Addr) (c : Int × List Int × List Int) : Prop := ∃ b1 b2, H t = some (.tup [.int c.1, .ref b1, .ref b2]) ∧ H b1 = some (.lst (iv c.2.1)) ∧ H b2 = some (.lst (iv c.2.2)) ∧ H0 t = none ∧ H0 b1 = none ∧ H0 b2 = none
/-- the calls that were read, in lists that are new -/
def CallsAt (H0 H : Hp) (a : Addr) (cs : List (Int × List Int × List Int)) : Prop := ∃ as : List Addr, H a = some (.lst (as.map V.ref)) ∧ Paired (CallAt H0 H) as cs
theorem CallAt.mono {H0 H H' : Hp} {t : Addr} {c : Int × List Int × List Int} (s : Same H H') (h : CallAt H0 H t c) : CallAt H0 H' t c := by
  obtain ⟨b1, b2, h1, h2, h3, h4⟩ := h
  exact ⟨b1, b2, s _ _ h1, s _ _ h2, s _ _ h3, h4⟩
theorem CallsAt.mono {H0 H H' : Hp} {a : Addr} {cs : List (Int × List Int × List Int)} (s : Same H H') (h : CallsAt H0 H a cs) : CallsAt H0 H' a cs := by
  obtain ⟨as, h1, h2⟩ := h
  exact ⟨as, s _ _ h1, paired_mono (fun _ _ => CallAt.mono s) h2⟩
theorem free_same {H H' : Hp} {p : Addr} (s : Same H H') (h : H' p = none) : H p = none := by
  cases e : H p with
  | none => rfl
  | some o => rw [s _ _ e] at h; cases h
def spRead (K : PySem.W.Frag) : Sp := fun vs H Q _ => ∃ (a : Addr) (l : List Int) (raw : List (List (List Int))), vs = [.ref a] ∧ SqL K H a (iv l) ∧ PyFlat.calls PyVbhoam.shape l.length l = some raw ∧ l.length ≤ 17000 ∧
  ∀ H' p, Same H H' → H p = none → CallsAt H H' p (raw.map conv) → Q (.ref p) H'
end
end Rs
end
section
set_option Elab.async false
set_option linter.all false
set_option maxRecDepth 100000
set_option maxHeartbeats 2000000
namespace Rs
open PySem PySem.Spec PyProof.Rows L2
open Vbhoam (Likes)
section
variable {P : Program} {w : World} {K : PySem.W.Frag} {mg : Str → Option Value} {base : Heap}
theorem callAt_upd {H0 H : Hp} {p t : Addr} {o : HO} {c : Int × List Int × List Int} {as : List Addr} {cs : List (Int × List Int × List Int)} (hp : H p = some (.lst (as.map V.ref))) (hcs : Paired (CallAt H0 H) as cs) (h : CallAt H0 H t c) (ht : t ∈ as) : CallAt H0 (upd H p o) t c := by
  obtain ⟨b1, b2, h1, h2, h3, h4⟩ := h
  have n0 : t ≠ p := fun e => by rw [e, hp] at h1; cases h1
  have nl : ∀ b (xs : List Int), H b = some (.lst (iv xs)) → b ≠ p := fun b xs hb e => by
    rw [e, hp] at hb
    have hb : as.map V.ref = iv xs := by injection hb with hb; injection hb
    cases as with
    | nil => simp at ht
    | cons a as =>
      cases xs with
      | nil => exact absurd hb (by simp [iv])
      | cons n xs => exact absurd hb (by simp [iv])
  exact ⟨b1, b2, by rw [upd_ne n0]; exact h1, by rw [upd_ne (nl b1 _ h2)]; exact h2, by rw [upd_ne (nl b2 _ h3)]; exact h3, h4⟩
theorem paired_mem {α β : Type} {R R' : α → β → Prop} {l₁ : List α} {l₂ : List β} (h : Paired R l₁ l₂) (k : ∀ a b, a ∈ l₁ → R a b → R' a b) : Paired R' l₁ l₂ := by
  induction h with
  | nil => exact .nil
  | cons r _ ih => exact .cons (k _ _ (List.mem_cons_self ..) r) (ih fun a b ha => k a b (List.mem_cons_of_mem _ ha))
theorem CallsAt.push {H0 H : Hp} {p t b1 b2 : Addr} {cs : List (Int × List Int × List Int)} {c : Int × List Int × List Int} (h : CallsAt H0 H p cs) (h1 : H t = some (.tup [.int c.1, .ref b1, .ref b2])) (h2 : H b1 = some (.lst (iv c.2.1))) (h3 : H b2 = some (.lst (iv c.2.2))) (n1 : b1 ≠ p) (n2 : b2 ≠ p) (f0 : H0 t = none ∧ H0 b1 = none ∧ H0 b2 = none) :
    ∃ xs, H p = some (.lst xs) ∧ xs.length = cs.length ∧ CallsAt H0 (upd H p (.lst (xs ++ [V.ref t]))) p (cs ++ [c]) := by
  obtain ⟨as, a1, a2⟩ := h
  have nt : t ≠ p := fun e => by rw [e, a1] at h1; cases h1
  refine ⟨_, a1, by rw [List.length_map]; exact a2.length, as ++ [t], by rw [upd_same, List.map_append]; rfl, ?_⟩
  refine paired_snoc (paired_mem a2 fun a b ha hab => callAt_upd a1 a2 hab ha) ⟨b1, b2, by rw [upd_ne nt]; exact h1, by rw [upd_ne n1]; exact h2, by rw [upd_ne n2]; exact h3, f0⟩
theorem cut_new {H : Hp} {Q : VK} {a : Addr} {l : List Int} {lo hi : Nat} {zl zh : Int} (hS : SqL K H a (iv l)) (e1 : zl = (lo : Int)) (e2 : zh = (hi : Int)) (h1 : lo ≤ hi) (h2 : hi ≤ l.length) (k : ∀ p, H p = none → Q (.ref p) (upd H p (.lst (iv ((l.drop lo).take (hi - lo)))))) : rSlL K (.ref a) (some zl) (some zh) H Q :=
  ⟨a, _, rfl, hS, fun p hp => by rw [cut_iv e1 e2 h1 h2]; exact k p hp⟩
theorem d_read_calls {rv lv : List (Int × Value)} (T : Txt K mg) (DD : Dicts K mg rv lv) : Dn P w K mg base "read_calls" 1 ["numbers"] (spRead K) := by
  refine Dn.of T.f_read_calls sc_read_calls (fun vs H Q E h => ?_) (fun f cdv A outer s H vs Q E hr h => ?_)
  · obtain ⟨a, l, raw, rfl, _⟩ := h
    rfl
  · obtain ⟨a, l, raw, rfl, hS, hraw, hlen, k⟩ := h
    refine ⟨_, (pss_cons (ps_set (i := 1) sc_read_calls.nd rfl (Or.inl rfl) (pe_lst pa_nil))
      (pss_cons (ps_set (i := 2) sc_read_calls.nd rfl (Or.inl rfl) pe_int)
      (pss_cons (ps_while PassesOwn.never (pt_cmpR op_lt (pv 2) (pe_callB call_len_seq rfl T.b_len PySem.boot_len (pa_cons (pv 0) pa_nil)) (nomark _)) (pss_cons (ps_set (i := 3) sc_read_calls.nd rfl (Or.inl rfl) (pe_ix ix_list (pv 0) (pv 2) (fun _ _ => rfl)))
      (pss_cons (ps_set (i := 4) sc_read_calls.nd rfl (Or.inl rfl) (pe_op op_add (pe_op op_add (pv 2) pe_int) (pe_callB call_len_seq rfl T.b_len PySem.boot_len (pa_cons (pe_dgetK DD.k_NUMBER_RANGES (pv 3)) pa_nil))))
      (pss_cons (ps_set (i := 5) sc_read_calls.nd rfl (Or.inl rfl) (pe_slice sl_list (pv 0) (po_some (pe_op op_add (pv 2) pe_int)) (po_some (pv 4))))
      (pss_cons (ps_set (i := 6) sc_read_calls.nd rfl (Or.inl rfl) (pe_lst pa_nil))
      (pss_cons (ps_if (pt_dinK DD.k_LONGEST_ROWS (pv 3)) (pss_cons (ps_set (i := 7) sc_read_calls.nd rfl (Or.inl rfl) (pe_op op_add (pv 4) pe_int))
      (pss_cons (ps_set (i := 4) sc_read_calls.nd rfl (Or.inl rfl) (pe_op op_add (pv 7) (pe_ix ix_list (pv 0) (pv 4) (fun _ _ => rfl))))
      (pss_one (ps_set (i := 6) sc_read_calls.nd rfl (Or.inl rfl) (pe_slice sl_list (pv 0) (po_some (pv 7)) (po_some (pv 4))))))) pss_nil)
      (pss_cons (ps_expr (pe_bm PySem.F.plainAttrs_list PySem.F.slot_list_append PySem.F.type_list_append mt_append (pv 1) (pa_cons (pe_tup (pa_cons (pv 3) (pa_cons (pv 5) (pa_cons (pv 6) pa_nil)))) pa_nil)))
      (pss_one (ps_set (i := 2) sc_read_calls.nd rfl (Or.inl rfl) (pv 4))))))))))
      (pss_one (ps_ret (pv 1)))))), ?_⟩
    have sz : sizeLine = 16777216 := rfl
    refine ⟨Nat.zero_le _, fun p hp => ?_⟩
    refine ⟨fun m σ H' => ∃ (i f : Nat) (done rest : List (List (List Int))) (v3 v4 v5 v6 v7 : Option V), σ = [some (.ref a), some (.ref p), some (.int (i : Nat)), v3, v4, v5, v6, v7] ∧ Same H H' ∧ i ≤ l.length ∧ done.length ≤ i ∧ raw = done ++ rest ∧ PyFlat.calls PyVbhoam.shape f (l.drop i) = some rest ∧ CallsAt H H' p (done.map conv) ∧ m = l.length - i,
      ⟨l.length, 0, l.length, [], raw, none, none, none, none, none, rfl, same_upd hp, Nat.zero_le _, Nat.zero_le _, rfl, by rw [List.drop_zero]; exact hraw, ⟨[], upd_same, .nil⟩, rfl⟩, ?_⟩
    rintro m σ H' ⟨i, fu, done, rest, v3, v4, v5, v6, v7, rfl, s1, hi, hdl, hrr, hcalls, hat, rfl⟩
    have hS1 := s1.seq hS
    refine ⟨_, rfl, _, rfl, a, _, rfl, .inl hS1, _, _, rfl, rfl, _, rfl, ?_⟩
    rw [iv_len]
    by_cases hlt : i < l.length
    · rw [show decide (((i : Nat) : Int) < ((l.length : Nat) : Int)) = true from decide_eq_true (by omega)]
      obtain ⟨c, ts, row, j, x, rest', f', R, rfl, hx, hc', htl, hxr, hff, h16r⟩ := call_step hcalls hlt
      refine ⟨fun σ' H2 => ∃ (v3 v4 v5 v6 v7 : Option V), σ' = [some (.ref a), some (.ref p), some (.int (j : Nat)), v3, v4, v5, v6, v7] ∧ Same H H2 ∧ j ≤ l.length ∧ i < j ∧ CallsAt H H2 p ((done ++ [x]).map conv), ?_, ?_⟩
      · rintro σ' H2 ⟨v3, v4, v5, v6, v7, rfl, s2, hj, hij, hat2⟩
        exact ⟨l.length - j, by omega, j, f', done ++ [x], rest', v3, v4, v5, v6, v7, rfl, s2, hj, by rw [List.length_append]; show done.length + 1 ≤ j; omega, by rw [hrr]; simp, hc', hat2, rfl⟩
      -- what the turn's end gives
      have fin : ∀ (H2 : Hp) (b1 b2 : Addr) (v4 v5 v6 v7 : Option V), Same H H2 → CallsAt H H2 p (done.map conv) → H2 b1 = some (.lst (iv ts)) → H2 b2 = some (.lst (iv row)) → b1 ≠ p → b2 ≠ p → H b1 = none → H b2 = none → j ≤ l.length → i < j → ∀ t, H2 t = none →
          ∃ xs, upd H2 t (.tup [.int (c : Int), .ref b1, .ref b2]) p = some (.lst xs) ∧ xs.length < sizeLine ∧ (Same H (upd (upd H2 t (.tup [.int (c : Int), .ref b1, .ref b2])) p (.lst (xs ++ [V.ref t]))) ∧ j ≤ l.length ∧ i < j ∧ CallsAt H (upd (upd H2 t (.tup [.int (c : Int), .ref b1, .ref b2])) p (.lst (xs ++ [V.ref t]))) p ((done ++ [x]).map conv)) := by
        intro H2 b1 b2 v4 v5 v6 v7 s2 hat2 h1 h2 n1 n2 f1 f2 hj hij t ht
        have s3 := same_upd (o := .tup [.int (c : Int), .ref b1, .ref b2]) ht
        obtain ⟨xs, x1, x2, x3⟩ := (hat2.mono s3).push (c := ((c : Int), ts, row)) (t := t) (b1 := b1) (b2 := b2) upd_same (s3 _ _ h1) (s3 _ _ h2) n1 n2 ⟨free_same s2 ht, f1, f2⟩
        refine ⟨xs, x1, by rw [x2, List.length_map]; omega, same_upd2 (s2.trans s3) hp, hj, hij, ?_⟩
        rw [List.map_append, List.map_cons, hx]
        exact x3
      obtain ⟨r, as, hr1, hr2, hr3⟩ := DD.rs c (by cases R <;> assumption)
      have hla : as.length = (rangesOf c).length := hr3.length
      cases R with
      | bare hc16 h0 hg hl =>
        have hls := DD.ls c hc16
        rw [hg] at hls
        have hls : lv.lookup (c : Int) = none := hls
        -- call, end, told, row
        refine ⟨_, rfl, _, rfl, a, _, _, _, rfl, rfl, hS1, iv_at rfl h0, ?_⟩
        refine ⟨_, rfl, _, _, rfl, rfl, _, rfl, c, _, .ref r, rfl, hr1, rfl, r, _, rfl, .inr (hr2.t _), _, _, rfl, rfl, ?_⟩
        rw [List.length_map, hla]
        refine ⟨_, rfl, _, rfl, _, _, rfl, rfl, _, rfl, _, rfl, _, rfl, cut_new (lo := i + 1) (hi := i + 1 + (rangesOf c).length) hS1 rfl rfl (by omega) hl fun b1 hb1 => ?_⟩
        have t1 := same_upd (o := .lst (iv ((l.drop (i + 1)).take (i + 1 + (rangesOf c).length - (i + 1))))) hb1
        refine ⟨Nat.zero_le _, fun b2 hb2 => ?_⟩
        have t2 := same_upd (o := .lst []) hb2
        refine ⟨_, rfl, c, rfl, _, rfl, ?_⟩
        rw [hls]
        have e1 : i + 1 + (rangesOf c).length - (i + 1) = (rangesOf c).length := by omega
        obtain ⟨w1, w2, w3⟩ : ∃ xs, H' p = some (.lst xs) ∧ True := by obtain ⟨as', a1, _⟩ := hat; exact ⟨_, a1, trivial⟩
        have n1 : b1 ≠ p := fun e => by rw [e, w2] at hb1; cases hb1
        have n2 : b2 ≠ p := fun e => by rw [e, t1 _ _ w2] at hb2; cases hb2
        refine ⟨_, rfl, .inl ⟨rfl, _, SqL.of (t2 _ _ (t1 _ _ w2))⟩, _, rfl, _, rfl, _, rfl, (by show 3 ≤ sizeLine; decide), fun t ht => ?_⟩
        obtain ⟨xs, x1, x2, x3⟩ := fin _ b1 b2 none none none none ((s1.trans t1).trans t2) ((hat.mono t1).mono t2) (t2 _ _ (by rw [upd_same, e1])) upd_same n1 n2 (free_same s1 hb1) (free_same (s1.trans t1) hb2) hl (by omega) t ht
        exact ⟨p, xs, _, rfl, rfl, x1, x2, _, rfl, _, _, _, _, _, rfl, x3⟩
      | row hc16 h0 hg hm hl =>
        rename_i g m
        have hls := DD.ls c hc16
        rw [hg] at hls
        obtain ⟨tk, hls⟩ := hls
        refine ⟨_, rfl, _, rfl, a, _, _, _, rfl, rfl, hS1, iv_at rfl h0, ?_⟩
        refine ⟨_, rfl, _, _, rfl, rfl, _, rfl, c, _, .ref r, rfl, hr1, rfl, r, _, rfl, .inr (hr2.t _), _, _, rfl, rfl, ?_⟩
        rw [List.length_map, hla]
        refine ⟨_, rfl, _, rfl, _, _, rfl, rfl, _, rfl, _, rfl, _, rfl, cut_new (lo := i + 1) (hi := i + 1 + (rangesOf c).length) hS1 rfl rfl (by omega) (by omega) fun b1 hb1 => ?_⟩
        have t1 := same_upd (o := .lst (iv ((l.drop (i + 1)).take (i + 1 + (rangesOf c).length - (i + 1))))) hb1
        refine ⟨Nat.zero_le _, fun b0 hb0 => ?_⟩
        have t2 := same_upd (o := .lst []) hb0
        refine ⟨_, rfl, c, rfl, _, rfl, ?_⟩
        rw [hls]
        have hS3 := (t1.trans t2).seq hS1
        refine ⟨_, rfl, _, _, rfl, rfl, ?_⟩
        refine ⟨_, rfl, _, rfl, _, rfl, a, _, _, _, rfl, rfl, hS3, iv_at (k := i + 1 + (rangesOf c).length) rfl hm, _, _, rfl, rfl, ?_⟩
        refine ⟨_, rfl, _, rfl, _, rfl, _, rfl, _, rfl, cut_new (lo := i + 1 + (rangesOf c).length + 1) (hi := i + 1 + (rangesOf c).length + 1 + m) hS3 rfl rfl (by omega) hl fun b2 hb2 => ?_⟩
        have t3 := same_upd (o := .lst (iv ((l.drop (i + 1 + (rangesOf c).length + 1)).take (i + 1 + (rangesOf c).length + 1 + m - (i + 1 + (rangesOf c).length + 1))))) hb2
        have e1 : i + 1 + (rangesOf c).length - (i + 1) = (rangesOf c).length := by omega
        have e2 : i + 1 + (rangesOf c).length + 1 + m - (i + 1 + (rangesOf c).length + 1) = m := by omega
        obtain ⟨w1, w2, w3⟩ : ∃ xs, H' p = some (.lst xs) ∧ True := by obtain ⟨as', a1, _⟩ := hat; exact ⟨_, a1, trivial⟩
        have n1 : b1 ≠ p := fun e => by rw [e, w2] at hb1; cases hb1
        have n2 : b2 ≠ p := fun e => by rw [e, t2 _ _ (t1 _ _ w2)] at hb2; cases hb2
        refine ⟨_, rfl, .inl ⟨rfl, _, SqL.of (t3 _ _ (t2 _ _ (t1 _ _ w2)))⟩, _, rfl, _, rfl, _, rfl, (by show 3 ≤ sizeLine; decide), fun t ht => ?_⟩
        obtain ⟨xs, x1, x2, x3⟩ := fin _ b1 b2 none none none none (((s1.trans t1).trans t2).trans t3) (((hat.mono t1).mono t2).mono t3) (t3 _ _ (t2 _ _ (by rw [upd_same, e1]))) (by rw [upd_same, e2]) n1 n2 (free_same s1 hb1) (free_same ((s1.trans t1).trans t2) hb2) hl (by omega) t ht
        exact ⟨p, xs, _, rfl, rfl, x1, x2, _, rfl, _, _, _, _, _, rfl, x3⟩
    · rw [show decide (((i : Nat) : Int) < ((l.length : Nat) : Int)) = false from decide_eq_false (by omega)]
      have e : i = l.length := by omega
      rw [e, List.drop_length] at hcalls
      have hr0 := calls_nil hcalls
      rw [hr0, List.append_nil] at hrr
      refine ⟨_, rfl, k H' p s1 hp ?_⟩
      rw [hrr]
      exact hat
end
end Rs
end
section
set_option Elab.async false
set_option linter.all false
set_option maxHeartbeats 2000000
/-! The specification's steps, call by call. -/
namespace Rs
open Vbhoam
/-- what stands in the list of calls -/
structure Form (x : List (List Int)) : Prop where
  ex : ∃ (c : Nat) (ts row : List Int), c ≤ 16 ∧ ts.length = (rangesOf c).length ∧ x = mkRaw c ts row ∧ conv x = ((c : Int), ts, row)
theorem calls_form : ∀ (f : Nat) (l : List Int) (raw : List (List (List Int))), PyFlat.calls PyVbhoam.shape f l = some raw → ∀ x ∈ raw, Form x
  | 0, l, raw, h => by
    cases l with
    | nil => rw [calls_nil h]; intro x hx; exact absurd hx (by simp)
    | cons p r => simp [PyFlat.calls] at h
  | f + 1, l, raw, h => by
    cases l with
    | nil => rw [calls_nil h]; intro x hx; exact absurd hx (by simp)
    | cons p r =>
      have h' : PyFlat.calls PyVbhoam.shape (f + 1) ((p :: r).drop 0) = some raw := h
      obtain ⟨c, ts, row, j, x, rest, f', R, rfl, h1, h2, h3, h4, h5, h6⟩ := call_step h' (by show 0 < r.length + 1; omega)
      have e : f' = f := by omega
      subst e
      intro y hy
      rcases List.mem_cons.mp hy with z | z
      · rw [z]; exact ⟨c, ts, row, h6, h3, h4, h1⟩
      · exact calls_form f' _ rest h2 y z
/-- the call that is meant -/
def callOf : Nat → List Int → List Int → Call
  | 0, [n], _ => .opens n.toNat
  | 1, [i], l => .list i.toNat l
  | 2, _, _ => .pairs
  | 3, _, _ => .rings
  | 4, _, m => .check m
  | 5, _, r => .prove r
  | 6, [i], _ => .partners i.toNat
  | 7, _, _ => .count
  | 8, [k], _ => .nth k.toNat
  | 9, [x, y, z], _ => .median x.toNat y.toNat z.toNat
  | 10, _, m => .blocks m
  | 11, [k], m => .settle k.toNat m
  | 12, [i, a, b], _ => .prefer i.toNat a.toNat b.toNat
  | 13, _, m => .book m
  | 14, _, _ => .rooms
  | 15, [i, j], _ => .join i.toNat j.toNat
  | _, _, _ => .lists
theorem len1 {l : List Int} (h : l.length = 1) : ∃ a, l = [a] := by
  match l, h with
  | [a], _ => exact ⟨a, rfl⟩
theorem len2 {l : List Int} (h : l.length = 2) : ∃ a b, l = [a, b] := by
  match l, h with
  | [a, b], _ => exact ⟨a, b, rfl⟩
theorem len3 {l : List Int} (h : l.length = 3) : ∃ a b c, l = [a, b, c] := by
  match l, h with
  | [a, b, c], _ => exact ⟨a, b, c, rfl⟩
theorem len0 {l : List Int} (h : l.length = 0) : l = [] := List.length_eq_zero_iff.mp h
theorem row7 (m : List Int) (n : Nat) : isRow m n = (decide (m.length ≤ n) && m.all fun x => inR (0, 7) x) := rfl
theorem decode_raw {c : Nat} {ts row : List Int} (hc : c ≤ 16) (ht : ts.length = (rangesOf c).length) (hr : longest c = none → row = []) :
    decode (mkRaw c ts row) = if (numsOk c ts && rowOk c row) = true then some (callOf c ts row) else none := by
  have g : ∀ (b b' : Bool) (a : Call), b = b' → Vbhoam.guard b a = if b' = true then some a else none := fun b b' a e => by rw [e]; rfl
  match c, hc, ht, hr with
  | 0, _, ht, hr =>
    obtain ⟨a, rfl⟩ := len1 ht
    rw [hr rfl]
    exact g _ _ _ (by simp [isG, inside, numsOk, rangesOf, rowOk, longest, inR])
  | 1, _, ht, _ =>
    obtain ⟨a, rfl⟩ := len1 ht
    exact g _ _ _ (by simp [isG, inside, numsOk, rangesOf, rowOk, longest, inR, isRow])
  | 2, _, ht, hr => rw [len0 ht, hr rfl]; rfl
  | 3, _, ht, hr => rw [len0 ht, hr rfl]; rfl
  | 4, _, ht, _ => rw [len0 ht]; exact g _ _ _ (by simp [isG, inside, numsOk, rangesOf, rowOk, longest, inR, isRow])
  | 5, _, ht, _ => rw [len0 ht]; exact g _ _ _ (by simp [isG, inside, numsOk, rangesOf, rowOk, longest, inR, isRow])
  | 6, _, ht, hr =>
    obtain ⟨a, rfl⟩ := len1 ht
    rw [hr rfl]
    exact g _ _ _ (by simp [isG, inside, numsOk, rangesOf, rowOk, longest, inR])
  | 7, _, ht, hr => rw [len0 ht, hr rfl]; rfl
  | 8, _, ht, hr =>
    obtain ⟨a, rfl⟩ := len1 ht
    rw [hr rfl]
    exact g _ _ _ (by simp [isG, inside, numsOk, rangesOf, rowOk, longest, inR])
  | 9, _, ht, hr =>
    obtain ⟨a, b, d, rfl⟩ := len3 ht
    rw [hr rfl]
    exact g _ _ _ (by simp [isG, inside, numsOk, rangesOf, rowOk, longest, inR])
  | 10, _, ht, _ => rw [len0 ht]; exact g _ _ _ (by simp [isG, inside, numsOk, rangesOf, rowOk, longest, inR, isRow])
  | 11, _, ht, _ =>
    obtain ⟨a, rfl⟩ := len1 ht
    exact g _ _ _ (by simp [isG, inside, numsOk, rangesOf, rowOk, longest, inR, isRow])
  | 12, _, ht, hr =>
    obtain ⟨a, b, d, rfl⟩ := len3 ht
    rw [hr rfl]
    exact g _ _ _ (by simp [isG, inside, numsOk, rangesOf, rowOk, longest, inR])
  | 13, _, ht, _ => rw [len0 ht]; exact g _ _ _ (by simp [isG, inside, numsOk, rangesOf, rowOk, longest, inR, isRow])
  | 14, _, ht, hr => rw [len0 ht, hr rfl]; rfl
  | 15, _, ht, hr =>
    obtain ⟨a, b, rfl⟩ := len2 ht
    rw [hr rfl]
    exact g _ _ _ (by simp [isG, inside, numsOk, rangesOf, rowOk, longest, inR])
  | 16, _, ht, hr => rw [len0 ht, hr rfl]; rfl
  | c + 17, h, _, _ => exact absurd h (by omega)
theorem Form.row {x : List (List Int)} (h : Form x) : ∃ (c : Nat) (ts row : List Int), c ≤ 16 ∧ ts.length = (rangesOf c).length ∧ x = mkRaw c ts row ∧ conv x = ((c : Int), ts, row) ∧ (longest c = none → row = []) := by
  obtain ⟨c, ts, row, h1, h2, h3, h4⟩ := h.ex
  refine ⟨c, ts, row, h1, h2, h3, h4, fun e => ?_⟩
  have q : mkRaw c ts row = [(c : Int) :: ts] := by unfold mkRaw; rw [e]
  rw [h3, q] at h4
  exact (congrArg (fun z : Int × List Int × List Int => z.2.2) h4).symm
theorem whole_raw {c : Nat} {ts row : List Int} (hc : c ≤ 16) (ht : ts.length = (rangesOf c).length) : PyVbhoam.whole (mkRaw c ts row) = mkRaw c ts row := by
  match c, hc, ht with
  | 0, _, ht => obtain ⟨a, rfl⟩ := len1 ht; rfl
  | 1, _, ht => obtain ⟨a, rfl⟩ := len1 ht; rfl
  | 2, _, ht => rw [len0 ht]; rfl
  | 3, _, ht => rw [len0 ht]; rfl
  | 4, _, ht => rw [len0 ht]; rfl
  | 5, _, ht => rw [len0 ht]; rfl
  | 6, _, ht => obtain ⟨a, rfl⟩ := len1 ht; rfl
  | 7, _, ht => rw [len0 ht]; rfl
  | 8, _, ht => obtain ⟨a, rfl⟩ := len1 ht; rfl
  | 9, _, ht => obtain ⟨a, b, d, rfl⟩ := len3 ht; rfl
  | 10, _, ht => rw [len0 ht]; rfl
  | 11, _, ht => obtain ⟨a, rfl⟩ := len1 ht; rfl
  | 12, _, ht => obtain ⟨a, b, d, rfl⟩ := len3 ht; rfl
  | 13, _, ht => rw [len0 ht]; rfl
  | 14, _, ht => rw [len0 ht]; rfl
  | 15, _, ht => obtain ⟨a, b, rfl⟩ := len2 ht; rfl
  | 16, _, ht => rw [len0 ht]; rfl
  | c + 17, h, _ => exact absurd h (by omega)
theorem map_whole : ∀ {l : List (List (List Int))}, (∀ x ∈ l, Form x) → l.map PyVbhoam.whole = l
  | [], _ => rfl
  | x :: l, h => by
    obtain ⟨c, ts, row, h1, h2, h3, _⟩ := (h x (.head _)).row
    rw [List.map_cons, map_whole fun y hy => h y (.tail _ hy), h3, whole_raw h1 h2]
/-! ### the machine played -/
def stateAt : State → List (List (List Int)) → State
  | s, [] => s
  | s, c :: r => stateAt (VbhoamNeutral.step s c).1 r
theorem state_snoc : ∀ (l : List (List (List Int))) (s : State) (c : List (List Int)), stateAt s (l ++ [c]) = (VbhoamNeutral.step (stateAt s l) c).1
  | [], _, _ => rfl
  | x :: l, s, c => state_snoc l _ c
theorem played_snoc : ∀ (l : List (List (List Int))) (s : State) (c : List (List Int)), PyFlat.played VbhoamNeutral.step s (l ++ [c]) = PyFlat.played VbhoamNeutral.step s l ++ [(VbhoamNeutral.step (stateAt s l) c).2]
  | [], _, _ => rfl
  | x :: l, s, c => by
    show _ :: PyFlat.played VbhoamNeutral.step _ (l ++ [c]) = _ :: (PyFlat.played VbhoamNeutral.step _ l ++ _)
    rw [played_snoc l]
    rfl
theorem told_snoc (l : List (List Int)) (a : List Int) : PyFlat.told (l ++ [a]) = PyFlat.told l ++ ((a.length : Int) :: a) := by
  unfold PyFlat.told
  rw [List.flatMap_append, List.flatMap_singleton]
end Rs
end
section
set_option Elab.async false
set_option linter.all false
set_option maxRecDepth 100000
set_option maxHeartbeats 2000000
namespace Rs
open PySem PySem.Spec PyProof.Rows L2
open Vbhoam (Likes)
theorem int_ne (x y : Nat) : (!decide (V.int (x : Int) = V.int (y : Int))) = !(x == y) := by rw [dec_nat]
theorem valid_new {n : Nat} (h : n ≤ 7) : Valid (List.replicate n []) := by
  refine ⟨by rw [List.length_replicate]; exact h, fun i hi j hj => ?_, fun i hi => ?_⟩
  all_goals
    have e : Vbhoam.listOf (List.replicate n []) i = [] := by
      unfold Vbhoam.listOf
      rw [List.getElem?_replicate]
      split <;> rfl
  · rw [e] at hj
    exact absurd hj (by simp)
  · rw [e]
    exact List.nodup_nil
theorem distinct_iff : ∀ L : List Nat, Vbhoam.distinct L = true ↔ L.Nodup
  | [] => by simp [Vbhoam.distinct]
  | x :: L => by
    unfold Vbhoam.distinct
    rw [Bool.and_eq_true, distinct_iff L, List.nodup_cons]
    simp
def badL (n i : Nat) (L : List Nat) (j : Nat) : Bool := j == 0 || (decide (n < j) || (j == i || decide (1 < L.count j)))
def okList (n i : Nat) (L : List Nat) : Bool := L.all fun j => !badL n i L j
theorem okList_iff (n i : Nat) (L : List Nat) : okList n i L = true ↔ (∀ j ∈ L, 1 ≤ j ∧ j ≤ n ∧ j ≠ i) ∧ L.Nodup := by
  unfold okList badL
  rw [List.all_eq_true]
  constructor
  · intro h
    refine ⟨fun j hj => ?_, List.nodup_iff_count.mpr fun j => ?_⟩
    · have := h j hj
      simp only [Bool.not_eq_true', Bool.or_eq_false_iff, decide_eq_false_iff_not, beq_eq_false_iff_ne] at this
      omega
    · by_cases hj : j ∈ L
      · have := h j hj
        simp only [Bool.not_eq_true', Bool.or_eq_false_iff, decide_eq_false_iff_not, beq_eq_false_iff_ne] at this
        omega
      · rw [List.count_eq_zero_of_not_mem hj]
        omega
  · rintro ⟨h1, h2⟩ j hj
    have := h1 j hj
    have := List.nodup_iff_count.mp h2 j
    simp only [Bool.not_eq_true', Bool.or_eq_false_iff, decide_eq_false_iff_not, beq_eq_false_iff_ne]
    omega
theorem valid_set {l : Likes} {i : Nat} {L : List Nat} (V : Valid l) (hi : i ∈ Vbhoam.guests l) (h : okList l.length i L = true) : Valid (l.set (i - 1) L) := by
  obtain ⟨h1, h2⟩ := (okList_iff _ _ _).mp h
  have hi' := mem_guests.mp hi
  have hgs : ∀ j, j ∈ Vbhoam.guests (l.set (i - 1) L) ↔ j ∈ Vbhoam.guests l := fun j => by rw [mem_guests, mem_guests, List.length_set]
  have hlo : ∀ j, 1 ≤ j → Vbhoam.listOf (l.set (i - 1) L) j = if j = i then L else Vbhoam.listOf l j := fun j hj => by
    unfold Vbhoam.listOf
    by_cases e : j = i
    · rw [if_pos e, e, List.getElem?_set_self (by omega)]; rfl
    · rw [if_neg e, List.getElem?_set_ne (by omega)]
  refine ⟨by rw [List.length_set]; exact V.few, fun j hj x hx => ?_, fun j hj => ?_⟩
  · have hj2 := (hgs j).mp hj
    rw [hlo j (mem_guests.mp hj2).1] at hx
    rw [hgs]
    by_cases e : j = i
    · rw [if_pos e] at hx
      have := h1 x hx
      exact ⟨mem_guests.mpr ⟨this.1, this.2.1⟩, by rw [e]; exact this.2.2⟩
    · rw [if_neg e] at hx
      exact V.one j hj2 x hx
  · have hj2 := (hgs j).mp hj
    rw [hlo j (mem_guests.mp hj2).1]
    split
    · exact h2
    · exact V.nd j hj2
theorem paired_set {α β : Type} {R : α → β → Prop} : ∀ {l₁ : List α} {l₂ : List β} (i : Nat) {a : α} {b : β}, Paired R l₁ l₂ → R a b → Paired R (l₁.set i a) (l₂.set i b)
  | _, _, _, _, _, .nil, _ => .nil
  | _, _, 0, _, _, .cons _ t, r => .cons r t
  | _, _, i + 1, _, _, .cons q t, r => .cons q (paired_set i t r)
end Rs
end
section
set_option Elab.async false
set_option linter.all false
set_option maxRecDepth 100000
set_option maxHeartbeats 2000000
/-! The row's head, where one def makes a lambda: the table of its code is tracked. -/
namespace Rs
open PySem PySem.Spec PyProof.Rows L2
open PySem.W (WData Codec OpenSpec Well WellAll ReadsW ReadsAllW)
mutual
theorem dw_mono {K : PySem.W.Frag} {H H' : Hp} (s : Same H H') : ∀ (d : WData) (v : V), Dw K H v d → Dw K H' v d
  | .none, _, x => by cases x; exact .non
  | .bool b, _, x => by cases x; exact .bl b
  | .int i, _, x => by cases x; exact .int i
  | .str z, _, x => by cases x; exact .str z
  | .bytes b, _, x => by
    cases x
    exact .byt _
  | .list ds, _, x => by
    cases x with
    | lst hs ha => exact .lst (s.seq hs) (dw_monoAll s ds _ ha)
  | .tuple ds, _, x => by
    cases x with
    | tup hs ha =>
      refine .tup ?_ (dw_monoAll s ds _ ha)
      rcases hs with (h | ⟨o, h⟩) | h
      · exact .inl (.inl (s _ _ h))
      · exact .inl (.inr ⟨o, s _ _ h⟩)
      · exact .inr h
  | .float _, _, x => by cases x
  | .dict _, _, x => by cases x
  | .bytearray _, _, x => by cases x
  | .set _, _, x => by cases x
  | .frozenset _, _, x => by cases x
  | .obj _ _, _, x => by cases x
theorem dw_monoAll {K : PySem.W.Frag} {H H' : Hp} (s : Same H H') : ∀ (ds : List WData) (vs : List V), DwAll K H vs ds → DwAll K H' vs ds
  | [], _, x => by cases x; exact .nil
  | d :: ds, _, x => by
    cases x with
    | cons h1 h2 => exact .cons (dw_mono s d _ h1) (dw_monoAll s ds _ h2)
end
/-- nothing is tracked but the arguments, and the table -/
def OnlyT (PT : Addr) (H : Hp) : Prop := H PT = some (.tbl #[]) ∧ ∀ b, b ≠ PT → H b = none ∨ ∃ o u, H b = some (.frz o u)
theorem spec_callT {P : Program} {w : World} {K : PySem.W.Frag} {mg mb : Str → Option Value} {CX : CXT} {k : Nat} {fa PT c0 : Addr} {fd : FuncData} {ps : List Str} {sp : Sp} {s₁ : Shared} {vals : List Value} {ds : List WData} {R : PySem.W.WRecords} {cl : Str → Option Addr} {d0 : WData}
    (KX : K.In s₁.heap) (hns : s₁.heap.Ns mainGlobals mg) (hb : s₁.heap.Ns builtinsNs mb) (hbb : ∀ x : Str, x ≠ "__name__" → mb x = bootBuiltins x) (hlim : s₁.heap.NoLimit) (hg : s₁.gens = #[])
    (hwl : WellAll w.params s₁.heap vals ds) (hpl : plWs ds = true) (hwt : ∀ d ∈ ds, d.weight ≤ 1048576) (hr : Room k callerA)
    (hC : PySem.W.CodeHd s₁.heap c0 PT) (hP : s₁.heap.get? PT = some (PySem.W.tabObj #[])) (hKP : K.lookup PT = none)
    (F : ∀ base : Heap, K.In base → base.Ns mainGlobals mg → (∀ b o, s₁.heap.get? b = some o → o.cls = .type "module" → base.get? b = some o) → FnOk P w K mg base CX k fa fd ps sp)
    (hbind : ∀ (s : Shared) (us : List Value), us.length = ps.length → BindsTo s fd ⟨us, []⟩ (ps.zip us)) (hlen : ds.length = ps.length)
    (hsp : ∀ (H : Hp) (xs : List V), OnlyT PT H → DwAll K H xs ds → sp xs H (fun v H' => Dw K H' v d0) fun _ _ _ => False)
    (hCX : ∀ H e s', CX [] H s₁ (fun _ _ _ => False) e s' → False) :
    codeAny (model P w) callerA (.call (.ref fa) ⟨vals, []⟩) (fun r s' => ∃ u as, r = .ok (.ret u) ∧ ReadsW R cl s'.heap u d0 as ∧ OldK s₁.heap s'.heap ∧ s'.os = s₁.os ∧ AllBare s'.gens) s₁ := by
  obtain ⟨A, ho, ar⟩ := area_all ds vals hwl hpl hwt
  have hO0 : OnlyF (argH K s₁.heap A) := argH_only ar
  have hok0 : HOk P w (argH K s₁.heap A) s₁.heap := argH_ok ar
  have hS0 := dw_all KX ar ds vals hwl hpl ho
  have hV := vals_toV ho
  have hK0 : ∀ b u, argH K s₁.heap A b = some u → K.lookup b = none := fun b u q => (argH_is ar q).1
  have seq0 : ∀ b u, argH K s₁.heap A b = some u → ∃ o vs, s₁.heap.get? b = some o ∧ o.data = .seq vs ∧ o.cls ≠ .type "module" := fun b u q => by
    obtain ⟨_, vs, _, _, ⟨e2, _⟩ | ⟨e2, _⟩⟩ := argH_is ar q
    · exact ⟨_, _, e2, rfl, fun z => by injection z with z; exact absurd z (by decide)⟩
    · exact ⟨_, _, e2, rfl, fun z => by injection z with z; exact absurd z (by decide)⟩
  generalize argH K s₁.heap A = H0 at hO0 hok0 hS0 hK0 seq0
  have nPT : H0 PT = none := by
    cases q : H0 PT with
    | none => rfl
    | some u =>
      obtain ⟨o, vs, e, d, _⟩ := seq0 PT u q
      rw [hP] at e
      cases e
      cases d
  have sHH : Same H0 (upd H0 PT (.tbl #[])) := same_upd nPT
  have hS : DwAll K (upd H0 PT (.tbl #[])) (vals.map toV) ds := dw_monoAll sHH ds _ hS0
  have hOT : OnlyT PT (upd H0 PT (.tbl #[])) := ⟨upd_same, fun b hb => by rw [upd_ne hb]; exact hO0 b⟩
  have hok : HOk P w (upd H0 PT (.tbl #[])) s₁.heap := fun b u e => by
    by_cases z : b = PT
    · subst z
      rw [upd_same] at e
      cases e
      exact hP
    · rw [upd_ne z] at e
      exact (hok0 b u e).stay (fun _ _ _ q => q) (fun b' q => sHH _ _ q) fun b' xs q => sHH _ _ q
  have hK : ∀ b u, upd H0 PT (.tbl #[]) b = some u → K.lookup b = none := fun b u q => by
    by_cases z : b = PT
    · rw [z]; exact hKP
    · rw [upd_ne z] at q; exact hK0 b u q
  have noS : ∀ {b : Addr} {o : Obj}, s₁.heap.get? b = some o → (∀ vs, o.data ≠ .seq vs) → o ≠ PySem.W.tabObj #[] → upd H0 PT (.tbl #[]) b = none := fun {b o} e d t => by
    by_cases z : b = PT
    · subst z
      rw [hP] at e
      cases e
      exact absurd rfl t
    · rw [upd_ne z]
      cases q : H0 b with
      | none => rfl
      | some u =>
        obtain ⟨o', vs, e', d', _⟩ := seq0 b u q
        rw [e] at e'
        cases e'
        exact absurd d' (d vs)
  have noM : ∀ b o, s₁.heap.get? b = some o → o.cls = .type "module" → upd H0 PT (.tbl #[]) b = none := fun b o e hc => by
    by_cases z : b = PT
    · subst z
      rw [hP] at e
      cases e
      cases hc
    · rw [upd_ne z]
      cases q : H0 b with
      | none => rfl
      | some u =>
        obtain ⟨o', vs, e', _, d'⟩ := seq0 b u q
        rw [e] at e'
        cases e'
        exact absurd hc d'
  generalize upd H0 PT (.tbl #[]) = H at hOT hok hS hK noS noM
  have base_of : ∀ {b : Addr} {o : Obj}, s₁.heap.get? b = some o → H b = none → (hidT s₁.heap H).get? b = some o := fun e n => hidT_get e n
  have nsK : ∀ {b : Addr} {m : Str → Option Value}, s₁.heap.Ns b m → (hidT s₁.heap H).Ns b m := fun {b m} ⟨o, es, ep, e, d, r⟩ => ⟨o, es, ep, base_of e (noS e (fun vs z => by rw [d] at z; cases z) (fun z => by rw [z] at d; cases d)), d, r⟩
  have nK : ∀ b o, K.lookup b = some o → H b = none := fun b o e => by
    cases q : H b with
    | none => rfl
    | some u =>
      rw [hK b u q] at e
      cases e
  have hKb : K.In (hidT s₁.heap H) := fun b o e => base_of (KX b o e) (nK b o e)
  have hM : Mod K mg (hidT s₁.heap H) := ⟨hKb, nsK hns, ⟨mb, nsK hb, hbb⟩, let ⟨mc, h1, h2⟩ := hlim; ⟨mc, nsK h1, h2⟩⟩
  have e0 : Env0 P w K mg (hidT s₁.heap H) callerA [] s₁ H := ⟨rfl, hM, fun b o e => of_hidT e, Nat.le_of_eq (hidT_size _ _), trivial, fun b hb => absurd (show b ∈ ([] : List Addr) from hb) (by simp), hok, .of_eq hg⟩
  have hl : vals.length = ps.length := by rw [wellAll_len hwl]; exact hlen
  have hmod : ∀ b o, s₁.heap.get? b = some o → o.cls = .type "module" → (hidT s₁.heap H).get? b = some o := fun b o e hc => base_of e (noM b o e hc)
  refine codeAny_mono ((F _ hKb (nsK hns) hmod).run callerA [] s₁ H ⟨vals, []⟩ vals (vals.map toV) _ _ hr e0 (hbind s₁ vals hl) hV (hsp H _ hOT hS)) fun r s' x => ?_
  cases r with
  | error e => exact (hCX H e s' x).elim
  | ok fl =>
    cases fl with
    | next => exact False.elim x
    | brk => exact False.elim x
    | cont => exact False.elim x
    | ret u =>
      obtain ⟨v, H', os, bare, un, hok', r', q⟩ := x
      have kept : ∀ b o, b ≠ PT → s₁.heap.get? b = some o → s'.heap.get? b = some o := fun b o hbP e => by
        cases q2 : H b with
        | none => exact un.keep b o e q2 (by intro z; exact absurd (show b ∈ ([] : List Addr) from z) (by simp)) (by simp)
        | some u2 =>
          rcases hOT.2 b hbP with z | ⟨ob, u3, z⟩
          · rw [q2] at z
            cases z
          · have z2 := un.frzs b ob _ z
            obtain ⟨e1, _⟩ := hok b _ z
            obtain ⟨e2, _⟩ := hok' b _ z2
            rw [e] at e1
            cases e1
            exact e2
      have KX' : K.In s'.heap := fun b o e => kept b o (fun z => by rw [z, hKP] at e; cases e) (KX b o e)
      obtain ⟨as, hrd⟩ := Dw.reads (R := R) (cl := cl) hok' KX' d0 v u q r'
      obtain ⟨more, hm⟩ := un.tbls PT #[] hOT.1
      have hP' : s'.heap.get? PT = some { cls := .none, data := .fields (#[] ++ more) } := hok' PT _ hm
      refine ⟨u, as, rfl, hrd, ⟨fun b o e => ?_, fun b o e => ?_⟩, os, bare⟩
      · by_cases z : b = PT
        · subst z
          rw [hP] at e
          cases e
          exact .inr (.inl ⟨(hC.tab hP).isCodeTable, rfl, #[], more, rfl, hP'⟩)
        · exact .inl (kept b o z e)
      · by_cases z : b = PT
        · exact ⟨_, by rw [z]; exact hP'⟩
        · exact ⟨o, kept b o z e⟩
theorem walk_specT {r : OpenSpec} {k : Nat} {q : Program} {loose : List Str} {XP : (Str → Option Value) → Heap → Prop} {YP : World → Heap → Prop} {d : DefRec} {K : Params → PySem.W.Frag} {CX : CXT} {ps : List Str} {sp : Addr → PySem.W.Frag → Sp}
    (hwell : r.wellSaid = true) (hdf : d.params.defaults = []) (hlen : r.args.length = ps.length) (hr : Room k callerA)
    (hY : ∀ (w : World) (h : Heap), YP w h → (K w.params).In h)
    (F : ∀ (w : World) (s_0 : Shared) (mg mb : Str → Option Value) (fa : Addr) (h : Heap), PySem.W.Ground q loose [] XP w s_0 mg mb h → (K w.params).In h → mg d.name = some (.ref fa) →
      ∃ (c0 PT : Addr) (fd : FuncData), PySem.W.CodeHd h c0 PT ∧ h.get? PT = some (PySem.W.tabObj #[]) ∧ (K w.params).lookup PT = none ∧ (∀ (s : Shared) (us : List Value), us.length = ps.length → BindsTo s fd ⟨us, []⟩ (ps.zip us)) ∧
        ∀ base : Heap, (K w.params).In base → base.Ns mainGlobals mg → (∀ b o, h.get? b = some o → o.cls = .type "module" → base.get? b = some o) → FnOk r.prog w (K w.params) mg base CX k fa fd ps (sp PT (K w.params)))
    (hsp : ∀ (PT : Addr) (K : PySem.W.Frag) (H : Hp) (xs : List V) (a : Codec.denoteAll r.args), OnlyT PT H → Codec.withinAll r.args a = true → Codec.app r.args r.asked a = true → DwAll K H xs (Codec.encAll r.args a) →
      sp PT K xs H (fun v H' => Dw K H' v (r.ret.enc (Codec.app r.args r.f a))) fun _ _ _ => False)
    (hCX : ∀ (H : Hp) (s : Shared) (e : Value) (s' : Shared), CX [] H s (fun _ _ _ => False) e s' → False) :
    PySem.W.WalkOS q loose XP YP r d [] (fun f vs => PySem.call f vs) := by
  intro w s_0 s₁ mg mb G Y fa o pm cd doc dV kV ho hd hcd hD hmg hg args vals as hpre hlay hrd hwl hlo
  obtain ⟨a, e1, e2⟩ := PySem.W.os_pre_some hpre
  obtain ⟨e3, hwi⟩ := Codec.encAll_of_decAll r.args args a e1
  subst e3
  have KX := hY w _ Y
  obtain ⟨c0, PT, fd, hC, hP, hKP, hb, hF⟩ := F w s_0 mg mb fa _ G KX hmg
  refine PySem.W.enter_call (codeAny_mono (spec_callT (R := []) (cl := classAt s_0.heap) (d0 := r.ret.enc (Codec.app r.args r.f a)) KX G.T.g G.T.b G.T.builtins G.T.nolimit hg hwl (pl_encAll _ _) (layable_weight hlay) hr hC hP hKP hF hb (by rw [encAll_len]; exact hlen)
    (fun H xs hO hS => hsp PT (K w.params) H xs a hO hwi e2 hS) fun H e s' => hCX H s₁ e s') fun r' s' hq => ?_)
  obtain ⟨u, as', rfl, h1, h2, h3, h4⟩ := hq
  exact ⟨.inl ⟨u, _, as', rfl, fun _ => rfl, h1, (OpenSpec.post_iff hwell hwi _ _).mpr rfl, fun z => Bool.noConfusion (show false = true from z)⟩, h2, h3, h4⟩
end Rs
end
section
set_option Elab.async false
set_option linter.all false
set_option maxRecDepth 100000
set_option maxHeartbeats 2000000
namespace Rs
open PySem PySem.Spec PyProof.Rows L2
open PySem.W (Codec)
/-- the whole program's promise -/
def spAll (PT : Addr) (K : PySem.W.Frag) : Sp := fun vs H Q _ => ∃ (a : Addr) (l : List Int) (raw : List (List (List Int))), vs = [.ref a] ∧ SqL K H a (iv l) ∧ PyFlat.calls PyVbhoam.shape l.length l = some raw ∧ l.length ≤ 17000 ∧ raw.length ≤ 400 ∧ PyInside.calls PyVbhoam.bound raw = true ∧ OnlyT PT H ∧
  ∀ H' p, H' p = some (.lst (iv (PyFlat.told (PyFlat.played VbhoamNeutral.step VbhoamNeutral.start raw)))) → Q (.ref p) H'
theorem asked_is {l : List Int} (h : PyVbhoam.answers_asked l = true) : ∃ raw, PyFlat.calls PyVbhoam.shape l.length l = some raw ∧ raw.length ≤ 400 ∧ PyInside.calls PyVbhoam.bound raw = true ∧ PyVbhoam.answers l = PyFlat.told (PyFlat.played VbhoamNeutral.step VbhoamNeutral.start raw) := by
  unfold PyVbhoam.answers_asked at h
  cases e : PyFlat.calls PyVbhoam.shape l.length l with
  | none => rw [e] at h; cases h
  | some raw =>
    rw [e] at h
    have h' : (!raw.isEmpty && PyFlat.atMost 400 raw && PyInside.calls PyVbhoam.bound raw && VbhoamNeutral.asked (raw.map PyVbhoam.whole) && PyFlat.short 10000000 (PyVbhoam.answers l)) = true := h
    rw [Bool.and_eq_true, Bool.and_eq_true, Bool.and_eq_true, Bool.and_eq_true] at h'
    refine ⟨raw, rfl, of_decide_eq_true h'.1.1.1.2, h'.1.1.2, ?_⟩
    unfold PyVbhoam.answers PyVbhoam.calls
    rw [e]
    show PyFlat.told (PyFlat.played _ _ (raw.map PyVbhoam.whole)) = _
    rw [map_whole (calls_form _ _ _ e)]
theorem all_case {PT : Addr} {K : PySem.W.Frag} {H : Hp} {xs : List V} {a : Codec.denoteAll PySem.Challenge.fa_roomsharers_s01_answers} (hO : OnlyT PT H) (hwi : Codec.withinAll PySem.Challenge.fa_roomsharers_s01_answers a = true) (hask : PyVbhoam.answers_asked a.1 = true) (hx : DwAll K H xs (Codec.encAll PySem.Challenge.fa_roomsharers_s01_answers a)) :
    spAll PT K xs H (fun v H' => Dw K H' v (PySem.Challenge.fr_roomsharers_s01_answers.enc (PyVbhoam.answers a.1))) fun _ _ _ => False := by
  cases hx with
  | cons h1 h2 =>
    cases h2
    cases h1 with
    | lst hs ha =>
      have e := L2.ints_dw a.1 _ ha
      subst e
      have q : ((Codec.inLen 0 17000 a.1 && a.1.all (Codec.inInt (Int.negSucc 999999999999999999) (Int.ofNat 1000000000000000000))) && true) = true := hwi
      rw [Bool.and_eq_true, Bool.and_eq_true] at q
      obtain ⟨raw, r1, r2, r3, r4⟩ := asked_is hask
      refine ⟨_, a.1, raw, rfl, hs, r1, (Codec.inNat_iff.mp q.1.1).2, r2, r3, hO, fun H' p hp => ?_⟩
      show Dw K H' (.ref p) (PySem.Challenge.fr_roomsharers_s01_answers.enc (PyVbhoam.answers a.1))
      rw [r4]
      exact .lst (L2.SqL.of hp) (L2.dw_ints _)
end Rs
end
section
set_option Elab.async false
set_option linter.all false
set_option maxHeartbeats 2000000
/-! What holds of the state after any calls; how long an answer is. -/
namespace Rs
open Vbhoam
structure Inv (s : State) : Prop where
  op : s.opened = decide (1 ≤ s.likes.length)
  V : Valid s.likes
  rm : ∀ m, s.rooms = some m → m.length = s.likes.length ∧ ∀ x ∈ m, x ≤ s.likes.length
theorem inv_start : Inv Vbhoam.start := ⟨rfl, valid_new (n := 0) (Nat.zero_le _), fun m h => by cases h⟩
def nice : Call → Prop
  | .opens n => 1 ≤ n ∧ n ≤ 7
  | _ => True
theorem nice_raw {c : Nat} {ts : List Int} (row : List Int) (hc : c ≤ 16) (ht : ts.length = (rangesOf c).length) (hn : numsOk c ts = true) : nice (callOf c ts row) := by
  match c, hc, ht with
  | 0, _, ht =>
    obtain ⟨a, rfl⟩ := len1 ht
    have h2 : ((decide ((1 : Int) ≤ a) && decide (a ≤ (7 : Int))) && true) = true := hn
    rw [Bool.and_eq_true, Bool.and_eq_true, decide_eq_true_eq, decide_eq_true_eq] at h2
    exact ⟨by omega, by omega⟩
  | 1, _, ht => obtain ⟨a, rfl⟩ := len1 ht; trivial
  | 2, _, ht => rw [len0 ht]; trivial
  | 3, _, ht => rw [len0 ht]; trivial
  | 4, _, ht => rw [len0 ht]; trivial
  | 5, _, ht => rw [len0 ht]; trivial
  | 6, _, ht => obtain ⟨a, rfl⟩ := len1 ht; trivial
  | 7, _, ht => rw [len0 ht]; trivial
  | 8, _, ht => obtain ⟨a, rfl⟩ := len1 ht; trivial
  | 9, _, ht => obtain ⟨a, b, d, rfl⟩ := len3 ht; trivial
  | 10, _, ht => rw [len0 ht]; trivial
  | 11, _, ht => obtain ⟨a, rfl⟩ := len1 ht; trivial
  | 12, _, ht => obtain ⟨a, b, d, rfl⟩ := len3 ht; trivial
  | 13, _, ht => rw [len0 ht]; trivial
  | 14, _, ht => rw [len0 ht]; trivial
  | 15, _, ht => obtain ⟨a, b, rfl⟩ := len2 ht; trivial
  | 16, _, ht => rw [len0 ht]; trivial
  | c + 17, h, _ => exact absurd h (by omega)
theorem step_raw {c : Nat} {ts row : List Int} (s : State) (hc : c ≤ 16) (ht : ts.length = (rangesOf c).length) (hr : longest c = none → row = []) :
    VbhoamNeutral.step s (mkRaw c ts row) = if (numsOk c ts && rowOk c row) = true then step s (callOf c ts row) else (s, [-1]) := by
  show stepNumbers s _ = _
  unfold stepNumbers
  rw [decode_raw hc ht hr]
  cases numsOk c ts && rowOk c row <;> rfl
theorem isPairing_is {l : Likes} {m : Pairing} (h : isPairing l m = true) : m.length = l.length ∧ ∀ i ∈ guests l, partner m i = 0 ∨ mutual_ l i (partner m i) = true ∧ partner m (partner m i) = i := by
  unfold isPairing at h
  rw [Bool.and_eq_true, List.all_eq_true] at h
  refine ⟨of_decide_eq_true h.1, fun i hi => ?_⟩
  have q := h.2 i hi
  rw [Bool.or_eq_true, Bool.and_eq_true, beq_iff_eq, beq_iff_eq] at q
  exact q
theorem mutual_in {l : Likes} (V : Valid l) {i j : Nat} (hi : i ∈ guests l) (h : mutual_ l i j = true) : j ∈ guests l := by
  rw [mutual_eq V hi, Bool.and_eq_true] at h
  exact (V.one i hi j (List.contains_iff_mem.mp h.1)).1
theorem mem_partner {m : List Nat} {x : Nat} (h : x ∈ m) : ∃ i, 1 ≤ i ∧ i ≤ m.length ∧ partner m i = x := by
  obtain ⟨k, hk, e⟩ := List.mem_iff_getElem.mp h
  refine ⟨k + 1, by omega, by omega, ?_⟩
  unfold partner
  rw [show k + 1 - 1 = k from rfl, List.getElem?_eq_getElem hk, e]
  rfl
theorem pairing_le {l : Likes} {m : Pairing} (V : Valid l) (h : isPairing l m = true) : ∀ x ∈ m, x ≤ l.length := fun x hx => by
  obtain ⟨h1, h2⟩ := isPairing_is h
  obtain ⟨i, i1, i2, rfl⟩ := mem_partner hx
  have hi := mem_guests.mpr ⟨i1, by rw [← h1]; exact i2⟩
  rcases h2 i hi with z | ⟨z, _⟩
  · rw [z]; exact Nat.zero_le _
  · exact (mem_guests.mp (mutual_in V hi z)).2
theorem setAt_len (m : Pairing) (i x : Nat) : (setAt m i x).length = m.length := List.length_set
theorem setAt_le {m : Pairing} {i x n : Nat} (h : ∀ y ∈ m, y ≤ n) (hx : x ≤ n) : ∀ y ∈ setAt m i x, y ≤ n := fun y hy => by
  rcases List.mem_or_eq_of_mem_set hy with z | z
  · exact h y z
  · rw [z]; exact hx
theorem together_len (m : Pairing) (i j : Nat) : (together m i j).length = m.length := by
  unfold together
  simp only [setAt_len]
  split <;> split <;> simp only [setAt_len]
theorem together_le {m : Pairing} {i j n : Nat} (h : ∀ y ∈ m, y ≤ n) (hi : i ≤ n) (hj : j ≤ n) : ∀ y ∈ together m i j, y ≤ n := by
  unfold together
  refine setAt_le (setAt_le ?_ hj) hi
  split <;> split
  · exact h
  · exact setAt_le h (Nat.zero_le _)
  · exact setAt_le h (Nat.zero_le _)
  · exact setAt_le (setAt_le h (Nat.zero_le _)) (Nat.zero_le _)
theorem settled_len (l : Likes) : ∀ (k : Nat) (m : Pairing), (settled l k m).1.length = m.length
  | 0, _ => rfl
  | k + 1, m => by
    unfold settled
    cases blocks l m with
    | nil => rfl
    | cons p r => exact (settled_len l k _).trans (together_len _ _ _)
theorem flatK_len {α β : Type} {f : α → List β} {k : Nat} : ∀ {xs : List α}, (∀ x ∈ xs, (f x).length ≤ k) → (xs.flatMap f).length ≤ xs.length * k
  | [], _ => Nat.zero_le _
  | x :: xs, h => by
    rw [List.flatMap_cons, List.length_append, List.length_cons, Nat.succ_mul, Nat.add_comm]
    exact Nat.add_le_add (flatK_len fun y hy => h y (.tail _ hy)) (h x (.head _))
theorem blocks_len {l : Likes} (V : Valid l) (m : Pairing) : (blocks l m).length ≤ 49 := by
  have h : (blocks l m).length ≤ (guests l).length * 7 := flatK_len fun i _ => by
    rw [List.length_map]
    exact Nat.le_trans (List.length_filter_le _ _) (by rw [guests_len]; exact V.few)
  rw [guests_len] at h
  have := V.few
  omega
theorem pairRow_len {l : Likes} (V : Valid l) (m : Pairing) : (pairRow (blocks l m)).length ≤ 99 := by
  unfold pairRow
  rw [List.length_cons]
  have h := flatK_len (f := fun p : Nat × Nat => [nat p.1, nat p.2]) (k := 2) (xs := blocks l m) fun _ _ => Nat.le_refl 2
  have := blocks_len V m
  omega
theorem partners_len {l : Likes} (V : Valid l) {g : Nat} (hg : g ∈ guests l) : (Vbhoam.partners l g).length ≤ 8 := by
  have hm : ∀ x ∈ (stables l).map fun m => partner m g, x = 0 ∨ x ∈ listOf l g := fun x hx => by
    obtain ⟨m, h1, rfl⟩ := List.mem_map.mp hx
    exact stable_partner V h1 hg
  obtain ⟨h1, h2⟩ := partners_ok V hg hm
  refine sub_len (L := List.range 8) (h1.imp fun h e => by rw [e] at h; exact Nat.lt_irrefl _ h) fun x hx => List.mem_range.mpr ?_
  rcases hm x ((h2 x).mp hx) with z | z
  · omega
  · have := (mem_guests.mp (V.one g hg x z).1).2
    have := V.few
    omega
theorem list_len {l : Likes} (V : Valid l) : ∀ L ∈ l, L.length ≤ 7 := fun L hL => by
  obtain ⟨k, hk, e⟩ := List.mem_iff_getElem.mp hL
  have hi : k + 1 ∈ guests l := mem_guests.mpr ⟨by omega, by omega⟩
  have el : listOf l (k + 1) = L := by
    unfold listOf
    rw [show k + 1 - 1 = k from rfl, List.getElem?_eq_getElem hk, e]
    rfl
  have h := sub_len (V.nd _ hi) fun x hx => (V.one _ hi x hx).1
  rw [el, guests_len] at h
  exact Nat.le_trans h V.few
theorem guest_iff {s : State} {i : Nat} : isGuest s i = true ↔ i ∈ guests s.likes := by
  unfold isGuest
  rw [Bool.and_eq_true, decide_eq_true_eq, decide_eq_true_eq, mem_guests]
theorem not_false' {b : Bool} (h : ¬ b = false) : b = true := by cases b <;> simp_all
theorem list_ok {s : State} {i : Nat} {L : List Nat} (h1 : ¬ (L.all (fun j => isGuest s j && j != i) = false ∨ distinct L = false)) : okList s.likes.length i L = true := by
  have a := not_false' fun z => h1 (.inl z)
  have b := not_false' fun z => h1 (.inr z)
  rw [List.all_eq_true] at a
  refine (okList_iff _ _ _).mpr ⟨fun j hj => ?_, distinct_iff _ |>.mp b⟩
  have q := a j hj
  rw [Bool.and_eq_true, bne_iff_ne] at q
  have r := mem_guests.mp (guest_iff.mp q.1)
  exact ⟨r.1, r.2, q.2⟩
theorem does_ok {s t : State} {c : Call} {a : List Int} (I : Inv s) (hc : nice c) (h : does s c = .ok (t, a)) : Inv t ∧ a.length ≤ 119 := by
  have few := I.V.few
  cases c with
  | opens n =>
    dsimp only [does] at h
    split at h
    · cases h
    · cases h
      refine ⟨⟨?_, valid_new hc.2, fun m z => by cases z⟩, Nat.zero_le _⟩
      show true = decide (1 ≤ (List.replicate n ([] : List Nat)).length)
      rw [List.length_replicate, decide_eq_true hc.1]
  | list i l =>
    dsimp only [does] at h
    split at h
    · cases h
    · rename_i hg
      split at h
      · cases h
      · rename_i hl
        cases h
        have hi := guest_iff.mp (not_false' hg)
        refine ⟨⟨?_, valid_set I.V hi (list_ok hl), fun m z => ?_⟩, Nat.zero_le _⟩
        · show s.opened = decide (1 ≤ (s.likes.set _ _).length)
          rw [List.length_set]
          exact I.op
        · show m.length = (s.likes.set _ _).length ∧ ∀ x ∈ m, x ≤ (s.likes.set _ _).length
          rw [List.length_set]
          exact I.rm m z
  | pairs =>
    dsimp only [does] at h
    cases e : stables s.likes with
    | nil => rw [e] at h; cases h; exact ⟨I, by show 1 ≤ 119; omega⟩
    | cons m r =>
      rw [e] at h; cases h
      have := stable_len (l := s.likes) (m := m) (by rw [e]; exact .head _)
      exact ⟨I, by rw [List.length_cons, List.length_map]; omega⟩
  | rings =>
    dsimp only [does] at h
    cases e : witness s.likes with
    | none => rw [e] at h; cases h; exact ⟨I, by show 1 ≤ 119; omega⟩
    | some r =>
      rw [e] at h; cases h
      rw [witness_eq] at e
      have := (allR_full (List.mem_of_find?_eq_some e)).len
      have h2 : (odd s.likes r).length ≤ (guests s.likes).length := List.length_filter_le _ _
      rw [guests_len] at h2
      exact ⟨I, by rw [List.length_cons, List.length_append, List.length_map, List.length_cons, List.length_map]; omega⟩
  | check m =>
    dsimp only [does] at h
    split at h
    · cases h
    · split at h
      · cases h; exact ⟨I, by show 1 ≤ 119; omega⟩
      · split at h
        · cases h; exact ⟨I, by show 1 ≤ 119; omega⟩
        · cases h; exact ⟨I, by show 3 ≤ 119; omega⟩
  | prove r =>
    dsimp only [does] at h
    split at h
    · cases h
    · split at h
      · cases h; exact ⟨I, by show 1 ≤ 119; omega⟩
      · split at h
        · cases h; exact ⟨I, by show 2 ≤ 119; omega⟩
        · split at h
          · cases h; exact ⟨I, by show 3 ≤ 119; omega⟩
          · cases h
            have h2 : (odd s.likes (nats r)).length ≤ (guests s.likes).length := List.length_filter_le _ _
            rw [guests_len] at h2
            exact ⟨I, by rw [List.length_cons, List.length_cons, List.length_map]; omega⟩
  | partners i =>
    dsimp only [does] at h
    split at h
    · cases h
    · rename_i hg
      cases h
      have := partners_len I.V (guest_iff.mp (not_false' hg))
      exact ⟨I, by rw [List.length_cons, List.length_map]; omega⟩
  | count =>
    dsimp only [does] at h
    cases h
    exact ⟨I, by show 2 ≤ 119; omega⟩
  | nth k =>
    dsimp only [does] at h
    split at h
    · cases h
    · rename_i m e
      cases h
      have hm : m ∈ stables s.likes := by
        split at e
        · cases e
        · exact List.mem_of_getElem? e
      exact ⟨I, by rw [List.length_map, stable_len hm]; omega⟩
  | median x y z =>
    dsimp only [does] at h
    split at h
    · cases h
      exact ⟨I, by rw [List.length_map]; unfold Vbhoam.median; rw [List.length_map, guests_len]; omega⟩
    · cases h
  | blocks m =>
    dsimp only [does] at h
    split at h
    · cases h
    · split at h
      · cases h
      · cases h
        exact ⟨I, Nat.le_trans (pairRow_len I.V _) (by omega)⟩
  | settle k m =>
    dsimp only [does] at h
    split at h
    · cases h
    · rename_i hl
      split at h
      · cases h
      · cases h
        refine ⟨I, ?_⟩
        rw [List.length_cons, List.length_map, settled_len]
        unfold nats
        rw [List.length_map]
        omega
  | prefer i a b =>
    dsimp only [does] at h
    split at h
    · cases h
    · split at h
      · cases h
      · cases h
        exact ⟨I, by show 1 ≤ 119; omega⟩
  | book m =>
    dsimp only [does] at h
    split at h
    · cases h
    · split at h
      · cases h
      · rename_i hp
        cases h
        have hp := not_false' hp
        refine ⟨⟨I.op, I.V, fun m' z => ?_⟩, by show 1 ≤ 119; omega⟩
        cases z
        exact ⟨(isPairing_is hp).1, pairing_le I.V hp⟩
  | rooms =>
    dsimp only [does] at h
    cases e : s.rooms with
    | none => rw [e] at h; cases h
    | some m =>
      rw [e] at h
      cases h
      refine ⟨I, ?_⟩
      have := (I.rm m e).1
      rw [List.length_append, List.length_map]
      have := pairRow_len I.V m
      split
      · rw [List.length_cons]; omega
      · rw [List.length_singleton]; omega
  | join i j =>
    dsimp only [does] at h
    cases e : s.rooms with
    | none => rw [e] at h; cases h
    | some m =>
      rw [e] at h
      dsimp only at h
      split at h
      · cases h
      · rename_i hg
        split at h
        · cases h
        · split at h
          · cases h
          · cases h
            have hi := (mem_guests.mp (guest_iff.mp (not_false' fun z => hg (.inl z)))).2
            have hj := (mem_guests.mp (guest_iff.mp (not_false' fun z => hg (.inr z)))).2
            obtain ⟨h1, h2⟩ := I.rm m e
            refine ⟨⟨I.op, I.V, fun m' z => ?_⟩, by rw [List.length_map, together_len]; omega⟩
            cases z
            exact ⟨(together_len _ _ _).trans h1, together_le h2 hi hj⟩
  | lists =>
    dsimp only [does] at h
    cases h
    refine ⟨I, ?_⟩
    rw [List.length_cons]
    have := flatK_len (f := fun l : List Nat => nat l.length :: l.map nat) (k := 8) (xs := s.likes) fun L hL => by
      rw [List.length_cons, List.length_map]
      have := list_len I.V L hL
      omega
    omega
theorem step_ok {s : State} (I : Inv s) {x : List (List Int)} (hx : Form x) : Inv (VbhoamNeutral.step s x).1 ∧ (VbhoamNeutral.step s x).2.length ≤ 120 := by
  obtain ⟨c, ts, row, h1, h2, rfl, _, h3⟩ := hx.row
  rw [step_raw s h1 h2 h3]
  cases e : numsOk c ts && rowOk c row with
  | false => exact ⟨I, by show 1 ≤ 120; omega⟩
  | true =>
    rw [Bool.and_eq_true] at e
    show Inv (step s _).1 ∧ (step s _).2.length ≤ 120
    unfold step
    split
    · exact ⟨I, by show 1 ≤ 120; omega⟩
    · cases q : does s (callOf c ts row) with
      | error z => exact ⟨I, by show 1 ≤ 120; omega⟩
      | ok p =>
        obtain ⟨t, a⟩ := p
        obtain ⟨h1, h2⟩ := does_ok I (nice_raw row h1 h2 e.1) q
        exact ⟨h1, by show (0 :: a).length ≤ 120; rw [List.length_cons]; omega⟩
theorem inv_at : ∀ (l : List (List (List Int))) {s : State}, Inv s → (∀ x ∈ l, Form x) → Inv (stateAt s l)
  | [], _, I, _ => I
  | c :: l, _, I, h => inv_at l (step_ok I (h c (.head _))).1 fun y hy => h y (.tail _ hy)
theorem told_len : ∀ (l : List (List (List Int))) {s : State}, Inv s → (∀ x ∈ l, Form x) → (PyFlat.told (PyFlat.played VbhoamNeutral.step s l)).length ≤ l.length * 121
  | [], _, _, _ => Nat.zero_le _
  | c :: l, s, I, hf => by
    show (((VbhoamNeutral.step s c).2 :: PyFlat.played VbhoamNeutral.step (VbhoamNeutral.step s c).1 l).flatMap fun a => (a.length : Int) :: a).length ≤ _
    have h := told_len l (step_ok I (hf c (.head _))).1 fun y hy => hf y (.tail _ hy)
    have h2 := (step_ok I (hf c (.head _))).2
    unfold PyFlat.told at h
    rw [List.flatMap_cons, List.length_append, List.length_cons, List.length_cons, Nat.succ_mul]
    omega
end Rs
end
section
set_option Elab.async false
set_option linter.all false
set_option maxHeartbeats 2000000
/-! Going together, guest by guest. -/
namespace Rs
open Vbhoam
theorem together_at {l : Likes} {m : Pairing} (V : Valid l) (h : isPairing l m = true) {i j x : Nat} (hi : i ∈ guests l) (hj : j ∈ guests l) (hx : x ∈ guests l) :
    partner (together m i j) x = if x = j then i else if x = i then j else if x = partner m i ∨ x = partner m j then 0 else partner m x := by
  obtain ⟨hl, hp⟩ := isPairing_is h
  have i1 := mem_guests.mp hi
  have j1 := mem_guests.mp hj
  have x1 := mem_guests.mp hx
  have le : ∀ y ∈ guests l, partner m y ≤ m.length := fun y hy => by
    have y1 := mem_guests.mp hy
    rw [hl]
    exact pairing_le V h _ (partner_mem y1.1 (by omega))
  have hpi := le i hi
  have hpj := le j hj
  unfold together
  dsimp only
  have step : ∀ (k : Pairing) (a : Nat), a ≤ k.length → ∀ y, 1 ≤ y → partner (if a = 0 then k else setAt k a 0) y = if y = a then 0 else partner k y := fun k a ha y hy => by
    by_cases e : a = 0
    · rw [if_pos e, if_neg (by omega)]
    · rw [if_neg e, partner_setAt (by omega) hy ha]
  have len : ∀ (k : Pairing) (a : Nat), (if a = 0 then k else setAt k a 0).length = k.length := fun k a => by split <;> simp only [setAt_len]
  rw [partner_setAt j1.1 x1.1 (by rw [setAt_len, len, len]; omega), partner_setAt i1.1 x1.1 (by rw [len, len]; omega), step _ _ (by rw [len]; exact hpj) _ x1.1, step _ _ hpi _ x1.1]
  by_cases e1 : x = j
  · rw [if_pos e1, if_pos e1]
  · rw [if_neg e1, if_neg e1]
    by_cases e2 : x = i
    · rw [if_pos e2, if_pos e2]
    · rw [if_neg e2, if_neg e2]
      by_cases e3 : x = partner m j
      · rw [if_pos e3, if_pos (.inr e3)]
      · rw [if_neg e3]
        by_cases e4 : x = partner m i
        · rw [if_pos e4, if_pos (.inl e4)]
        · rw [if_neg e4, if_neg (fun z => z.elim e4 e3)]
theorem partner_back {l : Likes} {m : Pairing} (V : Valid l) (h : isPairing l m = true) {i x : Nat} (hi : i ∈ guests l) (hx : x ∈ guests l) : x = partner m i ↔ partner m x = i := by
  obtain ⟨hl, hp⟩ := isPairing_is h
  have i1 := mem_guests.mp hi
  have x1 := mem_guests.mp hx
  constructor
  · intro e
    rcases hp i hi with z | ⟨_, z⟩
    · omega
    · rw [e]; exact z
  · intro e
    rcases hp x hx with z | ⟨_, z⟩
    · omega
    · rw [e] at z; exact z.symm
/-- who goes together shares as the rules let -/
theorem together_ok {l : Likes} {m : Pairing} (V : Valid l) (h : isPairing l m = true) {i j : Nat} (hi : i ∈ guests l) (hj : j ∈ guests l) (hm : mutual_ l i j = true) : isPairing l (together m i j) = true := by
  have hb := isPairing_is h
  have ne : i ≠ j := fun e => by
    rw [e] at hm
    unfold mutual_ at hm
    simp at hm
  unfold isPairing
  rw [Bool.and_eq_true, List.all_eq_true]
  refine ⟨by rw [together_len]; exact beq_iff_eq.mpr hb.1, fun x hx => ?_⟩
  rw [Bool.or_eq_true, Bool.and_eq_true, beq_iff_eq, beq_iff_eq, together_at V h hi hj hx]
  by_cases e1 : x = j
  · refine .inr ?_
    rw [if_pos e1, together_at V h hi hj hi, if_neg ne, if_pos rfl, e1, mutual_comm]
    exact ⟨hm, rfl⟩
  · by_cases e2 : x = i
    · refine .inr ?_
      rw [if_neg e1, if_pos e2, together_at V h hi hj hj, if_pos rfl, e2]
      exact ⟨hm, rfl⟩
    · rw [if_neg e1, if_neg e2]
      by_cases e3 : x = partner m i ∨ x = partner m j
      · rw [if_pos e3]; exact .inl rfl
      · rw [if_neg e3]
        rcases hb.2 x hx with z | ⟨z1, z2⟩
        · exact .inl z
        · refine .inr ⟨z1, ?_⟩
          have hy := mutual_in V hx z1
          have n1 : partner m x ≠ i := fun e => e3 (.inl ((partner_back V h hi hx).mpr e))
          have n2 : partner m x ≠ j := fun e => e3 (.inr ((partner_back V h hj hx).mpr e))
          have n3 : ¬ (partner m x = partner m i ∨ partner m x = partner m j) := fun e => by
            rcases e with e | e
            · rw [e] at z2
              rcases hb.2 i hi with q | ⟨_, q⟩
              · rw [e, q] at hy; have := mem_guests.mp hy; omega
              · exact e2 (z2.symm.trans q)
            · rw [e] at z2
              rcases hb.2 j hj with q | ⟨_, q⟩
              · rw [e, q] at hy; have := mem_guests.mp hy; omega
              · exact e1 (z2.symm.trans q)
          rw [together_at V h hi hj hy, if_neg n2, if_neg n1, if_neg n3]
          exact z2
end Rs
end
section
set_option Elab.async false
set_option linter.all false
set_option maxHeartbeats 2000000
/-! The middle one of three; going together. -/
namespace Rs
open Vbhoam
theorem middle_is {l : Likes} (V : Valid l) {i a b c : Nat} (hi : i ∈ guests l) (ha : a = 0 ∨ a ∈ listOf l i) (hb : b = 0 ∨ b ∈ listOf l i) (hc : c = 0 ∨ c ∈ listOf l i) :
    (middle l i a b c = a ∨ middle l i a b c = b ∨ middle l i a b c = c) ∧ rank l i (middle l i a b c) = max (min (rank l i a) (rank l i b)) (min (max (rank l i a) (rank l i b)) (rank l i c)) := by
  have ab : a ≠ b → rank l i a ≠ rank l i b := fun h e => h (rank_inj V hi ha hb e)
  have ac : a ≠ c → rank l i a ≠ rank l i c := fun h e => h (rank_inj V hi ha hc e)
  have bc : b ≠ c → rank l i b ≠ rank l i c := fun h e => h (rank_inj V hi hb hc e)
  unfold middle prefers
  simp only [Bool.or_eq_true, Bool.and_eq_true, decide_eq_true_eq]
  split
  · exact ⟨.inr (.inl rfl), by omega⟩
  · split
    · exact ⟨.inl rfl, by omega⟩
    · split
      · rename_i h
        refine ⟨.inl rfl, ?_⟩
        rcases h with rfl | rfl <;> omega
      · rename_i h
        have h1 : a ≠ b := fun e => h (.inl e)
        have h2 : a ≠ c := fun e => h (.inr e)
        split
        · rename_i e
          subst e
          exact ⟨.inr (.inl rfl), by omega⟩
        · rename_i h3
          have := ab h1
          have := ac h2
          have := bc h3
          exact ⟨.inr (.inr rfl), by omega⟩
/-- the second of three, by their places -/
theorem middle_sorted {l : Likes} (V : Valid l) {i a b c x y z : Nat} (hi : i ∈ guests l) (ha : a = 0 ∨ a ∈ listOf l i) (hb : b = 0 ∨ b ∈ listOf l i) (hc : c = 0 ∨ c ∈ listOf l i) (hp : [x, y, z].Perm [a, b, c]) (h1 : rank l i x ≤ rank l i y) (h2 : rank l i y ≤ rank l i z) : middle l i a b c = y := by
  obtain ⟨m1, m2⟩ := middle_is V hi ha hb hc
  have hmem : ∀ q, q ∈ [a, b, c] → q = 0 ∨ q ∈ listOf l i := fun q hq => by
    simp only [List.mem_cons, List.not_mem_nil, or_false] at hq
    rcases hq with rfl | rfl | rfl <;> assumption
  have hy := hmem y (hp.mem_iff.mp (by simp))
  have hm : middle l i a b c = 0 ∨ middle l i a b c ∈ listOf l i := hmem _ (by
    simp only [List.mem_cons, List.not_mem_nil, or_false]
    exact m1)
  refine rank_inj V hi hm hy ?_
  rw [m2]
  have hr : [rank l i x, rank l i y, rank l i z].Perm [rank l i a, rank l i b, rank l i c] := hp.map (rank l i)
  have hsum := hr.sum_nat
  simp only [List.sum_cons, List.sum_nil] at hsum
  have k1 : ∀ q, q ∈ [rank l i a, rank l i b, rank l i c] → rank l i x ≤ q ∧ q ≤ rank l i z := fun q hq => by
    have := hr.mem_iff.mpr hq
    simp only [List.mem_cons, List.not_mem_nil, or_false] at this
    omega
  have ka := k1 _ (List.mem_cons_self ..)
  have kb := k1 _ (.tail _ (List.mem_cons_self ..))
  have kc := k1 _ (.tail _ (.tail _ (List.mem_cons_self ..)))
  have hx := hr.mem_iff.mp (List.mem_cons_self ..)
  have hz := hr.mem_iff.mp (show rank l i z ∈ [rank l i x, rank l i y, rank l i z] from .tail _ (.tail _ (List.mem_cons_self ..)))
  simp only [List.mem_cons, List.not_mem_nil, or_false] at hx hz
  omega
end Rs
end
section
set_option Elab.async false
set_option linter.all false
set_option maxRecDepth 100000
set_option maxHeartbeats 2000000
namespace Rs
open PySem PySem.Spec PyProof.Rows L2
open Vbhoam (Likes)
section
variable {P : Program} {w : World} {K : PySem.W.Frag} {mg : Str → Option Value} {base : Heap}
/-! ### going together -/
def left0 (i j x : Nat) : Nat := if (x == i || x == j) = true then 0 else x
def goneT (m : List Nat) (i j : Nat) : List Nat := Vbhoam.setAt (Vbhoam.setAt (m.map (left0 i j)) i j) j i
theorem row_ext {m m' : List Nat} (hl : m.length = m'.length) (h : ∀ x, 1 ≤ x → x ≤ m.length → Vbhoam.partner m x = Vbhoam.partner m' x) : m = m' := by
  refine List.ext_getElem? fun k => ?_
  by_cases c : k < m.length
  · have e := h (k + 1) (by omega) (by omega)
    unfold Vbhoam.partner at e
    rw [show k + 1 - 1 = k from rfl, List.getElem?_eq_getElem c, List.getElem?_eq_getElem (by omega)] at e
    rw [List.getElem?_eq_getElem c, List.getElem?_eq_getElem (by omega)]
    exact congrArg some e
  · rw [List.getElem?_eq_none (by omega), List.getElem?_eq_none (by omega)]
theorem partner_map {m : List Nat} {x : Nat} (f : Nat → Nat) (h1 : 1 ≤ x) (h2 : x ≤ m.length) : Vbhoam.partner (m.map f) x = f (Vbhoam.partner m x) := by
  unfold Vbhoam.partner
  rw [List.getElem?_map, List.getElem?_eq_getElem (by omega)]
  rfl
theorem goneT_eq {l : Likes} {m : List Nat} (V : Valid l) (h : Vbhoam.isPairing l m = true) {i j : Nat} (hi : i ∈ Vbhoam.guests l) (hj : j ∈ Vbhoam.guests l) : goneT m i j = Vbhoam.together m i j := by
  have hl := (isPairing_is h).1
  have i1 := mem_guests.mp hi
  have j1 := mem_guests.mp hj
  have len : (goneT m i j).length = m.length := by unfold goneT; rw [setAt_len, setAt_len, List.length_map]
  refine row_ext (len.trans (together_len _ _ _).symm) fun x x1 x2 => ?_
  rw [len] at x2
  have hx : x ∈ Vbhoam.guests l := mem_guests.mpr ⟨x1, by omega⟩
  rw [together_at V h hi hj hx]
  unfold goneT
  rw [partner_setAt j1.1 x1 (by rw [setAt_len, List.length_map]; omega), partner_setAt i1.1 x1 (by rw [List.length_map]; omega), partner_map _ x1 x2]
  by_cases e1 : x = j
  · rw [if_pos e1, if_pos e1]
  · rw [if_neg e1, if_neg e1]
    by_cases e2 : x = i
    · rw [if_pos e2, if_pos e2]
    · rw [if_neg e2, if_neg e2]
      unfold left0
      by_cases e3 : x = Vbhoam.partner m i ∨ x = Vbhoam.partner m j
      · rw [if_pos e3, if_pos]
        rcases e3 with e3 | e3
        · rw [(partner_back V h hi hx).mp e3]; simp
        · rw [(partner_back V h hj hx).mp e3]; simp
      · rw [if_neg e3, if_neg]
        intro z
        rw [Bool.or_eq_true, beq_iff_eq, beq_iff_eq] at z
        rcases z with z | z
        · exact e3 (.inl ((partner_back V h hi hx).mpr z))
        · exact e3 (.inr ((partner_back V h hj hx).mpr z))
theorem nv_set (l : List Nat) (k x : Nat) : (nv l).set k (V.int (x : Int)) = nv (l.set k x) := by
  unfold nv
  rw [List.map_set]
theorem ixN_at {n i : Nat} (h1 : 1 ≤ i) (h2 : i ≤ n) : ixN n ((i : Int) - 1) = some (i - 1) := by
  unfold ixN
  rw [if_pos (by omega), if_pos (by omega)]
  exact congrArg some (by omega)
def spGone : Sp := fun vs H Q _ => ∃ (b : Addr) (m : List Nat) (i j : Nat), vs = [.ref b, .int i, .int j] ∧ H b = some (.lst (nv m)) ∧ m.length ≤ 100 ∧ 1 ≤ i ∧ i ≤ m.length ∧ 1 ≤ j ∧ j ≤ m.length ∧
  ∀ p, H p = none → Q (.ref p) (upd H p (.lst (nv (goneT m i j))))
theorem d_gone_together (T : Txt K mg) : Dn P w K mg base "gone_together" 1 ["pairing", "one", "other"] spGone := by
  refine Dn.of T.f_gone_together sc_gone_together (fun vs H Q E h => ?_) (fun f cdv A outer s H vs Q E hr h => ?_)
  · obtain ⟨b, m, i, j, rfl, _⟩ := h
    rfl
  · obtain ⟨b, m, i, j, rfl, hb, hlen, i1, i2, j1, j2, k⟩ := h
    refine ⟨_, (pss_cons (ps_setLc (i := 4) (own := [("partner", 3)]) rfl sc_gone_together.nd rfl rfl (sw_true rfl rfl rfl rfl) (pi_list (pv 0)) (blkOk_by (N := ["pairing", "one", "other", "partner", "changed"]) (sc := defScope s_gone_together) (by decide +kernel)) (fun _ _ _ _ _ => pg_name (i := 3) sc_gone_together.nd rfl (Or.inl rfl)) (fun _ _ _ _ _ => pts_nil) (fun _ _ _ _ _ => (pe_ifExp (PW.pt (pw_or (pt_cmpR op_eq (pv 3) (pv 1) (nomark _)) (pw_or1 (pt_cmpR op_eq (pv 3) (pv 2) (nomark _))))) pe_int (pv 3))))
      (pss_cons (ps_asg (pv 2) (pg_sub (pv 4) (pe_op op_sub (pv 1) pe_int) set_list))
      (pss_cons (ps_asg (pv 1) (pg_sub (pv 4) (pe_op op_sub (pv 2) pe_int) set_list))
      (pss_one (ps_ret (pv 4)))))), ?_⟩
    have sz : sizeLine = 16777216 := rfl
    refine ⟨_, rfl, b, rfl, ⟨_, SqL.of hb⟩, fun D hD => lc_list (K := K) (a := b) (xs := nv m) (fun t H' => H' = upd H D (.lst (nv ((m.take t).map (left0 i j))))) rfl (fun t H' _ e => by rw [e]; exact (same_upd hD).seq (SqL.of hb)) ?_ ?_⟩
    · rintro t x H' hx rfl
      obtain ⟨z, hz, rfl⟩ := nv_of hx
      have hbd : (nv ((m.take t).map (left0 i j))).length < sizeLine := by
        rw [nv_len, List.length_map, List.length_take]
        omega
      have fin : ∀ v : Nat, left0 i j z = v → upd (upd H D (.lst (nv ((m.take t).map (left0 i j))))) D (.lst (nv ((m.take t).map (left0 i j)) ++ [V.int (v : Int)])) = upd H D (.lst (nv ((m.take (t + 1)).map (left0 i j)))) := fun v e => by
        rw [upd_upd, take_snoc hz, List.map_append, nv_app, ← e]
        rfl
      refine ⟨rfl, _, rfl, _, rfl, rfl, _, rfl, ?_⟩
      rw [dec_nat z i]
      cases c1 : (z == i) with
      | true => exact ⟨_, upd_same, hbd, fin 0 (by unfold left0; rw [c1]; rfl)⟩
      | false =>
        refine ⟨_, rfl, _, rfl, rfl, _, rfl, ?_⟩
        rw [dec_nat z j]
        cases c2 : (z == j) with
        | true => exact ⟨_, upd_same, hbd, fin 0 (by unfold left0; rw [c1, c2]; rfl)⟩
        | false => exact ⟨_, rfl, _, upd_same, hbd, fin z (by unfold left0; rw [c1, c2]; rfl)⟩
    · rintro H' rfl
      rw [nv_len, List.take_length]
      have hl1 : (m.map (left0 i j)).length = m.length := List.length_map _
      refine ⟨_, rfl, _, rfl, _, rfl, _, _, rfl, rfl, D, _, _, i - 1, rfl, rfl, upd_same, by rw [nv_len, hl1]; exact ixN_at i1 i2, ?_⟩
      rw [upd_upd, nv_set]
      have hl2 : ((m.map (left0 i j)).set (i - 1) j).length = m.length := by rw [List.length_set, hl1]
      refine ⟨_, rfl, _, rfl, _, rfl, _, _, rfl, rfl, D, _, _, j - 1, rfl, rfl, upd_same, by rw [nv_len, hl2]; exact ixN_at j1 j2, ?_⟩
      rw [upd_upd, nv_set]
      exact ⟨_, rfl, k D hD⟩
theorem mem_block {l : Likes} {m : List Nat} {p : Nat × Nat} (h : p ∈ Vbhoam.blocks l m) : p.1 ∈ Vbhoam.guests l ∧ p.2 ∈ Vbhoam.guests l ∧ Vbhoam.block l m p.1 p.2 = true := by
  unfold Vbhoam.blocks at h
  obtain ⟨i, hi, h⟩ := List.mem_flatMap.mp h
  obtain ⟨j, hj, rfl⟩ := List.mem_map.mp h
  have q := List.mem_filter.mp hj
  rw [Bool.and_eq_true] at q
  exact ⟨hi, q.1, q.2.2⟩
theorem block_mutual {l : Likes} {m : List Nat} {i j : Nat} (h : Vbhoam.block l m i j = true) : Vbhoam.mutual_ l i j = true := by
  unfold Vbhoam.block at h
  rw [Bool.and_eq_true] at h
  exact h.1
def spSettled : Sp := fun vs H Q _ => ∃ (a b : Addr) (l : Likes) (m : List Nat) (k : Nat), vs = [.ref a, .ref b, .int k] ∧ Lists H a l ∧ Valid l ∧ H b = some (.lst (nv m)) ∧ Vbhoam.isPairing l m = true ∧
  ∀ H' p b', Same H H' → H p = none → H' p = some (.tup [.int ((Vbhoam.settled l k m).2 : Nat), .ref b']) → H' b' = some (.lst (nv (Vbhoam.settled l k m).1)) → Q (.ref p) H'
def setW (H : Hp) (a : Addr) (l : Likes) (m : List Nat) (n : Nat) (mm : Nat) (σ : L2.St) (H' : Hp) : Prop := ∃ (b' q : Addr) (d : Nat) (m' : List Nat), σ = [some (.ref a), some (.ref b'), some (.int n), some (.int d), some (.ref q)] ∧ mm = n - d ∧ d ≤ n ∧ Same H H' ∧ H' b' = some (.lst (nv m')) ∧ Vbhoam.isPairing l m' = true ∧ H' q = some (.lst (nv (firstPair l m'))) ∧ (Vbhoam.settled l n m).1 = (Vbhoam.settled l (n - d) m').1 ∧ (Vbhoam.settled l n m).2 = d + (Vbhoam.settled l (n - d) m').2
theorem d_settled (T : Txt K mg) : Dn P w K mg base "settled" 5 ["lists", "pairing", "times"] spSettled := by
  have D_first_rather_pair := d_first_rather_pair (P := P) (w := w) (base := base) T
  have D_gone_together := d_gone_together (P := P) (w := w) (base := base) T
  refine Dn.of T.f_settled sc_settled (fun vs H Q E h => ?_) (fun f cdv A outer s H vs Q E hr h => ?_)
  · obtain ⟨a, b, l, m, k, rfl, _⟩ := h
    rfl
  · obtain ⟨a, b, l, m, n, rfl, hL, hV, hb, hP, k⟩ := h
    refine ⟨_, (pss_cons (ps_set (i := 3) sc_settled.nd rfl (Or.inl rfl) pe_int)
      (pss_cons (ps_set (i := 4) sc_settled.nd rfl (Or.inl rfl) (pe_callD D_first_rather_pair (hr.mono (by decide)) rfl (pa_cons (pv 0) (pa_cons (pv 1) pa_nil))))
      (pss_cons (ps_while PassesOwn.never (PW.pt (pw_and (pt_cmpR op_lt (pv 3) (pv 2) (nomark _)) (pw_and1 (pt_cmpR (op_neD hr.units) (pv 4) (pe_lst pa_nil) (nomark _))))) (pss_cons (ps_set (i := 1) sc_settled.nd rfl (Or.inl rfl) (pe_callD D_gone_together (hr.mono (by decide)) rfl (pa_cons (pv 1) (pa_cons (pe_ix ix_list (pv 4) pe_int (fun _ _ => rfl)) (pa_cons (pe_ix ix_list (pv 4) pe_int (fun _ _ => rfl)) pa_nil)))))
      (pss_cons (ps_set (i := 4) sc_settled.nd rfl (Or.inl rfl) (pe_callD D_first_rather_pair (hr.mono (by decide)) rfl (pa_cons (pv 0) (pa_cons (pv 1) pa_nil))))
      (pss_one (ps_set (i := 3) sc_settled.nd rfl (Or.inl rfl) (pe_op op_add (pv 3) pe_int))))))
      (pss_one (ps_ret (pe_tup (pa_cons (pv 3) (pa_cons (pv 1) pa_nil)))))))), ?_⟩
    have hf := hV.few
    refine ⟨_, rfl, _, rfl, a, b, l, m, rfl, hL, hV, SqL.of hb, (isPairing_is hP).1, fun q0 hq0 => ?_⟩
    have s0 := same_upd (o := .lst (nv (firstPair l m))) hq0
    refine ⟨setW H a l m n, ⟨n, b, q0, 0, m, rfl, rfl, Nat.zero_le _, s0, s0 _ _ hb, hP, upd_same, rfl, by rw [Nat.zero_add]; rfl⟩, ?_⟩
    rintro mm σ H1 ⟨b', q, d, m', rfl, rfl, hd, s1, hb', hP', hq, e1, e2⟩
    have fin : ∀ H2, Same H1 H2 → (Vbhoam.settled l (n - d) m') = (m', 0) → ∀ p, H2 p = none → Q (.ref p) (upd H2 p (.tup [.int (d : Int), .ref b'])) := fun H2 s2 e p hp => by
      rw [e] at e1 e2
      have s3 := same_upd (o := .tup [.int (d : Int), .ref b']) hp
      refine k _ p b' ((s1.trans s2).trans s3) ((s1.trans s2).free hp) ?_ ?_
      · rw [upd_same, e2]; rfl
      · rw [e1]; exact s3 _ _ (s2 _ _ hb')
    refine ⟨_, rfl, _, rfl, _, _, rfl, rfl, _, rfl, ?_⟩
    rw [show decide (((d : Nat) : Int) < ((n : Nat) : Int)) = decide (d < n) from decide_eq_decide.mpr Int.ofNat_lt]
    by_cases c : d < n
    · rw [decide_eq_true c]
      obtain ⟨r, hr⟩ : ∃ r, n - d = r + 1 := ⟨n - d - 1, by omega⟩
      refine ⟨_, rfl, Nat.zero_le _, fun e he => ?_⟩
      have t1 := same_upd (o := .lst []) he
      refine ne_nil_N (SqL.of (t1 _ _ hq)) upd_same ⟨_, rfl, ?_⟩
      generalize upd H1 e (.lst []) = H2 at t1
      cases hB : Vbhoam.blocks l m' with
      | nil =>
        have e0 : firstPair l m' = [] := by unfold firstPair; rw [hB]
        rw [e0]
        refine ⟨_, rfl, _, rfl, (by show 2 ≤ sizeLine; decide), fun p hp => fin H2 t1 ?_ p hp⟩
        rw [hr]
        unfold Vbhoam.settled
        rw [hB]
      | cons x rest =>
        have e0 : firstPair l m' = [x.1, x.2] := by unfold firstPair; rw [hB]
        obtain ⟨g1, g2, g3⟩ := mem_block (l := l) (m := m') (p := x) (by rw [hB]; exact .head _)
        have hl' := (isPairing_is hP').1
        have x1 := mem_guests.mp g1
        have x2 := mem_guests.mp g2
        rw [e0] at hq ⊢
        have hq2 := t1 _ _ hq
        refine ⟨fun σ' H' => ∃ mm', mm' < n - d ∧ setW H a l m n mm' σ' H', fun σ' H' z => z, ?_⟩
        refine ⟨_, rfl, _, rfl, q, _, 0, _, rfl, rfl, SqL.of hq2, rfl, _, rfl, q, _, 1, _, rfl, rfl, SqL.of hq2, rfl, b', m', x.1, x.2, rfl, t1 _ _ hb', by omega, x1.1, by omega, x2.1, by omega, fun p hp => ?_⟩
        rw [goneT_eq hV hP' g1 g2]
        have t2 := same_upd (o := .lst (nv (Vbhoam.together m' x.1 x.2))) hp
        have hp3 : upd H2 p (.lst (nv (Vbhoam.together m' x.1 x.2))) p = some (.lst (nv (Vbhoam.together m' x.1 x.2))) := upd_same
        generalize upd H2 p (.lst (nv (Vbhoam.together m' x.1 x.2))) = H3 at t2 hp3
        have s3 := (s1.trans t1).trans t2
        have hPT := together_ok hV hP' g1 g2 (block_mutual g3)
        refine ⟨_, rfl, _, rfl, a, p, l, Vbhoam.together m' x.1 x.2, rfl, hL.mono s3, hV, SqL.of hp3, (isPairing_is hPT).1, fun q2 hq2 => ?_⟩
        have t3 := same_upd (o := .lst (nv (firstPair l (Vbhoam.together m' x.1 x.2)))) hq2
        have hst : Vbhoam.settled l (n - d) m' = ((Vbhoam.settled l (n - (d + 1)) (Vbhoam.together m' x.1 x.2)).1, (Vbhoam.settled l (n - (d + 1)) (Vbhoam.together m' x.1 x.2)).2 + 1) := by
          rw [show n - (d + 1) = r by omega, hr]
          conv => lhs; unfold Vbhoam.settled
          rw [hB]
        rw [hst] at e1 e2
        exact ⟨_, rfl, _, _, rfl, rfl, n - (d + 1), by omega, p, q2, d + 1, _, rfl, rfl, c, s3.trans t3, t3 _ _ hp3, hPT, upd_same, e1, by rw [e2]; show d + (_ + 1) = d + 1 + _; omega⟩
    · rw [decide_eq_false c]
      refine ⟨_, rfl, _, rfl, (by show 2 ≤ sizeLine; decide), fun p hp => fin H1 (fun _ _ z => z) ?_ p hp⟩
      rw [show n - d = 0 by omega]
      rfl
end
end Rs
end
section
set_option Elab.async false
set_option linter.all false
set_option maxRecDepth 100000
set_option maxHeartbeats 2000000
namespace Rs
open PySem PySem.Spec PyProof.Rows L2
open Vbhoam (Likes)
section
variable {P : Program} {w : World} {K : PySem.W.Frag} {mg : Str → Option Value} {base : Heap}
/-! ### what the other calls tell -/
theorem cat_newB {H : Hp} {Q : VK} {r b : Addr} {xs ys : List Nat} (hr : H r = some (.lst (nv xs))) (hb : H b = some (.lst (nv ys))) (hl : xs.length + ys.length ≤ 1000) (k : ∀ p, H p = none → Q (.ref p) (upd H p (.lst (nv (xs ++ ys))))) : rCat (.ref r) (.ref b) H Q :=
  ⟨r, b, _, _, rfl, rfl, hr, hb, by rw [nv_len, nv_len]; exact Nat.le_trans hl (by decide), fun p hp => by rw [← nv_app]; exact k p hp⟩
def pairN (bs : List (Nat × Nat)) : List Nat := bs.length :: (pl bs).flatten
theorem pl_flat_len (bs : List (Nat × Nat)) : (pl bs).flatten.length = 2 * bs.length := by
  induction bs with
  | nil => rfl
  | cons q bs ih =>
    show ([q.1, q.2] ++ (pl bs).flatten).length = 2 * (bs.length + 1)
    rw [List.length_append, ih]
    show 2 + 2 * bs.length = _
    omega
theorem pairN_len {l : Likes} (V : Valid l) (m : List Nat) : (pairN (Vbhoam.blocks l m)).length ≤ 99 := by
  unfold pairN
  rw [List.length_cons, pl_flat_len]
  have := blocks_len V m
  omega
theorem pairRow_eq (bs : List (Nat × Nat)) : Vbhoam.pairRow bs = (pairN bs).map fun (n : Nat) => (n : Int) := by
  unfold Vbhoam.pairRow pairN
  rw [List.map_cons]
  refine congrArg _ ?_
  induction bs with
  | nil => rfl
  | cons q bs ih =>
    rw [List.flatMap_cons, ih]
    show _ = (([q.1, q.2] ++ (pl bs).flatten).map fun (n : Nat) => (n : Int))
    rw [List.map_append]
    rfl
theorem len_pl (bs : List (Nat × Nat)) : (pl bs).length = bs.length := List.length_map _
def spTBlocks (K : PySem.W.Frag) : Sp := fun vs H Q _ => ∃ (a b : Addr) (l : Likes) (m : List Nat), vs = [.ref a, .ref b] ∧ Lists H a l ∧ Valid l ∧ SqL K H b (nv m) ∧ m.length = l.length ∧ NewL H Q (pairN (Vbhoam.blocks l m))
theorem d_tell_blocks (T : Txt K mg) : Dn P w K mg base "tell_blocks" 5 ["lists", "pairing"] (spTBlocks K) := by
  have D_rather_pairs := d_rather_pairs (P := P) (w := w) (base := base) T
  refine Dn.of T.f_tell_blocks sc_tell_blocks (fun vs H Q E h => ?_) (fun f cdv A outer s H vs Q E hr h => ?_)
  · obtain ⟨a, b, l, m, rfl, _⟩ := h
    rfl
  · obtain ⟨a, b, l, m, rfl, hL, hV, hm, hlen, k⟩ := h
    refine ⟨_, (pss_cons (ps_set (i := 2) sc_tell_blocks.nd rfl (Or.inl rfl) (pe_callD D_rather_pairs (hr.mono (by decide)) rfl (pa_cons (pv 0) (pa_cons (pv 1) pa_nil))))
      (pss_cons (ps_set (i := 3) sc_tell_blocks.nd rfl (Or.inl rfl) (pe_lst (pa_cons (pe_callB call_len_seq rfl T.b_len PySem.boot_len (pa_cons (pv 2) pa_nil)) pa_nil)))
      (pss_cons (ps_for PassesOwn.never rfl (pi_list (pv 2)) (pg_name (i := 4) sc_tell_blocks.nd rfl (Or.inl rfl))
        (pss_one (ps_expr (pe_bm PySem.F.plainAttrs_list PySem.F.slot_list_extend PySem.F.type_list_extend mt_extend (pv 3) (pa_cons (pv 4) pa_nil)))))
      (pss_one (ps_ret (pv 3)))))), ?_⟩
    have sz : sizeLine = 16777216 := rfl
    refine ⟨_, rfl, _, rfl, a, b, l, m, rfl, hL, hV, hm, hlen, fun H1 q s1 hq LQ => ?_⟩
    have hbl := blocks_len hV m
    obtain ⟨as, g1, g2⟩ := LQ
    have hal : as.length = (Vbhoam.blocks l m).length := by rw [g2.length, len_pl]
    refine ⟨_, rfl, q, _, rfl, .inl (SqL.of g1), (by show 1 ≤ sizeLine; decide), fun p hp => ?_⟩
    rw [List.length_map, hal]
    have s2 := same_upd (o := .lst (nv [(Vbhoam.blocks l m).length])) hp
    refine ⟨_, rfl, q, rfl, ⟨_, SqL.of (s2 _ _ g1)⟩, for_list (K := K) (a := q) (xs := as.map V.ref)
      (fun i σ H2 => ∃ v4 : Option V, σ = [some (.ref a), some (.ref b), some (.ref q), some (.ref p), v4] ∧ Same H1 H2 ∧ H2 p = some (.lst (nv ((Vbhoam.blocks l m).length :: ((pl (Vbhoam.blocks l m)).take i).flatten))))
      ⟨none, rfl, s2, upd_same⟩ (fun i σ H2 _ ⟨_, _, s3, _⟩ => SqL.of (s3 _ _ g1)) ?_ ?_⟩
    · rintro i x σ H2 hx ⟨v4, rfl, s3, hp2⟩
      obtain ⟨c, r, rfl, hr', hc⟩ := LL.turn g2 hx
      refine ⟨_, rfl, .inl ⟨rfl, _, SqL.of hp2⟩, _, rfl, p, c, _, _, rfl, rfl, hp2, s3 _ _ hc, ?_, _, rfl, same_upd2 s3 hp, ?_⟩
      · rw [nv_len, nv_len, List.length_cons]
        have e1 : r.length = 2 := by
          obtain ⟨z, _, rfl⟩ := List.mem_map.mp (List.mem_of_getElem? hr')
          rfl
        have e2 : ((pl (Vbhoam.blocks l m)).take i).flatten.length ≤ (pl (Vbhoam.blocks l m)).flatten.length := by
          conv => rhs; rw [← List.take_append_drop i (pl (Vbhoam.blocks l m)), List.flatten_append, List.length_append]
          exact Nat.le_add_right _ _
        rw [pl_flat_len] at e2
        omega
      · rw [upd_same, take_snoc hr', List.flatten_append, ← nv_app, List.cons_append]
        rw [show [r].flatten = r by simp]
    · rintro σ H2 ⟨v4, rfl, s3, hp2⟩
      rw [List.length_map, hal, ← len_pl, List.take_length] at hp2
      rw [len_pl] at hp2
      exact ⟨_, rfl, k _ p (s1.trans s3) (s1.free hp) hp2⟩
def spTSettle : Sp := fun vs H Q _ => ∃ (a b : Addr) (l : Likes) (m : List Nat) (k : Nat), vs = [.ref a, .int k, .ref b] ∧ Lists H a l ∧ Valid l ∧ H b = some (.lst (nv m)) ∧ Vbhoam.isPairing l m = true ∧ NewL H Q ((Vbhoam.settled l k m).2 :: (Vbhoam.settled l k m).1)
theorem d_tell_settle (T : Txt K mg) : Dn P w K mg base "tell_settle" 6 ["lists", "times", "pairing"] spTSettle := by
  have D_settled := d_settled (P := P) (w := w) (base := base) T
  refine Dn.of T.f_tell_settle sc_tell_settle (fun vs H Q E h => ?_) (fun f cdv A outer s H vs Q E hr h => ?_)
  · obtain ⟨a, b, l, m, k, rfl, _⟩ := h
    rfl
  · obtain ⟨a, b, l, m, n, rfl, hL, hV, hm, hP, k⟩ := h
    refine ⟨_, (pss_cons (ps_set (i := 3) sc_tell_settle.nd rfl (Or.inl rfl) (pe_callD D_settled (hr.mono (by decide)) rfl (pa_cons (pv 0) (pa_cons (pv 2) (pa_cons (pv 1) pa_nil)))))
      (pss_one (ps_ret (pe_op op_cat (pe_lst (pa_cons (pe_ix ix_tup (pv 3) pe_int (fun _ _ => rfl)) pa_nil)) (pe_ix ix_tup (pv 3) pe_int (fun _ _ => rfl)))))), ?_⟩
    have hf := hV.few
    have hlen := (isPairing_is hP).1
    have hsl := settled_len l n m
    refine ⟨_, rfl, _, rfl, _, rfl, a, b, l, m, n, rfl, hL, hV, hm, hP, fun H1 p b' s1 hp h1 h2 => ?_⟩
    refine ⟨_, rfl, p, _, 0, _, rfl, rfl, SqT.of h1, rfl, (by show 1 ≤ sizeLine; decide), fun r hr => ?_⟩
    have s2 := same_upd (o := .lst (nv [(Vbhoam.settled l n m).2])) hr
    refine ⟨_, rfl, p, _, 1, _, rfl, rfl, SqT.of (s2 _ _ h1), rfl, cat_newB (xs := [(Vbhoam.settled l n m).2]) (ys := (Vbhoam.settled l n m).1) upd_same (s2 _ _ h2) (by show 1 + _ ≤ 1000; omega) fun p2 hp2 => ?_⟩
    exact k _ p2 ((s1.trans s2).trans (same_upd hp2)) ((s1.trans s2).free hp2) upd_same
def tellP (l : Likes) (g i j : Nat) : Nat := if Vbhoam.prefers l g i j = true then 1 else if Vbhoam.prefers l g j i = true then 2 else 0
def spTPrefer : Sp := fun vs H Q _ => ∃ (a : Addr) (l : Likes) (g i j : Nat), vs = [.ref a, .int g, .int i, .int j] ∧ Lists H a l ∧ Valid l ∧ g ∈ Vbhoam.guests l ∧ NewL H Q [tellP l g i j]
theorem d_tell_prefer (T : Txt K mg) : Dn P w K mg base "tell_prefer" 3 ["lists", "guest", "one", "other"] spTPrefer := by
  have D_likes_better := d_likes_better (P := P) (w := w) (base := base) T
  refine Dn.of T.f_tell_prefer sc_tell_prefer (fun vs H Q E h => ?_) (fun f cdv A outer s H vs Q E hr h => ?_)
  · obtain ⟨a, l, g, i, j, rfl, _⟩ := h
    rfl
  · obtain ⟨a, l, g, i, j, rfl, hL, hV, hg, k⟩ := h
    refine ⟨_, (pss_cons (ps_if (pt_val (pe_callD D_likes_better (hr.mono (by decide)) rfl (pa_cons (pv 0) (pa_cons (pv 1) (pa_cons (pv 2) (pa_cons (pv 3) pa_nil)))))) (pss_one (ps_ret (pe_lst (pa_cons pe_int pa_nil)))) pss_nil)
      (pss_cons (ps_if (pt_val (pe_callD D_likes_better (hr.mono (by decide)) rfl (pa_cons (pv 0) (pa_cons (pv 1) (pa_cons (pv 3) (pa_cons (pv 2) pa_nil)))))) (pss_one (ps_ret (pe_lst (pa_cons pe_int pa_nil)))) pss_nil)
      (pss_one (ps_ret (pe_lst (pa_cons pe_int pa_nil)))))), ?_⟩
    refine ⟨_, rfl, _, rfl, _, rfl, _, rfl, a, l, g, i, j, rfl, hL, hV, hg, _, rfl, ?_⟩
    unfold tellP at k
    cases c1 : Vbhoam.prefers l g i j with
    | true =>
      rw [c1] at k
      exact ⟨(by show 1 ≤ sizeLine; decide), fun p hp => k _ p (same_upd hp) hp upd_same⟩
    | false =>
      rw [c1] at k
      refine ⟨_, rfl, _, rfl, _, rfl, _, rfl, a, l, g, j, i, rfl, hL, hV, hg, _, rfl, ?_⟩
      cases c2 : Vbhoam.prefers l g j i with
      | true =>
        rw [c2] at k
        exact ⟨(by show 1 ≤ sizeLine; decide), fun p hp => k _ p (same_upd hp) hp upd_same⟩
      | false =>
        rw [c2] at k
        exact ⟨(by show 1 ≤ sizeLine; decide), fun p hp => k _ p (same_upd hp) hp upd_same⟩
def roomsN (l : Likes) (m : List Nat) : List Nat := m ++ (if Vbhoam.isPairing l m = true then 1 :: pairN (Vbhoam.blocks l m) else [0])
def spTRooms : Sp := fun vs H Q _ => ∃ (a b : Addr) (l : Likes) (m : List Nat), vs = [.ref a, .ref b] ∧ Lists H a l ∧ Valid l ∧ H b = some (.lst (nv m)) ∧ m.length = l.length ∧ NewL H Q (roomsN l m)
theorem d_tell_rooms (T : Txt K mg) : Dn P w K mg base "tell_rooms" 6 ["lists", "booked"] spTRooms := by
  have D_is_pairing := d_is_pairing (P := P) (w := w) (base := base) T
  have D_tell_blocks := d_tell_blocks (P := P) (w := w) (base := base) T
  refine Dn.of T.f_tell_rooms sc_tell_rooms (fun vs H Q E h => ?_) (fun f cdv A outer s H vs Q E hr h => ?_)
  · obtain ⟨a, b, l, m, rfl, _⟩ := h
    rfl
  · obtain ⟨a, b, l, m, rfl, hL, hV, hm, hlen, k⟩ := h
    refine ⟨_, (pss_cons (ps_if (pt_not (pt_val (pe_callD D_is_pairing (hr.mono (by decide)) rfl (pa_cons (pv 0) (pa_cons (pv 1) pa_nil))))) (pss_one (ps_ret (pe_op op_cat (pv 1) (pe_lst (pa_cons pe_int pa_nil))))) pss_nil)
      (pss_one (ps_ret (pe_op op_cat (pe_op op_cat (pv 1) (pe_lst (pa_cons pe_int pa_nil))) (pe_callD D_tell_blocks (hr.mono (by decide)) rfl (pa_cons (pv 0) (pa_cons (pv 1) pa_nil))))))), ?_⟩
    have hf := hV.few
    unfold roomsN at k
    refine ⟨_, rfl, _, rfl, a, b, l, m, rfl, hL, hV, SqL.of hm, hlen, _, rfl, ?_⟩
    cases c : Vbhoam.isPairing l m with
    | false =>
      rw [c, if_neg (by simp)] at k
      refine ⟨_, rfl, (by show 1 ≤ sizeLine; decide), fun r hr => ?_⟩
      have s1 := same_upd (o := .lst (nv [0])) hr
      refine cat_newB (xs := m) (ys := [0]) (s1 _ _ hm) upd_same (by show m.length + 1 ≤ 1000; omega) fun p hp => ?_
      exact k _ p (s1.trans (same_upd hp)) (s1.free hp) upd_same
    | true =>
      rw [c, if_pos rfl] at k
      refine ⟨_, rfl, (by show 1 ≤ sizeLine; decide), fun r hr => ?_⟩
      have s1 := same_upd (o := .lst (nv [1])) hr
      refine cat_newB (xs := m) (ys := [1]) (s1 _ _ hm) upd_same (by show m.length + 1 ≤ 1000; omega) fun p hp => ?_
      have s2 := same_upd (o := .lst (nv (m ++ [1]))) hp
      have s12 := s1.trans s2
      refine ⟨_, rfl, _, rfl, a, b, l, m, rfl, hL.mono s12, hV, SqL.of (s12 _ _ hm), hlen, fun H3 p3 s3 hp3 h3 => ?_⟩
      have hpl := pairN_len hV m
      refine cat_newB (xs := m ++ [1]) (ys := pairN (Vbhoam.blocks l m)) (s3 _ _ upd_same) h3 (by rw [List.length_append]; show m.length + 1 + _ ≤ 1000; omega) fun p4 hp4 => ?_
      have s123 := s12.trans s3
      refine k _ p4 (s123.trans (same_upd hp4)) (s123.free hp4) ?_
      rw [upd_same, List.append_assoc]
      rfl
def listsN (l : Likes) : List Nat := l.flatMap fun L => L.length :: L
def spTLists : Sp := fun vs H Q _ => ∃ (a : Addr) (l : Likes), vs = [.ref a] ∧ Lists H a l ∧ Valid l ∧ NewL H Q (l.length :: listsN l)
theorem d_tell_lists (T : Txt K mg) : Dn P w K mg base "tell_lists" 2 ["lists"] spTLists := by
  have D_counted := d_counted (P := P) (w := w) (base := base) T
  refine Dn.of T.f_tell_lists sc_tell_lists (fun vs H Q E h => ?_) (fun f cdv A outer s H vs Q E hr h => ?_)
  · obtain ⟨a, l, rfl, _⟩ := h
    rfl
  · obtain ⟨a, l, rfl, hL, hV, k⟩ := h
    refine ⟨_, (pss_cons (ps_set (i := 1) sc_tell_lists.nd rfl (Or.inl rfl) (pe_lst (pa_cons (pe_op op_sub (pe_callB call_len_seq rfl T.b_len PySem.boot_len (pa_cons (pv 0) pa_nil)) pe_int) pa_nil)))
      (pss_cons (ps_for PassesOwn.never rfl (pi_range2 rfl T.b_range (pa_cons pe_int (pa_cons (pe_callB call_len_seq rfl T.b_len PySem.boot_len (pa_cons (pv 0) pa_nil)) pa_nil))) (pg_name (i := 2) sc_tell_lists.nd rfl (Or.inl rfl))
        (pss_one (ps_expr (pe_bm PySem.F.plainAttrs_list PySem.F.slot_list_extend PySem.F.type_list_extend mt_extend (pv 1) (pa_cons (pe_callD D_counted (hr.mono (by decide)) rfl (pa_cons (pe_ix ix_list (pv 0) (pv 2) (fun _ _ => rfl)) pa_nil)) pa_nil)))))
      (pss_one (ps_ret (pv 1))))), ?_⟩
    have sz : sizeLine = 16777216 := rfl
    have hf := hV.few
    obtain ⟨xs, h1, h2⟩ := hL.len
    refine ⟨_, rfl, a, xs, rfl, .inl (SqL.of h1), _, _, rfl, rfl, (by show 1 ≤ sizeLine; decide), fun p hp => ?_⟩
    have s0 := same_upd (o := .lst [V.int (((xs.length : Nat) : Int) - 1)]) hp
    have hp0 : upd H p (.lst [V.int (((xs.length : Nat) : Int) - 1)]) p = some (.lst (nv [l.length])) := by
      rw [upd_same, show ((xs.length : Nat) : Int) - 1 = ((l.length : Nat) : Int) by omega]
      rfl
    refine ⟨_, rfl, a, xs, rfl, .inl (SqL.of (s0 _ _ h1)), 1, _, rfl, ⟨by decide, by decide, by omega, by omega⟩, for_range (n := ((xs.length : Int) - 1).toNat)
      (fun i σ H' => ∃ v2 : Option V, σ = [some (.ref a), some (.ref p), v2] ∧ Same H H' ∧ H' p = some (.lst (nv (l.length :: listsN (l.take i))))) ⟨none, rfl, s0, hp0⟩ ?_ ?_⟩
    · rintro i σ H' hi ⟨v2, rfl, s1, hp1⟩
      have gi : (1 + i) ∈ Vbhoam.guests l := mem_guests.mpr ⟨by omega, by omega⟩
      obtain ⟨ys, b, y1, y2, y3⟩ := (hL.mono s1).at_ gi
      have hg := listOf_get gi
      have hll := list_len hV _ (List.mem_of_getElem? hg)
      refine ⟨_, rfl, .inl ⟨rfl, _, SqL.of hp1⟩, _, rfl, _, rfl, a, ys, _, _, rfl, rfl, SqL.of y1, y2, b, _, rfl, y3, by omega, fun H3 q s3 hq h3 => ?_⟩
      refine ⟨p, q, _, _, rfl, rfl, s3 _ _ hp1, h3, ?_, _, rfl, same_upd2 (s1.trans s3) hp, ?_⟩
      · rw [nv_len, nv_len, List.length_cons, List.length_cons]
        have e1 : (listsN (l.take i)).length ≤ (l.take i).length * 8 := flatK_len fun L hL => by
          rw [List.length_cons]
          have := list_len hV L (List.mem_of_mem_take hL)
          omega
        rw [List.length_take] at e1
        omega
      · rw [show 1 + i - 1 = i by omega] at hg
        rw [upd_same, take_snoc hg, ← nv_app, List.cons_append]
        unfold listsN
        rw [List.flatMap_append, List.flatMap_singleton]
    · rintro σ H' ⟨v2, rfl, s1, hp1⟩
      rw [show ((xs.length : Int) - 1).toNat = l.length by omega, List.take_length] at hp1
      exact ⟨_, rfl, k H' p s1 hp hp1⟩
end
end Rs
end
section
set_option Elab.async false
set_option linter.all false
set_option maxRecDepth 100000
set_option maxHeartbeats 2000000
namespace Rs
open PySem PySem.Spec PyProof.Rows L2
open Vbhoam (Likes)
section
variable {P : Program} {w : World} {K : PySem.W.Frag} {mg : Str → Option Value} {base : Heap}
/-! ### the middle of three -/
def spMiddle (PT : Addr) : Sp := fun vs H Q _ => ∃ (a t : Addr) (l : Likes) (x y z : List Nat), vs = [.ref a, .ref t] ∧ Lists H a l ∧ Valid l ∧ LT PT H ∧ LL H t [x, y, z] ∧ x ∈ Vbhoam.stables l ∧ y ∈ Vbhoam.stables l ∧ z ∈ Vbhoam.stables l ∧
  ∀ H' p, SameT PT H H' → LT PT H' → H p = none → H' p = some (.lst (nv (Vbhoam.median l x y z))) → Q (.ref p) H'
theorem perm3 {ms : List Nat} {a b c : Nat} (h : ms.Perm [a, b, c]) : ∃ x y z, ms = [x, y, z] := by
  have e : ms.length = 3 := h.length_eq
  match ms, e with
  | [x, y, z], _ => exact ⟨x, y, z, rfl⟩
theorem d_middle_pairing {c PT : Addr} (T : Txt K mg) (F : AtC K mg "best_first" s_best_first ["lists", "guest", "others"] c) (hC : PySem.W.CodeHd base c PT) (hB : base.BuiltinsAt mg PT) : Dn P w K mg base "middle_pairing" 6 ["lists", "three"] (spMiddle PT) := by
  have D_best_first := d_best_first (P := P) (w := w) (base := base) T F hC hB
  refine Dn.of T.f_middle_pairing sc_middle_pairing (fun vs H Q E h => ?_) (fun f cdv A outer s H vs Q E hr h => ?_)
  · obtain ⟨a, t, l, x, y, z, rfl, _⟩ := h
    rfl
  · obtain ⟨a, t, l, x, y, z, rfl, hL, hV, hT, hLL, hx, hy, hz, k⟩ := h
    refine ⟨_, (pss_cons (ps_set (i := 2) sc_middle_pairing.nd rfl (Or.inl rfl) (pe_lst pa_nil))
      (pss_cons (ps_for PassesOwn.never rfl (pi_range2 rfl T.b_range (pa_cons pe_int (pa_cons (pe_callB call_len_seq rfl T.b_len PySem.boot_len (pa_cons (pv 0) pa_nil)) pa_nil))) (pg_name (i := 3) sc_middle_pairing.nd rfl (Or.inr rfl))
        (pss_cons (ps_setLc (i := 5) (own := [("pairing", 4)]) rfl sc_middle_pairing.nd rfl rfl (sw_true rfl rfl rfl rfl) (pi_list (pv 1)) (blkOk_by (N := ["lists", "three", "middle", "guest", "pairing", "partners"]) (sc := defScope s_middle_pairing) (by decide +kernel)) (fun _ _ _ _ _ => pg_name (i := 4) sc_middle_pairing.nd rfl (Or.inl rfl)) (fun _ _ _ _ _ => pts_nil) (fun _ _ _ _ _ => (pe_ix (ix_listK (K := K) rfl) (pv 4) (pe_op op_sub (pv 3) pe_int) (fun _ _ => rfl))))
      (pss_one (ps_expr (pe_bm PySem.F.plainAttrs_list PySem.F.slot_list_append PySem.F.type_list_append mt_append (pv 2) (pa_cons (pe_ix ix_list (pe_callD D_best_first (hr.mono (by decide)) rfl (pa_cons (pv 0) (pa_cons (pv 3) (pa_cons (pv 5) pa_nil)))) pe_int (fun _ _ => rfl)) pa_nil))))))
      (pss_one (ps_ret (pv 2))))), ?_⟩
    have sz : sizeLine = 16777216 := rfl
    have hf := hV.few
    obtain ⟨xs, h1, h2⟩ := hL.len
    refine ⟨Nat.zero_le _, fun p hp => ?_⟩
    have s0 := same_upd (o := .lst []) hp
    have np : p ≠ PT := fun e => by
      obtain ⟨ps, hps⟩ := hT.at_
      rw [e, hps] at hp
      cases hp
    refine ⟨_, rfl, a, xs, rfl, .inl (SqL.of (s0 _ _ h1)), 1, _, rfl, ⟨by decide, by decide, by omega, by omega⟩, for_range (n := ((xs.length : Int) - 1).toNat)
      (fun i σ H' => ∃ v3 v4 v5 : Option V, σ = [some (.ref a), some (.ref t), some (.ref p), v3, v4, v5] ∧ SameT PT H H' ∧ LT PT H' ∧ H' p = some (.lst (nv ((List.range' 1 i).map fun g => Vbhoam.middle l g (Vbhoam.partner x g) (Vbhoam.partner y g) (Vbhoam.partner z g))))) ⟨none, none, none, rfl, fun b o _ e => s0 _ _ e, hT.mono s0, upd_same⟩ ?_ ?_⟩
    · rintro i σ H1 hi ⟨v3, v4, v5, rfl, s1, T1, hp1⟩
      have gi : (1 + i) ∈ Vbhoam.guests l := mem_guests.mpr ⟨by omega, by omega⟩
      obtain ⟨as, g1, g2⟩ := LL.monoT hT s1 hLL
      have L1 : Lists H1 a l := LL.monoT hT s1 hL
      have hrow : ∀ r ∈ [x, y, z], r.length = l.length := fun r hr => by
        simp only [List.mem_cons, List.not_mem_nil, or_false] at hr
        rcases hr with rfl | rfl | rfl <;> (refine stable_len ?_; assumption)
      refine ⟨_, rfl, t, rfl, ⟨_, SqL.of g1⟩, fun D hD => lc_list (K := K) (a := t) (xs := as.map V.ref)
        (fun j H2 => H2 = upd H1 D (.lst (nv (([x, y, z].take j).map fun m => Vbhoam.partner m (1 + i))))) rfl (fun j H2 _ e => by rw [e]; exact SqL.of (same_upd hD _ _ g1)) ?_ ?_⟩
      · rintro j v H2 hv rfl
        obtain ⟨b, r, rfl, hr', hb⟩ := LL.turn g2 hv
        have hrl := hrow r (List.mem_of_getElem? hr')
        have s2 := same_upd (o := .lst (nv (([x, y, z].take j).map fun m => Vbhoam.partner m (1 + i)))) hD
        refine ⟨rfl, _, rfl, _, rfl, _, _, rfl, rfl, b, _, _, _, rfl, rfl, SqL.of (s2 _ _ hb), nv_partner (i := 1 + i) (by omega) (by omega) (by omega), _, upd_same, ?_, ?_⟩
        · rw [nv_len, List.length_map, List.length_take]
          show min j 3 < sizeLine
          omega
        · rw [upd_upd, take_snoc hr', List.map_append, nv_app]
          rfl
      · rintro H2 rfl
        rw [List.length_map, g2.length, List.take_length]
        have s2 := same_upd (o := .lst (nv ([x, y, z].map fun m => Vbhoam.partner m (1 + i)))) hD
        have T2 := T1.mono s2
        refine ⟨_, rfl, .inl ⟨rfl, _, SqL.of (s2 _ _ hp1)⟩, _, rfl, _, rfl, _, rfl, a, D, l, 1 + i, _, rfl, L1.mono s2, hV, gi, T2, upd_same, fun H3 q ms sT T3 hq hperm hpw h3 => ?_⟩
        obtain ⟨x', y', z', rfl⟩ := perm3 (a := Vbhoam.partner x (1 + i)) (b := Vbhoam.partner y (1 + i)) (c := Vbhoam.partner z (1 + i)) hperm
        have q1 := List.pairwise_cons.mp hpw
        have q2 := List.pairwise_cons.mp q1.2
        have hmid := middle_sorted hV gi (stable_partner hV hx gi) (stable_partner hV hy gi) (stable_partner hV hz gi) hperm (q1.1 _ (by simp)) (q2.1 _ (by simp))
        have hp3 := sT _ _ np (s2 _ _ hp1)
        refine ⟨q, _, 1, _, rfl, rfl, SqL.of h3, rfl, p, _, _, rfl, rfl, hp3, ?_, _, _, _, rfl, fun b o hb e => ?_, ?_, ?_⟩
        · rw [nv_len, List.length_map, List.length_range']
          omega
        · rw [upd_ne (ne_of_none e hp)]
          exact sT _ _ hb (s2 _ _ (s1 _ _ hb e))
        · rcases T3 with h | ⟨cc, h3, h4⟩
          · exact .inl (by rw [upd_ne (Ne.symm np)]; exact h)
          · refine .inr ⟨cc, by rw [upd_ne (Ne.symm np)]; exact h3, ?_⟩
            rw [upd_ne]
            · exact h4
            · intro e
              rw [e, hp3] at h4
              cases h4
        · rw [upd_same, List.range'_concat, List.map_append, nv_app, Nat.one_mul]
          show some (HO.lst (_ ++ [V.int (y' : Int)])) = some (HO.lst (_ ++ [V.int ((Vbhoam.middle l (1 + i) _ _ _ : Nat) : Int)]))
          rw [hmid]
    · rintro σ H1 ⟨v3, v4, v5, rfl, s1, T1, hp1⟩
      rw [show ((xs.length : Int) - 1).toNat = l.length by omega, ← guests_range] at hp1
      exact ⟨_, rfl, k H1 p s1 T1 hp hp1⟩
end
end Rs
end
section
set_option Elab.async false
set_option linter.all false
set_option maxRecDepth 100000
set_option maxHeartbeats 2000000
namespace Rs
open PySem PySem.Spec PyProof.Rows L2
open Vbhoam (Likes State)
section
variable {P : Program} {w : World} {K : PySem.W.Frag} {mg : Str → Option Value} {base : Heap}
/-! ### methods of the class -/
structure AtM (K : PySem.W.Frag) (C : Addr) (m qual : Str) (st : Stmt) (ps : List Str) : Prop where
  ex : ∃ (f : Addr) (fd : FuncData), Fun K m qual st f fd ∧ Meth K C m f ∧ Binds K fd ps []
structure AtI (K : PySem.W.Frag) (C : Addr) (qual : Str) (st : Stmt) (ps : List Str) : Prop where
  ex : ∃ (f : Addr) (fd : FuncData), Fun K "__init__" qual st f fd ∧ Mk K C f ∧ Binds K fd ps []
structure Dm (P : Program) (w : World) (K : PySem.W.Frag) (mg : Str → Option Value) (base : Heap) (C : Addr) (m : Str) (k : Nat) (ps : List Str) (sp : Sp) : Prop where
  ex : ∃ (f : Addr) (fd : FuncData), FnOk P w K mg base CX0 k f fd ps sp ∧ Meth K C m f ∧ Binds K fd ps []
structure Di (P : Program) (w : World) (K : PySem.W.Frag) (mg : Str → Option Value) (base : Heap) (C : Addr) (k : Nat) (ps : List Str) (sp : Sp) : Prop where
  ex : ∃ (f : Addr) (fd : FuncData), FnOk P w K mg base CX0 k f fd ps sp ∧ Mk K C f ∧ Binds K fd ps []
theorem Dm.of {C : Addr} {x qual : Str} {st : Stmt} {N ps : List Str} {k : Nat} {sp : Sp} (F : AtM K C x qual st ps) (S : FnScope N ps (defScope st)) (len : ∀ vs H Q E, sp vs H Q E → vs.length = ps.length)
    (hbody : ∀ (f : Addr) (cdv : Value) (A : Around) (outer : List Env) (s : Shared) (H : Hp) (vs : List V) (Q : VK) (E : XK), Room k (A.deeper (envOfC qual (defScope st) s.heap.objs.size f cdv)) → sp vs H Q E →
      ∃ t, PSs (cxOf CX0 P w K mg base N qual (defScope st) f cdv A outer s H E).nox (defBody st) t ∧ t { nx := fun _ H' => Q .non H', rt := Q } (start N vs) H) : Dm P w K mg base C x (k + 1) ps sp := by
  obtain ⟨f, fd, F1, F2, F3⟩ := F.ex
  exact ⟨f, fd, F1.ok S len (fun cdv A outer s H vs Q E => hbody f cdv A outer s H vs Q E), F2, F3⟩
theorem Di.of {C : Addr} {qual : Str} {st : Stmt} {N ps : List Str} {k : Nat} {sp : Sp} (F : AtI K C qual st ps) (S : FnScope N ps (defScope st)) (len : ∀ vs H Q E, sp vs H Q E → vs.length = ps.length)
    (hbody : ∀ (f : Addr) (cdv : Value) (A : Around) (outer : List Env) (s : Shared) (H : Hp) (vs : List V) (Q : VK) (E : XK), Room k (A.deeper (envOfC qual (defScope st) s.heap.objs.size f cdv)) → sp vs H Q E →
      ∃ t, PSs (cxOf CX0 P w K mg base N qual (defScope st) f cdv A outer s H E).nox (defBody st) t ∧ t { nx := fun _ H' => Q .non H', rt := Q } (start N vs) H) : Di P w K mg base C (k + 1) ps sp := by
  obtain ⟨f, fd, F1, F2, F3⟩ := F.ex
  exact ⟨f, fd, F1.ok S len (fun cdv A outer s H vs Q E => hbody f cdv A outer s H vs Q E), F2, F3⟩
section
variable {X : Cx} {C : Addr} {m x : Str} {k : Nat} {ps : List Str} {sp : Sp} {e o : Expr} {es : List Expr} {t : TA} {ta : TE} {p pos apos : Pos}
theorem pe_methD {pl : Sem Bool} (he : PE X o ta) (c : Cls X.K C) (D : Dm X.prog X.w X.K X.mg X.base C m k ps sp) (hr : Room k X.A) (ha : PA X (e :: es) t)
    (hst : starEach (e :: es) X.env = (false, eval e X.env) :: starEach es X.env := by rfl) (hpl : (backTo pos (starEach es X.env)).any (·.1) = false := by rfl)
    (ht : eval (.Call (.Attribute o m apos) (e :: es) [] pos) X.env = (do
      let ov ← eval o X.env
      standAt apos.atName
      let (f, first) ← holding [ov] (getMethod ov m pl)
      callWith pos f first (backTo pos (starEach (e :: es) X.env)) (backToKw pos (keywordEach [] X.env))) := by rfl) :
    PE X (.Call (.Attribute o m apos) (e :: es) [] pos) (tMeth C m sp [] E0 ta t) := by
  obtain ⟨f, fd, F1, F2, F3⟩ := D.ex
  exact pe_meth he c F2 F1 hr F3 .nil pass0 ha hst hpl ht
theorem pe_methD0 {pl : Sem Bool} (he : PE X o ta) (c : Cls X.K C) (D : Dm X.prog X.w X.K X.mg X.base C m k ps sp) (hr : Room k X.A)
    (ht : eval (.Call (.Attribute o m apos) [] [] pos) X.env = (do
      let ov ← eval o X.env
      standAt apos.atName
      let (f, first) ← holding [ov] (getMethod ov m pl)
      callWith pos f first (backTo pos (starEach [] X.env)) (backToKw pos (keywordEach [] X.env))) := by rfl) :
    PE X (.Call (.Attribute o m apos) [] [] pos) (tMeth C m sp [] E0 ta tNil) := by
  obtain ⟨f, fd, F1, F2, F3⟩ := D.ex
  exact pe_meth0 he c F2 F1 hr F3 .nil pass0 ht
theorem pe_makeD (D : Di X.prog X.w X.K X.mg X.base C k ps sp) (hr : Room (k + 1) X.A) (hg : Gl X x) (hm : X.mg x = some (.ref C)) (hdb : (x == ("__debug__" : Str)) = false := by decide) :
    PE X (.Call (.Name x p) [] [] pos) (tMake C sp [] E0 tNil) := by
  obtain ⟨f, fd, F1, F2, F3⟩ := D.ex
  exact pe_make0 F2 F1 hr hg hm F3 .nil pass0 hdb
end
structure GTx (K : PySem.W.Frag) (mg : Str → Option Value) (C : Addr) : Prop where
  cl : Cls K C
  mgC : mg "Group" = some (.ref C)
  n_guests : NoAttr K C "guests"
  n_lists : NoAttr K C "lists"
  n_booked : NoAttr K C "booked"
/-! ### the group -/
def gf (n : Nat) (a b : Addr) : List (Str × V) := [("guests", .int (n : Int)), ("lists", .ref a), ("booked", .ref b)]
theorem gf_guests (n : Nat) (a b : Addr) : (gf n a b).lookup ("guests" : Str) = some (.int (n : Int)) := by
  unfold gf
  rw [List.lookup_cons, show ((("guests" : Str) == "guests") = true) from by decide]
theorem gf_lists (n : Nat) (a b : Addr) : (gf n a b).lookup ("lists" : Str) = some (.ref a) := by
  unfold gf
  rw [List.lookup_cons, show ((("lists" : Str) == "guests") = false) from by decide]
  show ([("lists", V.ref a), ("booked", V.ref b)] : List (Str × V)).lookup ("lists" : Str) = _
  rw [List.lookup_cons, show ((("lists" : Str) == "lists") = true) from by decide]
theorem gf_booked (n : Nat) (a b : Addr) : (gf n a b).lookup ("booked" : Str) = some (.ref b) := by
  unfold gf
  rw [List.lookup_cons, show ((("booked" : Str) == "guests") = false) from by decide]
  show ([("lists", V.ref a), ("booked", V.ref b)] : List (Str × V)).lookup ("booked" : Str) = _
  rw [List.lookup_cons, show ((("booked" : Str) == "lists") = false) from by decide]
  show ([("booked", V.ref b)] : List (Str × V)).lookup ("booked" : Str) = _
  rw [List.lookup_cons, show ((("booked" : Str) == "booked") = true) from by decide]
theorem gf_no (n : Nat) (a b : Addr) {m : Str} (h1 : (m == ("guests" : Str)) = false) (h2 : (m == ("lists" : Str)) = false) (h3 : (m == ("booked" : Str)) = false) : (gf n a b).lookup m = none := by
  unfold gf
  rw [List.lookup_cons, h1]
  show ([("lists", V.ref a), ("booked", V.ref b)] : List (Str × V)).lookup m = _
  rw [List.lookup_cons, h2]
  show ([("booked", V.ref b)] : List (Str × V)).lookup m = _
  rw [List.lookup_cons, h3]
  rfl
theorem gf_putG (n n' : Nat) (a b : Addr) : putF "guests" (.int (n' : Int)) (gf n a b) = gf n' a b := by
  show (if (("guests" : Str) = "guests") then _ else _) = _
  rw [if_pos rfl]
  rfl
theorem gf_putL (n : Nat) (a a' b : Addr) : putF "lists" (.ref a') (gf n a b) = gf n a' b := by
  show (if (("guests" : Str) = "lists") then _ else (("guests" : Str), V.int (n : Int)) :: (if (("lists" : Str) = "lists") then _ else _)) = _
  rw [if_neg (by decide), if_pos rfl]
  rfl
theorem gf_putB (n : Nat) (a b b' : Addr) : putF "booked" (.ref b') (gf n a b) = gf n a b' := by
  show (if (("guests" : Str) = "booked") then _ else (("guests" : Str), V.int (n : Int)) :: (if (("lists" : Str) = "booked") then _ else (("lists" : Str), V.ref a) :: (if (("booked" : Str) = "booked") then _ else _))) = _
  rw [if_neg (by decide), if_neg (by decide), if_pos rfl]
  rfl
theorem gf_inj {n n' : Nat} {a a' b b' : Addr} (h : gf n a b = gf n' a' b') : n = n' ∧ a = a' ∧ b = b' := by
  unfold gf at h
  injection h with h1 h2
  injection h2 with h2 h3
  injection h3 with h3 _
  injection h1 with _ h1
  injection h2 with _ h2
  injection h3 with _ h3
  injection h1 with h1
  injection h2 with h2
  injection h3 with h3
  exact ⟨Int.ofNat.inj h1, h2, h3⟩
theorem refs_inj : ∀ {as bs : List Addr}, as.map V.ref = bs.map V.ref → as = bs
  | [], [], _ => rfl
  | [], _ :: _, h => by simp at h
  | _ :: _, [], h => by simp at h
  | a :: as, b :: bs, h => by
    rw [List.map_cons, List.map_cons] at h
    injection h with h1 h2
    injection h1 with h1
    rw [h1, refs_inj h2]
theorem nv_iv (ns : List Nat) : nv ns = iv (ns.map fun (n : Nat) => (n : Int)) := (ints_nv ns).symm
theorem LT.neI {P b C dx : Addr} {H : Hp} {fs : List (Str × V)} (h : LT P H) (hb : H b = some (.ins C dx fs)) : b ≠ P := fun e => by
  obtain ⟨ps, hp⟩ := h.at_
  rw [e, hp] at hb
  cases hb
theorem SameT.trans {g : Addr} {H H1 H2 : Hp} (s : SameT g H H1) (t : SameT g H1 H2) : SameT g H H2 := fun b o n e => t b o n (s b o n e)
theorem sameT_set {g : Addr} {H : Hp} (o : HO) : SameT g H (upd H g o) := fun b o n e => by rw [upd_ne n]; exact e
theorem toT {g : Addr} {H H1 : Hp} (s : Same H H1) : SameT g H H1 := fun b o _ e => s b o e
theorem LT.keepI {PT g C dx : Addr} {H H' : Hp} {fs : List (Str × V)} (h : LT PT H) (hg : H g = some (.ins C dx fs)) (s : SameT g H H') : LT PT H' := by
  rcases h with h | ⟨c, h1, h2⟩
  · exact .inl (s _ _ (fun e => by rw [e, hg] at h; cases h) h)
  · exact .inr ⟨c, s _ _ (fun e => by rw [e, hg] at h1; cases h1) h1, s _ _ (fun e => by rw [e, hg] at h2; cases h2) h2⟩
theorem LT.keepL {PT g : Addr} {H H' : Hp} {xs : List V} (h : LT PT H) (hg : H g = some (.lst xs)) (s : SameT g H H') : LT PT H' := by
  rcases h with h | ⟨c, h1, h2⟩
  · exact .inl (s _ _ (fun e => by rw [e, hg] at h; cases h) h)
  · exact .inr ⟨c, s _ _ (fun e => by rw [e, hg] at h1; cases h1) h1, s _ _ (fun e => by rw [e, hg] at h2; cases h2) h2⟩
def bookOf (s : State) : List Nat := s.rooms.getD []
/-- the group at g, and where its parts lie -/
structure GR (C PT : Addr) (H : Hp) (g dx a bk : Addr) (as : List Addr) (s : State) : Prop where
  hg : H g = some (.ins C dx (gf s.likes.length a bk))
  hl : H a = some (.lst (as.map V.ref))
  hp : Paired (fun b l => H b = some (.lst (nv l))) as ([] :: s.likes)
  hb : H bk = some (.lst (nv (bookOf s)))
  T : LT PT H
theorem GR.L {C PT : Addr} {H : Hp} {g dx a bk : Addr} {as : List Addr} {s : State} (G : GR C PT H g dx a bk as s) : Lists H a s.likes := ⟨as, G.hl, G.hp⟩
def GS (C PT : Addr) (H : Hp) (g : Addr) (s : State) : Prop := ∃ dx a bk as, GR C PT H g dx a bk as s
def Fp (C PT : Addr) (H : Hp) (g b : Addr) : Prop := b = PT ∨ ∃ dx n a bk, ∃ as : List Addr, H g = some (.ins C dx (gf n a bk)) ∧ H a = some (.lst (as.map V.ref)) ∧ (b = g ∨ b = a ∨ b = bk ∨ b ∈ as)
theorem GR.foot {C PT : Addr} {H : Hp} {g dx a bk b : Addr} {as : List Addr} {s : State} (G : GR C PT H g dx a bk as s) (h : Fp C PT H g b) : b = PT ∨ b = g ∨ b = a ∨ b = bk ∨ b ∈ as := by
  rcases h with h | ⟨dx', n', a', bk', as', f1, f2, f3⟩
  · exact .inl h
  · rw [G.hg] at f1
    injection f1 with f1
    injection f1 with _ _ f4
    obtain ⟨_, rfl, rfl⟩ := gf_inj f4
    rw [G.hl] at f2
    injection f2 with f2
    injection f2 with f2
    rw [← refs_inj f2] at f3
    exact .inr f3
theorem GR.fp {C PT : Addr} {H : Hp} {g dx a bk b : Addr} {as : List Addr} {s : State} (G : GR C PT H g dx a bk as s) (h : b = g ∨ b = a ∨ b = bk ∨ b ∈ as) : Fp C PT H g b := .inr ⟨dx, _, a, bk, as, G.hg, G.hl, h⟩
theorem paired_keep {H H' : Hp} {as : List Addr} {L : List (List Nat)} (h : Paired (fun b l => H b = some (.lst (nv l))) as L) (k : ∀ b o, b ∈ as → H b = some o → H' b = some o) : Paired (fun b l => H' b = some (.lst (nv l))) as L := by
  induction h with
  | nil => exact .nil
  | cons r _ ih => exact .cons (k _ _ (.head _) r) (ih fun b o hb => k b o (.tail _ hb))
theorem GR.frame {C PT : Addr} {H H' : Hp} {g dx a bk : Addr} {as : List Addr} {s : State} (G : GR C PT H g dx a bk as s) (k : ∀ b o, Fp C PT H g b ∨ (∃ q, o = .ext q) → H b = some o → H' b = some o) : GR C PT H' g dx a bk as s := by
  refine ⟨k _ _ (.inl (G.fp (.inl rfl))) G.hg, k _ _ (.inl (G.fp (.inr (.inl rfl)))) G.hl, paired_keep G.hp fun b o hb e => k _ _ (.inl (G.fp (.inr (.inr (.inr hb))))) e, k _ _ (.inl (G.fp (.inr (.inr (.inl rfl))))) G.hb, ?_⟩
  rcases G.T with h | ⟨c, h1, h2⟩
  · exact .inl (k _ _ (.inl (.inl rfl)) h)
  · exact .inr ⟨c, k _ _ (.inl (.inl rfl)) h1, k _ _ (.inr ⟨_, rfl⟩) h2⟩
theorem GR.sameT {C PT : Addr} {H H' : Hp} {g dx a bk : Addr} {as : List Addr} {s : State} (G : GR C PT H g dx a bk as s) (k : SameT PT H H') (t : LT PT H') : GR C PT H' g dx a bk as s :=
  ⟨k _ _ (G.T.neI G.hg) G.hg, k _ _ (G.T.ne G.hl) G.hl, paired_mono (fun _ _ e => k _ _ (G.T.ne e) e) G.hp, k _ _ (G.T.ne G.hb) G.hb, t⟩
/-- what stands for the group's state, and where it lies -/
structure Grp (C : Addr) (GS : Hp → Addr → State → Prop) (Fp : Hp → Addr → Addr → Prop) : Prop where
  frame : ∀ {H H' : Hp} {g : Addr} {s : State}, GS H g s → (∀ b o, Fp H g b ∨ (∃ q, o = .ext q) → H b = some o → H' b = some o) → GS H' g s
  foot : ∀ {H H' : Hp} {g b : Addr} {s : State}, GS H g s → (∀ b o, Fp H g b ∨ (∃ q, o = .ext q) → H b = some o → H' b = some o) → Fp H' g b → Fp H g b
  live : ∀ {H : Hp} {g b : Addr} {s : State}, GS H g s → Fp H g b → H b ≠ none
  inst : ∀ {H : Hp} {g : Addr} {s : State}, GS H g s → ∃ dx fs, H g = some (.ins C dx fs) ∧ fs.lookup ("answer" : Str) = none
theorem grp (C PT : Addr) : Grp C (GS C PT) (Fp C PT) := by
  refine ⟨fun ⟨dx, a, bk, as, G⟩ k => ⟨dx, a, bk, as, G.frame k⟩, fun ⟨dx, a, bk, as, G⟩ k h => ?_, fun ⟨dx, a, bk, as, G⟩ h => ?_, fun ⟨dx, a, bk, as, G⟩ => ⟨dx, _, G.hg, gf_no _ _ _ (by decide) (by decide) (by decide)⟩⟩
  · rcases (G.frame k).foot h with h | h
    · exact .inl h
    · exact G.fp h
  · rcases G.foot h with h | h | h | h | h
    · obtain ⟨ps, e⟩ := G.T.at_
      rw [h, e]
      exact fun z => by cases z
    · rw [h, G.hg]; exact fun z => by cases z
    · rw [h, G.hl]; exact fun z => by cases z
    · rw [h, G.hb]; exact fun z => by cases z
    · obtain ⟨l, e⟩ := paired_in G.hp h
      rw [e]; exact fun z => by cases z
/-- how a call ends: the group then, the answer in a new list -/
def OutS (GS : Hp → Addr → State → Prop) (Fp : Hp → Addr → Addr → Prop) (H : Hp) (g : Addr) (Q : VK) (s : State) (ans : List Int) : Prop :=
  ∀ H' p, (∀ b o, H b = some o → ¬ Fp H g b → H' b = some o) → (∀ b, Fp H' g b → Fp H g b ∨ H b = none) → GS H' g s → H p = none → H' p = some (.lst (iv ans)) → Q (.ref p) H'
abbrev Ou (C PT : Addr) (H : Hp) (g : Addr) (Q : VK) (z : State × List Int) : Prop := OutS (GS C PT) (Fp C PT) H g Q z.1 z.2
theorem Ou.by_ {C PT : Addr} {H H' : Hp} {g dx a bk dx' a' bk' p : Addr} {as as' : List Addr} {Q : VK} {s : State} {z : State × List Int} (k : Ou C PT H g Q z) (G : GR C PT H g dx a bk as s) (G' : GR C PT H' g dx' a' bk' as' z.1)
    (keep : ∀ b o, H b = some o → b ≠ g → b ≠ a → b ≠ PT → H' b = some o) (na : a' = a ∨ H a' = none) (nb : bk' = bk ∨ H bk' = none) (ns : ∀ x ∈ as', x ∈ as ∨ H x = none) (hp : H p = none) (hq : H' p = some (.lst (iv z.2))) : Q (.ref p) H' := by
  refine k H' p (fun b o e n => keep b o e (fun q => n (G.fp (.inl q))) (fun q => n (G.fp (.inr (.inl q)))) (fun q => n (.inl q))) (fun b h => ?_) ⟨dx', a', bk', as', G'⟩ hp hq
  rcases G'.foot h with h | h | h | h | h
  · exact .inl (.inl h)
  · exact .inl (G.fp (.inl h))
  · rcases na with e | e
    · exact .inl (G.fp (.inr (.inl (h.trans e))))
    · exact .inr (by rw [h]; exact e)
  · rcases nb with e | e
    · exact .inl (G.fp (.inr (.inr (.inl (h.trans e)))))
    · exact .inr (by rw [h]; exact e)
  · rcases ns b h with e | e
    · exact .inl (G.fp (.inr (.inr (.inr e))))
    · exact .inr e
theorem Ou.sameT {C PT : Addr} {H H' : Hp} {g dx a bk p : Addr} {as : List Addr} {Q : VK} {s : State} {ans : List Int} (k : Ou C PT H g Q (s, ans)) (G : GR C PT H g dx a bk as s) (t : SameT PT H H') (hT : LT PT H') (hp : H p = none) (hq : H' p = some (.lst (iv ans))) : Q (.ref p) H' :=
  k.by_ G (G.sameT t hT) (fun b o e _ _ n => t b o n e) (.inl rfl) (.inl rfl) (fun x hx => .inl hx) hp hq
theorem Ou.same {C PT : Addr} {H H' : Hp} {g dx a bk p : Addr} {as : List Addr} {Q : VK} {s : State} {ans : List Int} (k : Ou C PT H g Q (s, ans)) (G : GR C PT H g dx a bk as s) (t : Same H H') (hp : H p = none) (hq : H' p = some (.lst (iv ans))) : Q (.ref p) H' :=
  k.sameT G (toT t) (G.T.mono t) hp hq
/-- a refusal -/
theorem Ou.no {C PT : Addr} {H H' : Hp} {g dx a bk p : Addr} {as : List Addr} {Q : VK} {s : State} {e : Int} (k : Ou C PT H g Q (s, [e])) (G : GR C PT H g dx a bk as s) (t : Same H H') (hp : H' p = none) : Q (.ref p) (upd H' p (.lst [V.int e])) :=
  k.same G (t.trans (same_upd hp)) (t.free hp) (by rw [upd_same]; rfl)
def zs (ns : List Nat) : List Int := ns.map fun (n : Nat) => (n : Int)
theorem iv_zs (ns : List Nat) : iv (zs ns) = nv ns := ints_nv ns
theorem zs_len (ns : List Nat) : (zs ns).length = ns.length := List.length_map _
theorem nats_zs (ns : List Nat) : Vbhoam.nats (zs ns) = ns := by
  unfold Vbhoam.nats zs
  rw [List.map_map]
  have e : ns.map (Int.toNat ∘ fun (n : Nat) => (n : Int)) = ns.map id := List.map_congr_left fun x _ => rfl
  rw [e, List.map_id]
/-- [0] + a list -/
theorem Ou.zero {C PT : Addr} {H H1 : Hp} {g dx a bk b r : Addr} {as : List Addr} {Q : VK} {s : State} {ns : List Nat} (k : Ou C PT H g Q (s, zs (0 :: ns))) (G : GR C PT H g dx a bk as s) (t : Same H H1) (hr : H1 r = some (.lst (nv [0]))) (hb : H1 b = some (.lst (nv ns))) (hn : ns.length ≤ 900) : rCat (.ref r) (.ref b) H1 Q :=
  cat_newB hr hb (by show 1 + ns.length ≤ 1000; omega) fun p hp => k.same G (t.trans (same_upd hp)) (t.free hp) (by rw [upd_same, iv_zs]; rfl)
theorem Ou.zeroT {C PT : Addr} {H H1 : Hp} {g dx a bk b r : Addr} {as : List Addr} {Q : VK} {s : State} {ns : List Nat} (k : Ou C PT H g Q (s, zs (0 :: ns))) (G : GR C PT H g dx a bk as s) (t : SameT PT H H1) (hT : LT PT H1) (hr : H1 r = some (.lst (nv [0]))) (hb : H1 b = some (.lst (nv ns))) (hn : ns.length ≤ 900) : rCat (.ref r) (.ref b) H1 Q :=
  cat_newB hr hb (by show 1 + ns.length ≤ 1000; omega) fun p hp => k.sameT G (t.trans (toT (same_upd hp))) (hT.mono (same_upd hp)) (freeT G.T t hT hp) (by rw [upd_same, iv_zs]; rfl)
/-- what the specification says of a call that is taken up -/
def resOf (s : State) (c : Vbhoam.Call) : State × List Int := match Vbhoam.does s c with
  | .error e => (s, [e])
  | .ok (t, l) => (t, 0 :: l)
theorem step_res (s : State) (c : Vbhoam.Call) : Vbhoam.step s c = if s.opened = false ∧ Vbhoam.isOpens c = false then (s, [-2]) else resOf s c := rfl
def spInitS (C PT : Addr) (GS : Hp → Addr → State → Prop) : Sp := fun vs H Q _ => ∃ (g dx : Addr), vs = [.ref g] ∧ H g = some (.ins C dx []) ∧ LT PT H ∧ ∀ H', (∀ b o, H b = some o → b ≠ g → H' b = some o) → GS H' g Vbhoam.start → Q .non H'
theorem d_init {C PT : Addr} (T : Txt K mg) (GT : GTx K mg C) (F : AtI K C "Group.__init__" s_Group___init__ ["self"]) : Di P w K mg base C 1 ["self"] (spInitS C PT (GS C PT)) := by
  refine Di.of F sc_Group___init__ (fun vs H Q E h => ?_) (fun f cdv A outer s H vs Q E hr h => ?_)
  · obtain ⟨g, dx, rfl, _⟩ := h
    rfl
  · obtain ⟨g, dx, rfl, hg, hT, k⟩ := h
    refine ⟨_, (pss_cons (ps_fld (pv 0) pe_int rfl)
      (pss_cons (ps_fld (pv 0) (pe_lst (pa_cons (pe_lst pa_nil) pa_nil)) rfl)
      (pss_one (ps_fld (pv 0) (pe_lst pa_nil) rfl)))), ?_⟩
    refine ⟨_, rfl, g, C, dx, [], rfl, hg, GT.cl, GT.n_guests, (by show 0 < 1000; decide), ?_⟩
    have s1 : SameT g H (upd H g (.ins C dx (putF "guests" (.int 0) []))) := sameT_set _
    have g1 : upd H g (.ins C dx (putF "guests" (.int 0) [])) g = some (.ins C dx (putF "guests" (.int 0) [])) := upd_same
    generalize upd H g (.ins C dx (putF "guests" (.int 0) [])) = H1 at s1 g1
    refine ⟨Nat.zero_le _, fun p0 hp0 => ⟨(by show 1 ≤ sizeLine; decide), fun q0 hq0 => ?_⟩⟩
    have s2 := same_upd (o := .lst []) hp0
    have p2 : upd H1 p0 (.lst []) p0 = some (.lst (nv [])) := upd_same
    generalize upd H1 p0 (.lst []) = H2 at s2 p2 hq0
    have s3 := same_upd (o := .lst [V.ref p0]) hq0
    have q3 : upd H2 q0 (.lst [V.ref p0]) q0 = some (.lst ([p0].map V.ref)) := upd_same
    have p3 := s3 _ _ p2
    have g3 := s3 _ _ (s2 _ _ g1)
    generalize upd H2 q0 (.lst [V.ref p0]) = H3 at s3 q3 p3 g3
    refine ⟨_, rfl, g, C, dx, _, rfl, g3, GT.cl, GT.n_lists, (by show 1 < 1000; decide), ?_⟩
    have s4 : SameT g H3 (upd H3 g (.ins C dx (putF "lists" (.ref q0) (putF "guests" (.int 0) [])))) := sameT_set _
    have g4 : upd H3 g (.ins C dx (putF "lists" (.ref q0) (putF "guests" (.int 0) []))) g = some (.ins C dx (putF "lists" (.ref q0) (putF "guests" (.int 0) []))) := upd_same
    have q4 := s4 _ _ (fun e => by rw [e, g3] at q3; cases q3) q3
    have p4 := s4 _ _ (fun e => by rw [e, g3] at p3; cases p3) p3
    generalize upd H3 g (.ins C dx (putF "lists" (.ref q0) (putF "guests" (.int 0) []))) = H4 at s4 g4 q4 p4
    refine ⟨Nat.zero_le _, fun r0 hr0 => ?_⟩
    have s5 := same_upd (o := .lst []) hr0
    have r5 : upd H4 r0 (.lst []) r0 = some (.lst (nv [])) := upd_same
    have g5 := s5 _ _ g4
    have q5 := s5 _ _ q4
    have p5 := s5 _ _ p4
    generalize upd H4 r0 (.lst []) = H5 at s5 r5 g5 q5 p5
    refine ⟨_, rfl, g, C, dx, _, rfl, g5, GT.cl, GT.n_booked, (by show 2 < 1000; decide), ?_⟩
    have s6 : SameT g H5 (upd H5 g (.ins C dx (gf 0 q0 r0))) := sameT_set _
    have sA : SameT g H (upd H5 g (.ins C dx (gf 0 q0 r0))) := ((((s1.trans (toT s2)).trans (toT s3)).trans s4).trans (toT s5)).trans s6
    exact k _ (fun b o e n => sA b o n e) ⟨dx, q0, r0, [p0], upd_same, s6 _ _ (fun e => by rw [e, g5] at q5; cases q5) q5, .cons (s6 _ _ (fun e => by rw [e, g5] at p5; cases p5) p5) .nil, s6 _ _ (fun e => by rw [e, g5] at r5; cases r5) r5, hT.keepI hg sA⟩
end
end Rs
end
section
set_option Elab.async false
set_option linter.all false
set_option maxRecDepth 100000
set_option maxHeartbeats 2000000
namespace Rs
open PySem PySem.Spec PyProof.Rows L2
open Vbhoam (Likes State)
section
variable {P : Program} {w : World} {K : PySem.W.Frag} {mg : Str → Option Value} {base : Heap}
theorem freeS {g p : Addr} {H H1 : Hp} (s : SameT g H H1) {o : HO} (hg : H1 g = some o) (hp : H1 p = none) : H p = none := by
  cases e : H p with
  | none => rfl
  | some o' =>
    have n : p ≠ g := fun z => by rw [z, hg] at hp; cases hp
    rw [s p o' n e] at hp
    cases hp
theorem book_nil {s : State} (I : Inv s) (h : s.likes.length = 0) : bookOf s = [] := by
  unfold bookOf
  cases e : s.rooms with
  | none => rfl
  | some m => exact List.length_eq_zero_iff.mp ((I.rm m e).1.trans h)
theorem res_opens (s : State) (n : Nat) (I : Inv s) : resOf s (.opens n) = if s.likes.length = 0 then ({ opened := true, likes := List.replicate n [] }, [0]) else (s, [-3]) := by
  unfold resOf Vbhoam.does
  dsimp only
  rw [I.op]
  by_cases h : s.likes.length = 0
  · rw [if_pos h, if_neg (by rw [decide_eq_false (by omega)]; simp)]
  · rw [if_neg h, if_pos (decide_eq_true (by omega))]
def spBegin (C PT : Addr) : Sp := fun vs H Q _ => ∃ (g : Addr) (n : Nat) (s : State), vs = [.ref g, .int n] ∧ n ≤ 7 ∧ Inv s ∧ GS C PT H g s ∧ Ou C PT H g Q (resOf s (.opens n))
theorem d_begin {C PT : Addr} (T : Txt K mg) (GT : GTx K mg C) (F : AtM K C "begin" "Group.begin" s_Group_begin ["self", "guests"]) : Dm P w K mg base C "begin" 1 ["self", "guests"] (spBegin C PT) := by
  refine Dm.of F sc_Group_begin (fun vs H Q E h => ?_) (fun f cdv A outer _ H vs Q E hr h => ?_)
  · obtain ⟨g, n, l, rfl, _⟩ := h
    rfl
  · obtain ⟨g, n, s, rfl, hn, I, ⟨dx, a, bk, as0, G⟩, k⟩ := h
    refine ⟨_, (pss_cons (ps_if (pt_cmpR op_ne (pe_fld (pv 0) rfl) pe_int (nomark _)) (pss_one (ps_ret (pe_lst (pa_cons (pe_gi rfl T.c_BEGUN_ALREADY) pa_nil)))) pss_nil)
      (pss_cons (ps_fld (pv 0) (pv 1) rfl)
      (pss_cons (ps_fld (pv 0) (pe_lc (own := [("guest", 2)]) rfl sc_Group_begin.nd (pi_range1 rfl T.b_range (pa_cons (pe_op op_add (pv 1) pe_int) pa_nil)) (blkOk_by (N := ["self", "guests", "guest"]) (sc := defScope s_Group_begin) (by decide +kernel)) (fun _ _ _ _ _ => pg_name (i := 2) sc_Group_begin.nd rfl (Or.inl rfl)) (fun _ _ _ _ _ => pts_nil) (fun _ _ _ _ _ => (pe_lst pa_nil))) rfl)
      (pss_one (ps_ret (pe_lst (pa_cons pe_int pa_nil))))))), ?_⟩
    have sz : sizeLine = 16777216 := rfl
    rw [res_opens s n I] at k
    refine ⟨_, rfl, g, C, dx, _, _, rfl, G.hg, GT.cl, GT.n_guests, gf_guests _ _ _, rfl, _, rfl, ?_⟩
    rw [show (!decide (V.int ((s.likes.length : Nat) : Int) = V.int 0)) = !(s.likes.length == 0) from int_ne _ 0]
    by_cases h0 : s.likes.length = 0
    · rw [if_pos h0] at k
      rw [h0]
      refine ⟨_, rfl, _, rfl, g, C, dx, _, rfl, G.hg, GT.cl, GT.n_guests, (by show 3 < 1000; decide), ?_⟩
      rw [gf_putG]
      have sg : SameT g H (upd H g (.ins C dx (gf n a bk))) := sameT_set _
      have hg0 : upd H g (.ins C dx (gf n a bk)) g = some (.ins C dx (gf n a bk)) := upd_same
      generalize upd H g (.ins C dx (gf n a bk)) = H0 at sg hg0
      refine ⟨_, rfl, _, _, rfl, rfl, _, rfl, by omega, by omega, fun D hD => lc_range (lo := 0) (n := ((n : Int) + 1).toNat) (fun i H' => Same H0 H' ∧ ∃ as : List Addr, H' D = some (.lst (as.map V.ref)) ∧ Paired (fun b l => H' b = some (.lst (nv l))) as (List.replicate i []) ∧ ∀ b ∈ as, H b = none) ⟨same_upd hD, [], upd_same, .nil, fun b hb => absurd hb (by simp)⟩ ?_ ?_⟩
      · rintro i H' hi ⟨s1, as, w1, w2, w3⟩
        refine ⟨rfl, ⟨Nat.zero_le _, fun r hr => ?_⟩⟩
        have t1 := same_upd (o := .lst (nv [])) hr
        have nrD : r ≠ D := fun e => by rw [e, w1] at hr; cases hr
        have w2' : Paired (fun b l => upd H' r (.lst (nv [])) b = some (.lst (nv l))) as (List.replicate i []) := paired_mono (fun b l e => t1 _ _ e) w2
        refine ⟨as.map V.ref, t1 _ _ w1, by rw [List.length_map, w2.length, List.length_replicate]; omega, same_upd2 (s1.trans t1) hD, as ++ [r], by rw [upd_same, List.map_append]; rfl, ?_, fun b hb => ?_⟩
        · rw [List.replicate_succ']
          exact paired_snoc (paired_upd w2' (LL.apart (t1 _ _ w1) w2')) (by rw [upd_ne nrD, upd_same]; rfl)
        · rcases List.mem_append.mp hb with z | z
          · exact w3 b z
          · rw [List.mem_singleton.mp z]
            exact freeS sg hg0 (s1.free hr)
      · rintro H' ⟨s1, as, a1, a2, a3⟩
        have hg' : H' g = some (.ins C dx (gf n a bk)) := s1 _ _ hg0
        refine ⟨_, rfl, g, C, dx, _, rfl, hg', GT.cl, GT.n_lists, (by show 3 < 1000; decide), ?_⟩
        rw [gf_putL]
        refine ⟨(by show 1 ≤ sizeLine; decide), fun p hp => ?_⟩
        have e1 : (((n : Int) + 1).toNat) = n + 1 := by omega
        rw [e1, List.replicate_succ] at a2
        have s2 : SameT g H' (upd H' g (.ins C dx (gf n D bk))) := sameT_set _
        have g2 : upd H' g (.ins C dx (gf n D bk)) g = some (.ins C dx (gf n D bk)) := upd_same
        generalize upd H' g (.ins C dx (gf n D bk)) = H2 at s2 g2 hp
        have s3 := same_upd (o := .lst [V.int 0]) hp
        have sB : SameT g H H2 := (sg.trans (toT s1)).trans s2
        have sA : SameT g H (upd H2 p (.lst [V.int 0])) := sB.trans (toT s3)
        have tr : ∀ b xs, H' b = some (.lst xs) → upd H2 p (.lst [V.int 0]) b = some (.lst xs) := fun b xs e => s3 _ _ (s2 _ _ (fun z => by rw [z, hg'] at e; cases e) e)
        refine k.by_ (dx' := dx) (a' := D) (bk' := bk) (as' := as) G ⟨?_, tr _ _ a1, paired_mono (fun b l e => tr _ _ e) a2, ?_, G.T.keepI G.hg sA⟩ (fun b o e n _ _ => sA b o n e) (.inr (freeS sg hg0 hD)) (.inl rfl) (fun x hx => .inr (a3 x hx)) (freeS sB g2 hp) (by rw [upd_same]; rfl)
        · show upd H2 p _ g = some (.ins C dx (gf (List.replicate n ([] : List Nat)).length D bk))
          rw [List.length_replicate]
          exact s3 _ _ g2
        · show upd H2 p _ bk = some (.lst (nv []))
          rw [← book_nil I h0]
          exact sA _ _ (fun z => by have := G.hb; rw [z, G.hg] at this; cases this) G.hb
    · rw [if_neg h0] at k
      rw [show (s.likes.length == 0) = false from beq_false_of_ne h0]
      exact ⟨(by show 1 ≤ sizeLine; decide), fun p hp => k.no G (fun _ _ z => z) hp⟩
/-! ### a list is taken -/
theorem res_list (s : State) (i : Nat) (L : List Nat) (hi : 1 ≤ i) : resOf s (.list i (zs L)) = if s.likes.length < i then (s, [-4]) else if okList s.likes.length i L = false then (s, [-5]) else ({ s with likes := s.likes.set (i - 1) L }, [0]) := by
  unfold resOf Vbhoam.does
  dsimp only
  rw [nats_zs]
  by_cases h1 : s.likes.length < i
  · rw [if_pos h1, if_pos (by unfold Vbhoam.isGuest; rw [decide_eq_false (show ¬ i ≤ s.likes.length by omega), Bool.and_false])]
  · rw [if_neg h1, if_neg (by unfold Vbhoam.isGuest; rw [decide_eq_true (show i ≤ s.likes.length by omega), decide_eq_true hi]; simp)]
    by_cases h2 : L.all (fun j => Vbhoam.isGuest s j && j != i) = false ∨ Vbhoam.distinct L = false
    · rw [if_pos h2, if_pos]
      rw [Bool.eq_false_iff]
      intro z
      obtain ⟨a, b⟩ := (okList_iff _ _ _).mp z
      rcases h2 with q | q
      · rw [Bool.eq_false_iff] at q
        refine q (List.all_eq_true.mpr fun j hj => ?_)
        have := a j hj
        rw [Bool.and_eq_true, bne_iff_ne]
        exact ⟨guest_iff.mpr (mem_guests.mpr ⟨this.1, this.2.1⟩), this.2.2⟩
      · rw [(distinct_iff L).mpr b] at q
        cases q
    · rw [if_neg h2, list_ok h2, if_neg (by simp)]
def spTake (C PT : Addr) : Sp := fun vs H Q _ => ∃ (g b : Addr) (i : Nat) (s : State) (L : List Nat), vs = [.ref g, .int i, .ref b] ∧ 1 ≤ i ∧ L.length ≤ 100 ∧ Inv s ∧ GS C PT H g s ∧ H b = some (.lst (nv L)) ∧ Ou C PT H g Q (resOf s (.list i (zs L)))
theorem d_take_list {C PT : Addr} (T : Txt K mg) (GT : GTx K mg C) (F : AtM K C "take_list" "Group.take_list" s_Group_take_list ["self", "guest", "others"]) : Dm P w K mg base C "take_list" 1 ["self", "guest", "others"] (spTake C PT) := by
  refine Dm.of F sc_Group_take_list (fun vs H Q E h => ?_) (fun f cdv A outer _ H vs Q E hr h => ?_)
  · obtain ⟨g, b, i, l, L, rfl, _⟩ := h
    rfl
  · obtain ⟨g, b, i, s, L, rfl, hi1, hL100, I, ⟨dx, a, bk, as, G⟩, hb, k⟩ := h
    refine ⟨_, (pss_cons (ps_if (pt_cmpR op_gt (pv 1) (pe_fld (pv 0) rfl) (nomark _)) (pss_one (ps_ret (pe_lst (pa_cons (pe_gi rfl T.c_NO_SUCH_GUEST) pa_nil)))) pss_nil)
      (pss_cons (ps_for PassesOwn.never rfl (pi_list (pv 2)) (pg_name (i := 3) sc_Group_take_list.nd rfl (Or.inl rfl))
        (pss_one (ps_if (PW.pt (pw_or (pt_cmpR op_eq (pv 3) pe_int (nomark _)) (pw_or (pt_cmpR op_gt (pv 3) (pe_fld (pv 0) rfl) (nomark _)) (pw_or (pt_cmpR op_eq (pv 3) (pv 1) (nomark _)) (pw_or1 (pt_cmpR op_gt (pe_bm PySem.F.plainAttrs_list PySem.F.slot_list_count PySem.F.type_list_count mt_countL (pv 2) (pa_cons (pv 3) pa_nil)) pe_int (nomark _))))))) (pss_one (ps_ret (pe_lst (pa_cons (pe_gi rfl T.c_WRONG_LIST) pa_nil)))) pss_nil)))
      (pss_cons (ps_asg (pe_callTy call_list_of rfl T.b_list PyProof.Rows.boot_list (pa_cons (pv 2) pa_nil)) (pg_sub (pe_fld (pv 0) rfl) (pv 1) set_list))
      (pss_one (ps_ret (pe_lst (pa_cons pe_int pa_nil))))))), ?_⟩
    rw [res_list s i L hi1] at k
    have h1 := G.hg
    generalize hl : s.likes = l at k h1
    refine ⟨_, rfl, _, rfl, g, C, dx, _, _, rfl, h1, GT.cl, GT.n_guests, gf_guests _ _ _, _, _, rfl, rfl, _, rfl, ?_⟩
    rw [show decide (((l.length : Nat) : Int) < ((i : Nat) : Int)) = decide (l.length < i) from decide_eq_decide.mpr Int.ofNat_lt]
    by_cases hin : l.length < i
    · rw [if_pos hin] at k
      rw [decide_eq_true hin]
      exact ⟨(by show 1 ≤ sizeLine; decide), fun p hp => k.no G (fun _ _ z => z) hp⟩
    · rw [if_neg hin] at k
      rw [decide_eq_false hin]
      have gi : i ∈ Vbhoam.guests l := mem_guests.mpr ⟨hi1, by omega⟩
      refine ⟨_, rfl, b, rfl, ⟨_, SqL.of hb⟩, for_list (K := K) (a := b) (xs := nv L) (fun j σ H' => ∃ v3 : Option V, σ = [some (.ref g), some (.int i), some (.ref b), v3] ∧ H' = H ∧ ∀ (m x : Nat), m < j → L[m]? = some x → badL l.length i L x = false) ⟨none, rfl, rfl, fun m x h => absurd h (Nat.not_lt_zero _)⟩ (fun j σ H' _ ⟨_, _, e, _⟩ => by rw [e]; exact SqL.of hb) ?_ ?_⟩
      · rintro j y σ H' hy ⟨v3, rfl, rfl, hnb⟩
        obtain ⟨x, hx, rfl⟩ := nv_of hy
        have bad : badL l.length i L x = true → okList l.length i L = false := fun e => by
          rw [Bool.eq_false_iff]
          intro z
          have := List.all_eq_true.mp z x (List.mem_of_getElem? hx)
          rw [e] at this
          cases this
        have stop : badL l.length i L x = true → ∀ p, H' p = none → Q (.ref p) (upd H' p (.lst [V.int (-5)])) := fun e p hp => by
          rw [if_pos (bad e)] at k
          exact k.no G (fun _ _ z => z) hp
        refine ⟨_, rfl, rfl, _, rfl, ?_⟩
        rw [show decide (V.int ((x : Nat) : Int) = V.int 0) = (x == 0) from dec_nat x 0]
        cases c1 : (x == 0) with
        | true => exact ⟨(by show 1 ≤ sizeLine; decide), stop (by unfold badL; rw [c1]; rfl)⟩
        | false =>
          refine ⟨_, rfl, _, rfl, g, C, dx, _, _, rfl, h1, GT.cl, GT.n_guests, gf_guests _ _ _, _, _, rfl, rfl, _, rfl, ?_⟩
          rw [show decide (((l.length : Nat) : Int) < ((x : Nat) : Int)) = decide (l.length < x) from decide_eq_decide.mpr Int.ofNat_lt]
          cases c2 : decide (l.length < x) with
          | true => exact ⟨(by show 1 ≤ sizeLine; decide), stop (by unfold badL; rw [c1, c2]; rfl)⟩
          | false =>
            refine ⟨_, rfl, _, rfl, rfl, _, rfl, ?_⟩
            rw [dec_nat x i]
            cases c3 : (x == i) with
            | true => exact ⟨(by show 1 ≤ sizeLine; decide), stop (by unfold badL; rw [c1, c2, c3]; rfl)⟩
            | false =>
              refine ⟨_, rfl, .inl ⟨rfl, _, SqL.of hb⟩, _, rfl, b, _, _, rfl, rfl, SqL.of hb, rfl, nv_flat _, ?_⟩
              rw [nv_count]
              refine ⟨_, _, rfl, rfl, _, rfl, ?_⟩
              rw [show decide ((1 : Int) < ((L.count x : Nat) : Int)) = decide (1 < L.count x) from decide_eq_decide.mpr (by omega)]
              cases c4 : decide (1 < L.count x) with
              | true => exact ⟨(by show 1 ≤ sizeLine; decide), stop (by unfold badL; rw [c1, c2, c3, c4]; rfl)⟩
              | false =>
                refine ⟨_, rfl, rfl, fun m x' hm hx' => ?_⟩
                by_cases z : m = j
                · rw [z, hx] at hx'
                  cases hx'
                  unfold badL
                  rw [c1, c2, c3, c4]
                  rfl
                · exact hnb m x' (by omega) hx'
      · rintro σ H' ⟨v3, rfl, rfl, hnb⟩
        have hok : okList l.length i L = true := List.all_eq_true.mpr fun x hx => by
          obtain ⟨m, hm, e⟩ := List.mem_iff_getElem.mp hx
          rw [hnb m x (by rw [nv_len]; exact hm) (by rw [List.getElem?_eq_getElem hm, e])]
          rfl
        rw [hok, if_neg (by simp)] at k
        -- self.lists[guest] = list(others)
        refine ⟨_, rfl, b, _, rfl, .inl (SqL.of hb), fun r hr => ?_⟩
        have t1 := same_upd (o := .lst (nv L)) hr
        have r1 : upd H' r (.lst (nv L)) r = some (.lst (nv L)) := upd_same
        generalize upd H' r (.lst (nv L)) = H1 at t1 r1
        have ha := t1 _ _ G.hl
        have hlen : as.length = l.length + 1 := by rw [← hl]; exact G.hp.length
        refine ⟨_, rfl, g, C, dx, _, _, rfl, t1 _ _ h1, GT.cl, GT.n_lists, gf_lists _ _ _, _, rfl, a, _, _, i, rfl, rfl, ha, ?_, ?_⟩
        · rw [List.length_map]
          unfold ixN
          rw [if_pos (by omega), if_pos (by omega)]
          rfl
        refine ⟨(by show 1 ≤ sizeLine; decide), fun p hp => ?_⟩
        have s2 : SameT a H1 (upd H1 a (.lst ((as.map V.ref).set i (.ref r)))) := sameT_set _
        have a2 : upd H1 a (.lst ((as.map V.ref).set i (.ref r))) a = some (.lst ((as.set i r).map V.ref)) := by rw [upd_same, List.map_set]
        generalize upd H1 a (.lst ((as.map V.ref).set i (.ref r))) = H2 at s2 a2 hp
        have s3 := same_upd (o := .lst [V.int 0]) hp
        have sB : SameT a H' H2 := (toT t1).trans s2
        have sA : SameT a H' (upd H2 p (.lst [V.int 0])) := sB.trans (toT s3)
        have nar : r ≠ a := fun e => by rw [e, G.hl] at hr; cases hr
        have ngA : g ≠ a := fun e => by rw [e, G.hl] at h1; cases h1
        have hgA := sA _ _ ngA h1
        have hrA := s3 _ _ (s2 _ _ nar r1)
        refine k.by_ (dx' := dx) (a' := a) (bk' := bk) (as' := as.set i r) G ⟨?_, s3 _ _ a2, ?_, ?_, G.T.keepL G.hl sA⟩ (fun b' o e _ n _ => sA b' o n e) (.inl rfl) (.inl rfl) (fun x hx => ?_) (freeS sB a2 hp) (by rw [upd_same]; rfl)
        · show upd H2 p _ g = some (.ins C dx (gf (l.set (i - 1) L).length a bk))
          rw [List.length_set]
          exact hgA
        · have e3 : [] :: l.set (i - 1) L = ([] :: l).set i L := by
            obtain ⟨j, rfl⟩ : ∃ j, i = j + 1 := ⟨i - 1, by omega⟩
            rfl
          show Paired _ _ ([] :: l.set (i - 1) L)
          rw [e3, ← hl]
          exact paired_set i (paired_mem G.hp fun b' l' hb' e => sA _ _ (LL.apart G.hl G.hp b' hb') e) hrA
        · by_cases z : bk = a
          · exfalso
            have hb0 := G.hb
            have ha0 := G.hl
            rw [z, ha0] at hb0
            have hb1 : as.map V.ref = nv (bookOf s) := by injection hb0 with hb0; injection hb0
            have hp0 := G.hp
            cases as with
            | nil => cases hp0
            | cons c as =>
              cases hq : bookOf s with
              | nil => rw [hq] at hb1; simp [nv] at hb1
              | cons n r => rw [hq] at hb1; simp [nv] at hb1
          · exact sA _ _ z G.hb
        · rcases List.mem_or_eq_of_mem_set hx with z | z
          · exact .inl z
          · exact .inr (by rw [z]; exact hr)
/-! ### a pairing is booked -/
def spBook (C PT : Addr) : Sp := fun vs H Q _ => ∃ (g b : Addr) (s : State) (m : List Nat), vs = [.ref g, .ref b] ∧ Inv s ∧ GS C PT H g s ∧ H b = some (.lst (nv m)) ∧ m.length ≤ 100 ∧ Ou C PT H g Q ({ s with rooms := some m }, zs [0, m.count 0])
theorem d_book {C PT : Addr} (T : Txt K mg) (GT : GTx K mg C) (F : AtM K C "book" "Group.book" s_Group_book ["self", "pairing"]) : Dm P w K mg base C "book" 1 ["self", "pairing"] (spBook C PT) := by
  refine Dm.of F sc_Group_book (fun vs H Q E h => ?_) (fun f cdv A outer _ H vs Q E hr h => ?_)
  · obtain ⟨g, b, s, m, rfl, _⟩ := h
    rfl
  · obtain ⟨g, b, s, m, rfl, I, ⟨dx, a, bk, as, G⟩, hb, hm, k⟩ := h
    refine ⟨_, (pss_cons (ps_fld (pv 0) (pe_callTy call_list_of rfl T.b_list PyProof.Rows.boot_list (pa_cons (pv 1) pa_nil)) rfl)
      (pss_one (ps_ret (pe_lst (pa_cons pe_int (pa_cons (pe_bm PySem.F.plainAttrs_list PySem.F.slot_list_count PySem.F.type_list_count mt_countL (pv 1) (pa_cons pe_int pa_nil)) pa_nil)))))), ?_⟩
    refine ⟨_, rfl, b, _, rfl, .inl (SqL.of hb), fun r hr => ?_⟩
    have t1 := same_upd (o := .lst (nv m)) hr
    have r1 : upd H r (.lst (nv m)) r = some (.lst (nv m)) := upd_same
    generalize upd H r (.lst (nv m)) = H1 at t1 r1
    have g1 := t1 _ _ G.hg
    refine ⟨_, rfl, g, C, dx, _, rfl, g1, GT.cl, GT.n_booked, (by show 3 < 1000; decide), ?_⟩
    rw [gf_putB]
    have s2 : SameT g H1 (upd H1 g (.ins C dx (gf s.likes.length a r))) := sameT_set _
    have g2 : upd H1 g (.ins C dx (gf s.likes.length a r)) g = some (.ins C dx (gf s.likes.length a r)) := upd_same
    generalize upd H1 g (.ins C dx (gf s.likes.length a r)) = H2 at s2 g2
    have ng : ∀ (x : Addr) (xs : List V), H1 x = some (.lst xs) → x ≠ g := fun x xs e z => by rw [z, g1] at e; cases e
    have b2 : H2 b = some (.lst (nv m)) := s2 _ _ (ng _ _ (t1 _ _ hb)) (t1 _ _ hb)
    refine ⟨_, rfl, .inl ⟨rfl, _, SqL.of b2⟩, b, _, _, rfl, rfl, SqL.of b2, rfl, nv_flat _, ?_⟩
    rw [show (nv m).countP (fun z => eqV z (V.int 0)) = m.count 0 from nv_count 0 m]
    refine ⟨(by show 2 ≤ sizeLine; decide), fun p hp => ?_⟩
    have s3 := same_upd (o := .lst (nv [0, m.count 0])) hp
    have sB : SameT g H H2 := (toT t1).trans s2
    have sA : SameT g H (upd H2 p (.lst (nv [0, m.count 0]))) := sB.trans (toT s3)
    have nh : ∀ (x : Addr) (xs : List V), H x = some (.lst xs) → x ≠ g := fun x xs e z => by rw [z, G.hg] at e; cases e
    exact k.by_ (dx' := dx) (a' := a) (bk' := r) (as' := as) G ⟨s3 _ _ g2, sA _ _ (nh _ _ G.hl) G.hl, paired_mono (fun x l e => sA _ _ (nh _ _ e) e) G.hp, s3 _ _ (s2 _ _ (ng _ _ r1) r1), G.T.keepI G.hg sA⟩ (fun b o e n _ _ => sA b o n e) (.inl rfl) (.inr hr) (fun x hx => .inl hx) (freeS sB g2 hp) (by rw [upd_same, iv_zs]; rfl)
end
end Rs
end
section
set_option Elab.async false
set_option linter.all false
set_option maxRecDepth 100000
set_option maxHeartbeats 2000000
namespace Rs
open PySem PySem.Spec PyProof.Rows L2
open Vbhoam (Likes State)
section
variable {P : Program} {w : World} {K : PySem.W.Frag} {mg : Str → Option Value} {base : Heap}
theorem zs_nv (ns : List Nat) : (zs ns).map V.int = nv ns := ints_nv ns
theorem mem_zs {ns : List Nat} {M : Int} (h : M ∈ zs ns) : ∃ t, t ∈ ns ∧ M = (t : Int) := by
  obtain ⟨t, ht, rfl⟩ := List.mem_map.mp h
  exact ⟨t, ht, rfl⟩
theorem le_zs {ns : List Nat} {t : Nat} (h : ∀ x ∈ zs ns, x ≤ (t : Int)) : ∀ x ∈ ns, x ≤ t := fun x hx => Int.ofNat_le.mp (h (x : Int) (List.mem_map.mpr ⟨x, hx, rfl⟩))
theorem gt_dec (x y : Nat) : decide (((x : Nat) : Int) < ((y : Nat) : Int)) = decide (x < y) := decide_eq_decide.mpr Int.ofNat_lt
/-! ### stable pairings by their places -/
theorem get_no {k : Nat} {L : List (List Nat)} (hk : 1 ≤ k) (h : L.length < k) : (if k = 0 then none else L[k - 1]?) = none := by
  rw [if_neg (by omega), List.getElem?_eq_none (by omega)]
theorem get_yes {k : Nat} {L : List (List Nat)} {m : List Nat} (hk : 1 ≤ k) (h : L[k - 1]? = some m) : (if k = 0 then none else L[k - 1]?) = some m := by
  rw [if_neg (by omega), h]
theorem res_nth_no {s : State} {k : Nat} (hk : 1 ≤ k) (h : (Vbhoam.stables s.likes).length < k) : resOf s (.nth k) = (s, [-7]) := by
  unfold resOf Vbhoam.does
  dsimp only
  rw [get_no hk h]
theorem res_nth {s : State} {k : Nat} {m : List Nat} (hk : 1 ≤ k) (h : (Vbhoam.stables s.likes)[k - 1]? = some m) : resOf s (.nth k) = (s, zs (0 :: m)) := by
  unfold resOf Vbhoam.does
  dsimp only
  rw [get_yes hk h]
  rfl
theorem res_median_no {s : State} {x y z : Nat} (hx : 1 ≤ x) (hy : 1 ≤ y) (hz : 1 ≤ z) (h : (Vbhoam.stables s.likes).length < x ∨ (Vbhoam.stables s.likes).length < y ∨ (Vbhoam.stables s.likes).length < z) : resOf s (.median x y z) = (s, [-7]) := by
  unfold resOf Vbhoam.does
  dsimp only
  rcases h with h | h | h
  · rw [get_no hx h]
  · rw [get_no hy h]
    cases (if x = 0 then none else (Vbhoam.stables s.likes)[x - 1]?) <;> rfl
  · rw [get_no hz h]
    cases (if x = 0 then none else (Vbhoam.stables s.likes)[x - 1]?) <;> cases (if y = 0 then none else (Vbhoam.stables s.likes)[y - 1]?) <;> rfl
theorem res_median {s : State} {x y z : Nat} {a b c : List Nat} (hx : 1 ≤ x) (hy : 1 ≤ y) (hz : 1 ≤ z) (ha : (Vbhoam.stables s.likes)[x - 1]? = some a) (hb : (Vbhoam.stables s.likes)[y - 1]? = some b) (hc : (Vbhoam.stables s.likes)[z - 1]? = some c) :
    resOf s (.median x y z) = (s, zs (0 :: Vbhoam.median s.likes a b c)) := by
  unfold resOf Vbhoam.does
  dsimp only
  rw [get_yes hx ha, get_yes hy hb, get_yes hz hc]
  rfl
def rowAt (l : Likes) (t : Nat) : List Nat := ((Vbhoam.stables l)[t - 1]?).getD []
theorem rowAt_get {l : Likes} {t : Nat} (h1 : 1 ≤ t) (h2 : t ≤ (Vbhoam.stables l).length) : (Vbhoam.stables l)[t - 1]? = some (rowAt l t) := by
  unfold rowAt
  rw [List.getElem?_eq_getElem (by omega)]
  rfl
def spChoose (C PT : Addr) : Sp := fun vs H Q _ => ∃ (g b : Addr) (c : Nat) (tn : List Nat) (s : State), vs = [.ref g, .int c, .ref b] ∧ ((c = 8 ∧ ∃ k, tn = [k]) ∨ (c = 9 ∧ ∃ x y z, tn = [x, y, z])) ∧ (∀ t ∈ tn, 1 ≤ t) ∧ H b = some (.lst (nv tn)) ∧ Inv s ∧ GS C PT H g s ∧ Ou C PT H g Q (resOf s (callOf c (zs tn) []))
theorem d_choose {C PT c : Addr} (T : Txt K mg) (GT : GTx K mg C) (F0 : AtC K mg "best_first" s_best_first ["lists", "guest", "others"] c) (hC : PySem.W.CodeHd base c PT) (hB : base.BuiltinsAt mg PT) (F : AtM K C "choose" "Group.choose" s_Group_choose ["self", "call", "places"]) : Dm P w K mg base C "choose" 7 ["self", "call", "places"] (spChoose C PT) := by
  have D_stable_pairings := d_stable_pairings (P := P) (w := w) (base := base) T
  have D_middle_pairing := d_middle_pairing (P := P) (w := w) T F0 hC hB
  refine Dm.of F sc_Group_choose (fun vs H Q E h => ?_) (fun f cdv A outer _ H vs Q E hr h => ?_)
  · obtain ⟨g, b, c, tn, s, rfl, _⟩ := h
    rfl
  · obtain ⟨g, b, c, tn, s, rfl, hc, h1, hb, I, ⟨dx, a, bk, as, G⟩, k⟩ := h
    refine ⟨_, (pss_cons (ps_set (i := 3) sc_Group_choose.nd rfl (Or.inr rfl) (pe_callD D_stable_pairings (hr.mono (by decide)) rfl (pa_cons (pe_fld (pv 0) rfl) pa_nil)))
      (pss_cons (ps_if (pt_cmpR op_gt (pe_callB (call_maxL rfl) rfl T.b_max PyProof.Rows.boot_max (pa_cons (pv 2) pa_nil)) (pe_callB call_len_seq rfl T.b_len PySem.boot_len (pa_cons (pv 3) pa_nil)) (nomark _)) (pss_one (ps_ret (pe_lst (pa_cons (pe_gi rfl T.c_NOT_SO_MANY) pa_nil)))) pss_nil)
      (pss_cons (ps_setLc (i := 5) (own := [("place", 4)]) rfl sc_Group_choose.nd rfl rfl (sw_true rfl rfl rfl rfl) (pi_list (pv 2)) (blkOk_by (N := ["self", "call", "places", "stable", "place", "chosen"]) (sc := defScope s_Group_choose) (by decide +kernel)) (fun _ _ _ _ _ => pg_name (i := 4) sc_Group_choose.nd rfl (Or.inl rfl)) (fun _ _ _ _ _ => pts_nil) (fun _ _ _ _ _ => (pe_ix (ix_listK (K := K) rfl) (pv 3) (pe_op op_sub (pv 4) pe_int) (fun _ _ => rfl))))
      (pss_cons (ps_if (pt_cmpR op_eq (pv 1) (pe_gi rfl T.c_NTH) (nomark _)) (pss_one (ps_ret (pe_op op_cat (pe_lst (pa_cons pe_int pa_nil)) (pe_ix ix_list (pv 5) pe_int (fun _ _ => rfl))))) pss_nil)
      (pss_one (ps_ret (pe_op op_cat (pe_lst (pa_cons pe_int pa_nil)) (pe_callD D_middle_pairing (hr.mono (by decide)) rfl (pa_cons (pe_fld (pv 0) rfl) (pa_cons (pv 5) pa_nil)))))))))), ?_⟩
    have hf := I.V.few
    have sz : sizeLine = 16777216 := rfl
    have hne : 0 < tn.length ∧ tn.length ≤ 3 := by
      rcases hc with ⟨_, n, rfl⟩ | ⟨_, x, y, z, rfl⟩
      · exact ⟨by show 0 < 1; decide, by show 1 ≤ 3; decide⟩
      · exact ⟨by show 0 < 3; decide, by show 3 ≤ 3; decide⟩
    refine ⟨_, rfl, g, C, dx, _, _, rfl, G.hg, GT.cl, GT.n_lists, gf_lists _ _ _, a, s.likes, rfl, G.L, I.V, fun H1 q s1 hq LQ => ?_⟩
    obtain ⟨xs, x1, x2⟩ := LQ.len
    refine ⟨_, rfl, b, zs tn, rfl, by rw [zs_nv]; exact SqL.of (s1 _ _ hb), by rw [zs_len]; exact hne.1, fun M hM hmax => ?_⟩
    obtain ⟨t, ht, rfl⟩ := mem_zs hM
    have hmax := le_zs hmax
    refine ⟨_, rfl, q, _, rfl, .inl (SqL.of x1), _, _, rfl, rfl, _, rfl, ?_⟩
    rw [x2, gt_dec]
    by_cases hin : (Vbhoam.stables s.likes).length < t
    · rw [decide_eq_true hin]
      have e : resOf s (callOf c (zs tn) []) = (s, [-7]) := by
        rcases hc with ⟨rfl, n, rfl⟩ | ⟨rfl, x, y, z, rfl⟩
        · exact res_nth_no (h1 n (by simp)) (by rw [← List.mem_singleton.mp ht]; exact hin)
        · refine res_median_no (h1 x (by simp)) (h1 y (by simp)) (h1 z (by simp)) ?_
          simp only [List.mem_cons, List.not_mem_nil, or_false] at ht
          rcases ht with rfl | rfl | rfl
          · exact .inl hin
          · exact .inr (.inl hin)
          · exact .inr (.inr hin)
      rw [e] at k
      exact ⟨(by show 1 ≤ sizeLine; decide), fun p hp => k.no G s1 hp⟩
    · rw [decide_eq_false hin]
      have hle : ∀ x ∈ tn, x ≤ (Vbhoam.stables s.likes).length := fun x hx => by
        have := hmax x hx
        omega
      refine ⟨_, rfl, b, rfl, ⟨_, SqL.of (s1 _ _ hb)⟩, fun D hD => lc_list (K := K) (a := b) (xs := nv tn)
        (fun i H2 => Same H1 H2 ∧ LL H2 D ((tn.take i).map (rowAt s.likes))) ⟨same_upd hD, LL.new upd_same⟩ (fun i H2 _ ⟨s2, _⟩ => SqL.of (s2 _ _ (s1 _ _ hb))) ?_ ?_⟩
      · rintro i v H2 hv ⟨s2, LD⟩
        obtain ⟨x, hx, rfl⟩ := nv_of hv
        have hxm := List.mem_of_getElem? hx
        have x0 := h1 x hxm
        obtain ⟨ys, b', y1, y2, y3⟩ := LL.at_ LQ (z := (x : Int) - 1) (k := x - 1) (by omega) (rowAt_get x0 (hle x hxm))
        obtain ⟨ws, w1, w2, w3⟩ := LD.push (r := b') (x := rowAt s.likes x) (s2 _ _ y3) (ne_of_none y3 hD)
        refine ⟨rfl, _, rfl, _, rfl, _, _, rfl, rfl, q, ys, _, _, rfl, rfl, SqL.of (s2 _ _ y1), y2, ws, w1, ?_, same_upd2 s2 hD, ?_⟩
        · rw [w2, List.length_map, List.length_take]
          omega
        · rw [take_snoc hx, List.map_append]
          exact w3
      · rintro H2 ⟨s2, LD⟩
        rw [nv_len, List.take_length] at LD
        have s12 := s1.trans s2
        refine ⟨_, rfl, rfl, _, rfl, ?_⟩
        rw [show decide (V.int ((c : Nat) : Int) = V.int 8) = (c == 8) from dec_nat c 8]
        rcases hc with ⟨rfl, n, rfl⟩ | ⟨rfl, x, y, z, rfl⟩
        · have hrow := rowAt_get (h1 n (by simp)) (hle n (by simp))
          have hm := stable_len (List.mem_of_getElem? hrow)
          have e : resOf s (callOf 8 (zs [n]) []) = (s, zs (0 :: rowAt s.likes n)) := res_nth (h1 n (by simp)) hrow
          rw [e] at k
          refine ⟨(by show 1 ≤ sizeLine; decide), fun p hp => ?_⟩
          have s3 := same_upd (o := .lst (nv [0])) hp
          obtain ⟨ys, b', y1, y2, y3⟩ := LL.at_ (LD.mono s3) (z := 0) (k := 0) rfl rfl
          exact ⟨_, rfl, D, ys, _, _, rfl, rfl, SqL.of y1, y2, k.zero G (s12.trans s3) upd_same y3 (by omega)⟩
        · have rx := rowAt_get (h1 x (by simp)) (hle x (by simp))
          have ry := rowAt_get (h1 y (by simp)) (hle y (by simp))
          have rz := rowAt_get (h1 z (by simp)) (hle z (by simp))
          have e : resOf s (callOf 9 (zs [x, y, z]) []) = (s, zs (0 :: Vbhoam.median s.likes (rowAt s.likes x) (rowAt s.likes y) (rowAt s.likes z))) := res_median (h1 x (by simp)) (h1 y (by simp)) (h1 z (by simp)) rx ry rz
          rw [e] at k
          refine ⟨(by show 1 ≤ sizeLine; decide), fun p hp => ?_⟩
          have s3 := same_upd (o := .lst (nv [0])) hp
          have p3 : upd H2 p (.lst (nv [0])) p = some (.lst (nv [0])) := upd_same
          have s123 := s12.trans s3
          refine ⟨_, rfl, g, C, dx, _, _, rfl, s123 _ _ G.hg, GT.cl, GT.n_lists, gf_lists _ _ _, _, rfl, a, D, s.likes, _, _, _, rfl, G.L.mono s123, I.V, G.T.mono s123, LD.mono s3, List.mem_of_getElem? rx, List.mem_of_getElem? ry, List.mem_of_getElem? rz, fun H4 p4 s4 t4 hp4 h4 => ?_⟩
          refine k.zeroT G ((toT s123).trans s4) t4 (s4 _ _ ((G.T.mono s123).ne p3) p3) h4 ?_
          unfold Vbhoam.median
          rw [List.length_map, guests_len]
          omega
end
end Rs
end
section
set_option Elab.async false
set_option linter.all false
set_option maxRecDepth 100000
set_option maxHeartbeats 2000000
namespace Rs
open PySem PySem.Spec PyProof.Rows L2
open Vbhoam (Likes State)
section
variable {P : Program} {w : World} {K : PySem.W.Frag} {mg : Str → Option Value} {base : Heap}
theorem guest_yes {s : State} {i : Nat} (h1 : 1 ≤ i) (h2 : i ≤ s.likes.length) : Vbhoam.isGuest s i = true := guest_iff.mpr (mem_guests.mpr ⟨h1, h2⟩)
theorem guest_no {s : State} {i : Nat} (h : s.likes.length < i) : Vbhoam.isGuest s i = false := by
  unfold Vbhoam.isGuest
  rw [decide_eq_false (show ¬ i ≤ s.likes.length by omega), Bool.and_false]
theorem Ou.pre {C PT : Addr} {H H1 : Hp} {g dx a bk : Addr} {as : List Addr} {Q : VK} {s : State} {z : State × List Int} (k : Ou C PT H g Q z) (G : GR C PT H g dx a bk as s) (t : Same H H1) : Ou C PT H1 g Q z := by
  have G1 := G.sameT (toT t) (G.T.mono t)
  have ft : ∀ b, Fp C PT H1 g b → Fp C PT H g b := fun b h => by
    rcases G1.foot h with h | h
    · exact .inl h
    · exact G.fp h
  refine fun H' p kp fo gs hp hq => k H' p (fun b o e n => kp b o (t _ _ e) fun q => n (ft b q)) (fun b h => ?_) gs (t.free hp) hq
  rcases fo b h with h | h
  · exact .inl (ft b h)
  · exact .inr (t.free h)
/-! ### whom a guest likes better -/
def mayNot (l : Likes) (i x : Nat) : Bool := !(x == 0) && !Vbhoam.mutual_ l i x
theorem mayNot_iff {l : Likes} {i x : Nat} : mayNot l i x = true ↔ x ≠ 0 ∧ Vbhoam.mutual_ l i x = false := by
  unfold mayNot
  rw [Bool.and_eq_true, Bool.not_eq_true', Bool.not_eq_true', beq_eq_false_iff_ne]
theorem res_prefer_out {s : State} {i x y : Nat} (h : s.likes.length < i ∨ s.likes.length < x ∨ s.likes.length < y) : resOf s (.prefer i x y) = (s, [-4]) := by
  unfold resOf Vbhoam.does
  dsimp only
  rw [if_pos]
  rcases h with h | h | h
  · exact .inl (guest_no h)
  · exact .inr (.inl ⟨by omega, guest_no h⟩)
  · exact .inr (.inr ⟨by omega, guest_no h⟩)
theorem res_prefer {s : State} (I : Inv s) {i x y : Nat} (hi : 1 ≤ i) (h1 : i ≤ s.likes.length) (h2 : x ≤ s.likes.length) (h3 : y ≤ s.likes.length) : resOf s (.prefer i x y) = if (mayNot s.likes i x || mayNot s.likes i y) = true then (s, [-9]) else (s, zs [0, tellP s.likes i x y]) := by
  unfold resOf Vbhoam.does
  dsimp only
  rw [if_neg]
  · by_cases c : (mayNot s.likes i x || mayNot s.likes i y) = true
    · rw [if_pos c, if_pos]
      rw [Bool.or_eq_true, mayNot_iff, mayNot_iff] at c
      exact c
    · rw [if_neg c, if_neg (fun z => c (by rw [Bool.or_eq_true, mayNot_iff, mayNot_iff]; exact z))]
      have gi := mem_guests.mpr ⟨hi, h1⟩
      have key : ∀ z, ¬ mayNot s.likes i z = true → z = 0 ∨ z ∈ Vbhoam.listOf s.likes i := fun z hz => by
        rw [mayNot_iff] at hz
        by_cases e : z = 0
        · exact .inl e
        · have hm : Vbhoam.mutual_ s.likes i z = true := by
            cases q : Vbhoam.mutual_ s.likes i z with
            | true => rfl
            | false => exact absurd ⟨e, q⟩ hz
          rw [mutual_eq I.V gi, Bool.and_eq_true] at hm
          exact .inr (List.contains_iff_mem.mp hm.1)
      have kx := key x fun z => c (by rw [z]; rfl)
      have ky := key y fun z => c (by rw [z, Bool.or_true])
      have e : (if x = y then (0 : Int) else if Vbhoam.prefers s.likes i x y = true then 1 else 2) = ((tellP s.likes i x y : Nat) : Int) := by
        unfold tellP Vbhoam.prefers
        by_cases q : x = y
        · rw [if_pos q, q, if_neg (by simp), if_neg (by simp)]
          rfl
        · rw [if_neg q]
          have ne : Vbhoam.rank s.likes i x ≠ Vbhoam.rank s.likes i y := fun z => q (rank_inj I.V gi kx ky z)
          by_cases lt : Vbhoam.rank s.likes i x < Vbhoam.rank s.likes i y
          · rw [if_pos (decide_eq_true lt), if_pos (decide_eq_true lt)]
            rfl
          · rw [if_neg (by rw [decide_eq_false lt]; simp), if_neg (by rw [decide_eq_false lt]; simp), if_pos (decide_eq_true (by omega))]
            rfl
      rw [e]
      rfl
  · rintro (z | ⟨e, z⟩ | ⟨e, z⟩)
    · rw [guest_yes hi h1] at z; cases z
    · rw [guest_yes (by omega) h2] at z; cases z
    · rw [guest_yes (by omega) h3] at z; cases z
def spPrefer (C PT : Addr) : Sp := fun vs H Q _ => ∃ (g : Addr) (i x y : Nat) (s : State), vs = [.ref g, .int i, .int x, .int y] ∧ 1 ≤ i ∧ i ≤ s.likes.length ∧ x ≤ s.likes.length ∧ y ≤ s.likes.length ∧ Inv s ∧ GS C PT H g s ∧ Ou C PT H g Q (resOf s (.prefer i x y))
theorem d_prefer {C PT : Addr} (T : Txt K mg) (GT : GTx K mg C) (F : AtM K C "prefer" "Group.prefer" s_Group_prefer ["self", "guest", "one", "other"]) : Dm P w K mg base C "prefer" 4 ["self", "guest", "one", "other"] (spPrefer C PT) := by
  have D_may_share := d_may_share (P := P) (w := w) (base := base) T
  have D_tell_prefer := d_tell_prefer (P := P) (w := w) (base := base) T
  refine Dm.of F sc_Group_prefer (fun vs H Q E h => ?_) (fun f cdv A outer _ H vs Q E hr h => ?_)
  · obtain ⟨g, i, x, y, s, rfl, _⟩ := h
    rfl
  · obtain ⟨g, i, x, y, s, rfl, hi, h1, h2, h3, I, ⟨dx, a, bk, as, G⟩, k⟩ := h
    refine ⟨_, (pss_cons (ps_for PassesOwn.never rfl (pi_tup (pe_tup (pa_cons (pv 2) (pa_cons (pv 3) pa_nil)))) (pg_name (i := 4) sc_Group_prefer.nd rfl (Or.inl rfl))
        (pss_one (ps_if (PW.pt (pw_and (pt_cmpR op_ne (pv 4) pe_int (nomark _)) (pw_and1 (pt_not (pt_val (pe_callD D_may_share (hr.mono (by decide)) rfl (pa_cons (pe_fld (pv 0) rfl) (pa_cons (pv 1) (pa_cons (pv 4) pa_nil))))))))) (pss_one (ps_ret (pe_lst (pa_cons (pe_gi rfl T.c_NOT_WITH_ONE_ANOTHER) pa_nil)))) pss_nil)))
      (pss_one (ps_ret (pe_op op_cat (pe_lst (pa_cons pe_int pa_nil)) (pe_callD D_tell_prefer (hr.mono (by decide)) rfl (pa_cons (pe_fld (pv 0) rfl) (pa_cons (pv 1) (pa_cons (pv 2) (pa_cons (pv 3) pa_nil))))))))), ?_⟩
    have gi := mem_guests.mpr ⟨hi, h1⟩
    rw [res_prefer I hi h1 h2 h3] at k
    refine ⟨_, rfl, _, rfl, (by show 2 ≤ sizeLine; decide), fun t ht => ?_⟩
    have s1 := same_upd (o := .tup [V.int (x : Int), V.int (y : Int)]) ht
    have t1 : upd H t (.tup [V.int (x : Int), V.int (y : Int)]) t = some (.tup [V.int (x : Int), V.int (y : Int)]) := upd_same
    generalize upd H t (.tup [V.int (x : Int), V.int (y : Int)]) = H1 at s1 t1
    refine ⟨t, rfl, ⟨_, SqT.of t1⟩, for_tup (K := K) (a := t) (xs := [V.int (x : Int), V.int (y : Int)]) (fun j σ H' => ∃ v4 : Option V, σ = [some (.ref g), some (.int i), some (.int x), some (.int y), v4] ∧ H' = H1 ∧ (1 ≤ j → mayNot s.likes i x = false) ∧ (2 ≤ j → mayNot s.likes i y = false)) ⟨none, rfl, rfl, fun z => absurd z (by decide), fun z => absurd z (by decide)⟩ (fun j σ H' _ ⟨_, _, e, _⟩ => by rw [e]; exact SqT.of t1) ?_ ?_⟩
    · rintro j v σ H' hv ⟨v4, rfl, rfl, n1, n2⟩
      obtain ⟨z, hbad, hgood, rfl⟩ : ∃ z : Nat, (mayNot s.likes i z = true → (mayNot s.likes i x || mayNot s.likes i y) = true) ∧ (mayNot s.likes i z = false → ((1 ≤ j + 1 → mayNot s.likes i x = false) ∧ (2 ≤ j + 1 → mayNot s.likes i y = false))) ∧ v = V.int (z : Int) := by
        match j, hv, n1 with
        | 0, hv, _ => exact ⟨x, fun e => by rw [e]; rfl, fun e => ⟨fun _ => e, fun z => absurd z (by decide)⟩, (Option.some.inj hv).symm⟩
        | 1, hv, n1 => exact ⟨y, fun e => by rw [e, Bool.or_true], fun e => ⟨fun _ => n1 (Nat.le_refl _), fun _ => e⟩, (Option.some.inj hv).symm⟩
        | j + 2, hv, _ => exact absurd hv (by simp)
      refine ⟨_, rfl, rfl, _, rfl, ?_⟩
      rw [show (!decide (V.int ((z : Nat) : Int) = V.int 0)) = !(z == 0) from int_ne z 0]
      cases c1 : (z == 0) with
      | true => exact ⟨_, rfl, rfl, hgood (by unfold mayNot; rw [c1]; rfl)⟩
      | false =>
        refine ⟨_, rfl, g, C, dx, _, _, rfl, s1 _ _ G.hg, GT.cl, GT.n_lists, gf_lists _ _ _, _, rfl, _, rfl, a, s.likes, i, z, rfl, G.L.mono s1, I.V, gi, _, rfl, ?_⟩
        cases c2 : Vbhoam.mutual_ s.likes i z with
        | true => exact ⟨_, rfl, rfl, hgood (by unfold mayNot; rw [c1, c2]; rfl)⟩
        | false =>
          rw [if_pos (hbad (by unfold mayNot; rw [c1, c2]; rfl))] at k
          exact ⟨(by show 1 ≤ sizeLine; decide), fun p hp => k.no G s1 hp⟩
    · rintro σ H' ⟨v4, rfl, rfl, n1, n2⟩
      have e1 := n1 (by show 1 ≤ 2; decide)
      have e2 := n2 (by show 2 ≤ 2; decide)
      rw [e1, e2, if_neg (by simp)] at k
      refine ⟨(by show 1 ≤ sizeLine; decide), fun p hp => ?_⟩
      have s2 := same_upd (o := .lst (nv [0])) hp
      have p2 : upd H' p (.lst (nv [0])) p = some (.lst (nv [0])) := upd_same
      have s12 := s1.trans s2
      refine ⟨_, rfl, g, C, dx, _, _, rfl, s12 _ _ G.hg, GT.cl, GT.n_lists, gf_lists _ _ _, _, rfl, _, rfl, _, rfl, a, s.likes, i, x, y, rfl, G.L.mono s12, I.V, gi, fun H3 p3 s3 hp3 h3 => ?_⟩
      exact k.zero G (s12.trans s3) (s3 _ _ p2) h3 (by show 1 ≤ 900; decide)
/-! ### what is asked of a guest -/
theorem res_partners {s : State} {i : Nat} (h1 : 1 ≤ i) : resOf s (.partners i) = if s.likes.length < i then (s, [-4]) else (s, zs (0 :: (Vbhoam.partners s.likes i).length :: Vbhoam.partners s.likes i)) := by
  unfold resOf Vbhoam.does
  dsimp only
  by_cases h : s.likes.length < i
  · rw [if_pos h, if_pos (guest_no h)]
  · rw [if_neg h, if_neg (by rw [guest_yes h1 (by omega)]; simp)]
    rfl
def spAsk (C PT : Addr) : Sp := fun vs H Q _ => ∃ (g b : Addr) (c : Nat) (tn : List Nat) (s : State), vs = [.ref g, .int c, .ref b] ∧ ((c = 6 ∧ ∃ i, 1 ≤ i ∧ tn = [i]) ∨ (c = 12 ∧ ∃ i x y, 1 ≤ i ∧ tn = [i, x, y])) ∧ H b = some (.lst (nv tn)) ∧ Inv s ∧ GS C PT H g s ∧ Ou C PT H g Q (resOf s (callOf c (zs tn) []))
theorem d_ask_guest {C PT c : Addr} (T : Txt K mg) (GT : GTx K mg C) (F0 : AtC K mg "best_first" s_best_first ["lists", "guest", "others"] c) (hC : PySem.W.CodeHd base c PT) (hB : base.BuiltinsAt mg PT)
    (DM_prefer : Dm P w K mg base C "prefer" 4 ["self", "guest", "one", "other"] (spPrefer C PT)) (F : AtM K C "ask_guest" "Group.ask_guest" s_Group_ask_guest ["self", "call", "told"]) : Dm P w K mg base C "ask_guest" 8 ["self", "call", "told"] (spAsk C PT) := by
  have D_tell_partners := d_tell_partners (P := P) (w := w) T F0 hC hB
  refine Dm.of F sc_Group_ask_guest (fun vs H Q E h => ?_) (fun f cdv A outer _ H vs Q E hr h => ?_)
  · obtain ⟨g, b, c, tn, s, rfl, _⟩ := h
    rfl
  · obtain ⟨g, b, c, tn, s, rfl, hc, hb, I, ⟨dx, a, bk, as, G⟩, k⟩ := h
    refine ⟨_, (pss_cons (ps_if (pt_cmpR op_gt (pe_callB (call_maxL rfl) rfl T.b_max PyProof.Rows.boot_max (pa_cons (pv 2) pa_nil)) (pe_fld (pv 0) rfl) (nomark _)) (pss_one (ps_ret (pe_lst (pa_cons (pe_gi rfl T.c_NO_SUCH_GUEST) pa_nil)))) pss_nil)
      (pss_cons (ps_if (pt_cmpR op_eq (pv 1) (pe_gi rfl T.c_PARTNERS) (nomark _)) (pss_one (ps_ret (pe_op op_cat (pe_lst (pa_cons pe_int pa_nil)) (pe_callD D_tell_partners (hr.mono (by decide)) rfl (pa_cons (pe_fld (pv 0) rfl) (pa_cons (pe_ix ix_list (pv 2) pe_int (fun _ _ => rfl)) pa_nil)))))) pss_nil)
      (pss_one (ps_ret (pe_methD (pv 0) GT.cl DM_prefer (hr.mono (by decide)) (pa_cons (pe_ix ix_list (pv 2) pe_int (fun _ _ => rfl)) (pa_cons (pe_ix ix_list (pv 2) pe_int (fun _ _ => rfl)) (pa_cons (pe_ix ix_list (pv 2) pe_int (fun _ _ => rfl)) pa_nil)))))))), ?_⟩
    have hne : 0 < tn.length := by
      rcases hc with ⟨_, n, _, rfl⟩ | ⟨_, x, y, z, _, rfl⟩
      · show 0 < 1; decide
      · show 0 < 3; decide
    refine ⟨_, rfl, b, zs tn, rfl, by rw [zs_nv]; exact SqL.of hb, by rw [zs_len]; exact hne, fun M hM hmax => ?_⟩
    obtain ⟨t, ht, rfl⟩ := mem_zs hM
    have hmax := le_zs hmax
    refine ⟨_, rfl, g, C, dx, _, _, rfl, G.hg, GT.cl, GT.n_guests, gf_guests _ _ _, _, _, rfl, rfl, _, rfl, ?_⟩
    rw [gt_dec]
    by_cases hin : s.likes.length < t
    · rw [decide_eq_true hin]
      have e : resOf s (callOf c (zs tn) []) = (s, [-4]) := by
        rcases hc with ⟨rfl, n, n1, rfl⟩ | ⟨rfl, x, y, z, x1, rfl⟩
        · exact (res_partners n1).trans (if_pos (by rw [← List.mem_singleton.mp ht]; exact hin))
        · refine res_prefer_out ?_
          simp only [List.mem_cons, List.not_mem_nil, or_false] at ht
          rcases ht with rfl | rfl | rfl
          · exact .inl hin
          · exact .inr (.inl hin)
          · exact .inr (.inr hin)
      rw [e] at k
      exact ⟨(by show 1 ≤ sizeLine; decide), fun p hp => k.no G (fun _ _ z => z) hp⟩
    · rw [decide_eq_false hin]
      have hle : ∀ x ∈ tn, x ≤ s.likes.length := fun x hx => by
        have := hmax x hx
        omega
      refine ⟨_, rfl, rfl, _, rfl, ?_⟩
      rw [show decide (V.int ((c : Nat) : Int) = V.int 6) = (c == 6) from dec_nat c 6]
      rcases hc with ⟨rfl, n, n1, rfl⟩ | ⟨rfl, x, y, z, x1, rfl⟩
      · have n2 := hle n (by simp)
        have e : resOf s (callOf 6 (zs [n]) []) = (s, zs (0 :: (Vbhoam.partners s.likes n).length :: Vbhoam.partners s.likes n)) := (res_partners n1).trans (if_neg (by omega))
        rw [e] at k
        have gi := mem_guests.mpr ⟨n1, n2⟩
        refine ⟨(by show 1 ≤ sizeLine; decide), fun p hp => ?_⟩
        have s1 := same_upd (o := .lst (nv [0])) hp
        have p1 : upd H p (.lst (nv [0])) p = some (.lst (nv [0])) := upd_same
        refine ⟨_, rfl, g, C, dx, _, _, rfl, s1 _ _ G.hg, GT.cl, GT.n_lists, gf_lists _ _ _, _, rfl, b, _, 0, _, rfl, rfl, SqL.of (s1 _ _ hb), rfl, a, s.likes, n, rfl, G.L.mono s1, I.V, gi, G.T.mono s1, fun H2 q s2 t2 hq h3 => ?_⟩
        have := partners_len I.V gi
        exact k.zeroT G ((toT s1).trans s2) t2 (s2 _ _ ((G.T.mono s1).ne p1) p1) h3 (by rw [List.length_cons]; omega)
      · refine ⟨_, rfl, g, dx, _, rfl, G.hg, gf_no _ _ _ (by decide) (by decide) (by decide), _, rfl, b, _, 0, _, rfl, rfl, SqL.of hb, rfl, _, rfl, b, _, 1, _, rfl, rfl, SqL.of hb, rfl, _, rfl, b, _, 2, _, rfl, rfl, SqL.of hb, rfl, g, x, y, z, s, rfl, x1, hle x (by simp), hle y (by simp), hle z (by simp), I, ⟨dx, a, bk, as, G⟩, k⟩
/-! ### what is booked -/
theorem res_rooms {s : State} {m : List Nat} (h : s.rooms = some m) : resOf s .rooms = (s, zs (0 :: roomsN s.likes m)) := by
  unfold resOf Vbhoam.does
  dsimp only
  rw [h]
  have e : m.map Vbhoam.nat ++ (if Vbhoam.isPairing s.likes m = true then 1 :: Vbhoam.pairRow (Vbhoam.blocks s.likes m) else [0]) = zs (roomsN s.likes m) := by
    unfold roomsN zs
    rw [List.map_append]
    cases Vbhoam.isPairing s.likes m with
    | true => rw [if_pos rfl, if_pos rfl, pairRow_eq]; rfl
    | false => rw [if_neg (by simp), if_neg (by simp)]; rfl
  show (s, 0 :: _) = _
  rw [e]
  rfl
theorem res_unbooked {s : State} (h : s.rooms = none) {c : Vbhoam.Call} (hc : c = .rooms ∨ ∃ i j, c = .join i j) : resOf s c = (s, [-10]) := by
  rcases hc with rfl | ⟨i, j, rfl⟩
  all_goals
    unfold resOf Vbhoam.does
    dsimp only
    rw [h]
theorem res_join {s : State} {m : List Nat} (h : s.rooms = some m) {i j : Nat} (hi : 1 ≤ i) (hj : 1 ≤ j) : resOf s (.join i j) = if s.likes.length < i ∨ s.likes.length < j then (s, [-4]) else if Vbhoam.isPairing s.likes m = false then (s, [-8]) else if Vbhoam.block s.likes m i j = false then (s, [-9]) else ({ s with rooms := some (Vbhoam.together m i j) }, zs (0 :: Vbhoam.together m i j)) := by
  unfold resOf Vbhoam.does
  dsimp only
  rw [h]
  dsimp only
  by_cases c1 : s.likes.length < i ∨ s.likes.length < j
  · rw [if_pos c1, if_pos]
    rcases c1 with z | z
    · exact .inl (guest_no z)
    · exact .inr (guest_no z)
  · have h1 : i ≤ s.likes.length := Nat.le_of_not_lt fun z => c1 (.inl z)
    have h2 : j ≤ s.likes.length := Nat.le_of_not_lt fun z => c1 (.inr z)
    rw [if_neg c1, if_neg (by rw [guest_yes hi h1, guest_yes hj h2]; simp)]
    by_cases c2 : Vbhoam.isPairing s.likes m = false
    · rw [if_pos c2, if_pos c2]
    · rw [if_neg c2, if_neg c2]
      by_cases c3 : Vbhoam.block s.likes m i j = false
      · rw [if_pos c3, if_pos c3]
      · rw [if_neg c3, if_neg c3]
        rfl
def spBring (C PT : Addr) : Sp := fun vs H Q _ => ∃ (g : Addr) (i j : Nat) (s : State) (m : List Nat), vs = [.ref g, .int i, .int j] ∧ 1 ≤ i ∧ 1 ≤ j ∧ s.rooms = some m ∧ Inv s ∧ GS C PT H g s ∧ Ou C PT H g Q (resOf s (.join i j))
theorem d_bring_together {C PT : Addr} (T : Txt K mg) (GT : GTx K mg C) (F : AtM K C "bring_together" "Group.bring_together" s_Group_bring_together ["self", "one", "other"]) : Dm P w K mg base C "bring_together" 4 ["self", "one", "other"] (spBring C PT) := by
  have D_is_pairing := d_is_pairing (P := P) (w := w) (base := base) T
  have D_would_rather_share := d_would_rather_share (P := P) (w := w) (base := base) T
  have D_gone_together := d_gone_together (P := P) (w := w) (base := base) T
  refine Dm.of F sc_Group_bring_together (fun vs H Q E h => ?_) (fun f cdv A outer _ H vs Q E hr h => ?_)
  · obtain ⟨g, i, j, s, m, rfl, _⟩ := h
    rfl
  · obtain ⟨g, i, j, s, m, rfl, hi, hj, hm, I, ⟨dx, a, bk, as, G⟩, k⟩ := h
    refine ⟨_, (pss_cons (ps_if (pt_cmpR op_gt (pe_callB (call_max2 rfl) rfl T.b_max PyProof.Rows.boot_max (pa_cons (pv 1) (pa_cons (pv 2) pa_nil))) (pe_fld (pv 0) rfl) (nomark _)) (pss_one (ps_ret (pe_lst (pa_cons (pe_gi rfl T.c_NO_SUCH_GUEST) pa_nil)))) pss_nil)
      (pss_cons (ps_if (pt_not (pt_val (pe_callD D_is_pairing (hr.mono (by decide)) rfl (pa_cons (pe_fld (pv 0) rfl) (pa_cons (pe_fld (pv 0) rfl) pa_nil))))) (pss_one (ps_ret (pe_lst (pa_cons (pe_gi rfl T.c_NO_PAIRING) pa_nil)))) pss_nil)
      (pss_cons (ps_if (pt_not (pt_val (pe_callD D_would_rather_share (hr.mono (by decide)) rfl (pa_cons (pe_fld (pv 0) rfl) (pa_cons (pe_fld (pv 0) rfl) (pa_cons (pv 1) (pa_cons (pv 2) pa_nil))))))) (pss_one (ps_ret (pe_lst (pa_cons (pe_gi rfl T.c_NOT_WITH_ONE_ANOTHER) pa_nil)))) pss_nil)
      (pss_cons (ps_fld (pv 0) (pe_callD D_gone_together (hr.mono (by decide)) rfl (pa_cons (pe_fld (pv 0) rfl) (pa_cons (pv 1) (pa_cons (pv 2) pa_nil)))) rfl)
      (pss_one (ps_ret (pe_op op_cat (pe_lst (pa_cons pe_int pa_nil)) (pe_fld (pv 0) rfl)))))))), ?_⟩
    have hf := I.V.few
    rw [res_join hm hi hj] at k
    have hb : H bk = some (.lst (nv m)) := by
      have := G.hb
      unfold bookOf at this
      rw [hm] at this
      exact this
    obtain ⟨hml, _⟩ := I.rm m hm
    refine ⟨_, rfl, _, rfl, _, _, rfl, ?_⟩
    rw [show (if ((j : Nat) : Int) > ((i : Nat) : Int) then ((j : Nat) : Int) else ((i : Nat) : Int)) = ((if i < j then j else i : Nat) : Int) from by split <;> split <;> omega]
    refine ⟨_, rfl, g, C, dx, _, _, rfl, G.hg, GT.cl, GT.n_guests, gf_guests _ _ _, _, _, rfl, rfl, _, rfl, ?_⟩
    rw [gt_dec]
    by_cases c1 : s.likes.length < i ∨ s.likes.length < j
    · rw [if_pos c1] at k
      rw [decide_eq_true (show s.likes.length < if i < j then j else i by split <;> omega)]
      exact ⟨(by show 1 ≤ sizeLine; decide), fun p hp => k.no G (fun _ _ z => z) hp⟩
    · rw [if_neg c1] at k
      rw [decide_eq_false (show ¬ s.likes.length < if i < j then j else i by split <;> omega)]
      have gi : i ∈ Vbhoam.guests s.likes := mem_guests.mpr ⟨hi, Nat.le_of_not_lt fun z => c1 (.inl z)⟩
      have gj : j ∈ Vbhoam.guests s.likes := mem_guests.mpr ⟨hj, Nat.le_of_not_lt fun z => c1 (.inr z)⟩
      have gi' := mem_guests.mp gi
      have gj' := mem_guests.mp gj
      refine ⟨_, rfl, g, C, dx, _, _, rfl, G.hg, GT.cl, GT.n_lists, gf_lists _ _ _, _, rfl, g, C, dx, _, _, rfl, G.hg, GT.cl, GT.n_booked, gf_booked _ _ _, a, bk, s.likes, m, rfl, G.L, I.V, SqL.of hb, hml, _, rfl, ?_⟩
      cases c2 : Vbhoam.isPairing s.likes m with
      | false =>
        rw [if_pos c2] at k
        exact ⟨(by show 1 ≤ sizeLine; decide), fun p hp => k.no G (fun _ _ z => z) hp⟩
      | true =>
        rw [if_neg (by rw [c2]; simp)] at k
        refine ⟨_, rfl, g, C, dx, _, _, rfl, G.hg, GT.cl, GT.n_lists, gf_lists _ _ _, _, rfl, g, C, dx, _, _, rfl, G.hg, GT.cl, GT.n_booked, gf_booked _ _ _, _, rfl, _, rfl, a, bk, s.likes, m, i, j, rfl, G.L, I.V, SqL.of hb, hml, gi, gj, _, rfl, ?_⟩
        cases c3 : Vbhoam.block s.likes m i j with
        | false =>
          rw [if_pos c3] at k
          exact ⟨(by show 1 ≤ sizeLine; decide), fun p hp => k.no G (fun _ _ z => z) hp⟩
        | true =>
          rw [if_neg (by rw [c3]; simp)] at k
          refine ⟨_, rfl, g, C, dx, _, _, rfl, G.hg, GT.cl, GT.n_booked, gf_booked _ _ _, _, rfl, _, rfl, bk, m, i, j, rfl, hb, by omega, hi, by omega, hj, by omega, fun r hr => ?_⟩
          rw [goneT_eq I.V c2 gi gj]
          have hlen := together_len m i j
          generalize Vbhoam.together m i j = tg at k hlen
          have t1 := same_upd (o := .lst (nv tg)) hr
          have r1 : upd H r (.lst (nv tg)) r = some (.lst (nv tg)) := upd_same
          generalize upd H r (.lst (nv tg)) = H1 at t1 r1
          have g1 := t1 _ _ G.hg
          refine ⟨_, rfl, g, C, dx, _, rfl, g1, GT.cl, GT.n_booked, (by show 3 < 1000; decide), ?_⟩
          rw [gf_putB]
          have s2 : SameT g H1 (upd H1 g (.ins C dx (gf s.likes.length a r))) := sameT_set _
          have g2 : upd H1 g (.ins C dx (gf s.likes.length a r)) g = some (.ins C dx (gf s.likes.length a r)) := upd_same
          generalize upd H1 g (.ins C dx (gf s.likes.length a r)) = H2 at s2 g2
          have ng : ∀ (x : Addr) (xs : List V), H1 x = some (.lst xs) → x ≠ g := fun x xs e z => by rw [z, g1] at e; cases e
          have r2 := s2 _ _ (ng _ _ r1) r1
          refine ⟨(by show 1 ≤ sizeLine; decide), fun q hq => ?_⟩
          have s3 := same_upd (o := .lst [V.int 0]) hq
          have q3 : upd H2 q (.lst [V.int 0]) q = some (.lst (nv [0])) := upd_same
          generalize upd H2 q (.lst [V.int 0]) = H3 at s3 q3
          have g3 := s3 _ _ g2
          refine ⟨_, rfl, g, C, dx, _, _, rfl, g3, GT.cl, GT.n_booked, gf_booked _ _ _, cat_newB (xs := [0]) (ys := tg) q3 (s3 _ _ r2) (by show 1 + _ ≤ 1000; omega) fun p hp => ?_⟩
          have s4 := same_upd (o := .lst (nv ([0] ++ tg))) hp
          have sB : SameT g H H3 := ((toT t1).trans s2).trans (toT s3)
          have sA : SameT g H (upd H3 p (.lst (nv ([0] ++ tg)))) := sB.trans (toT s4)
          have nh : ∀ (x : Addr) (xs : List V), H x = some (.lst xs) → x ≠ g := fun x xs e z => by rw [z, G.hg] at e; cases e
          exact k.by_ (dx' := dx) (a' := a) (bk' := r) (as' := as) G ⟨s4 _ _ g3, sA _ _ (nh _ _ G.hl) G.hl, paired_mono (fun x l e => sA _ _ (nh _ _ e) e) G.hp, s4 _ _ (s3 _ _ r2), G.T.keepI G.hg sA⟩ (fun b o e n _ _ => sA b o n e) (.inl rfl) (.inr hr) (fun x hx => .inl hx) (freeS sB g3 hp) (by rw [upd_same, iv_zs]; rfl)
def spLook (C PT : Addr) : Sp := fun vs H Q _ => ∃ (g b : Addr) (c : Nat) (tn : List Nat) (s : State), vs = [.ref g, .int c, .ref b] ∧ ((c = 14 ∧ tn = []) ∨ (c = 15 ∧ ∃ i j, 1 ≤ i ∧ 1 ≤ j ∧ tn = [i, j])) ∧ H b = some (.lst (nv tn)) ∧ 1 ≤ s.likes.length ∧ Inv s ∧ GS C PT H g s ∧ Ou C PT H g Q (resOf s (callOf c (zs tn) []))
theorem d_look_up_booked {C PT : Addr} (T : Txt K mg) (GT : GTx K mg C) (DM_bring_together : Dm P w K mg base C "bring_together" 4 ["self", "one", "other"] (spBring C PT))
    (F : AtM K C "look_up_booked" "Group.look_up_booked" s_Group_look_up_booked ["self", "call", "told"]) : Dm P w K mg base C "look_up_booked" 7 ["self", "call", "told"] (spLook C PT) := by
  have D_tell_rooms := d_tell_rooms (P := P) (w := w) (base := base) T
  refine Dm.of F sc_Group_look_up_booked (fun vs H Q E h => ?_) (fun f cdv A outer _ H vs Q E hr h => ?_)
  · obtain ⟨g, b, c, tn, s, rfl, _⟩ := h
    rfl
  · obtain ⟨g, b, c, tn, s, rfl, hc, hb, ho, I, ⟨dx, a, bk, as, G⟩, k⟩ := h
    refine ⟨_, (pss_cons (ps_if (pt_cmpR (op_eqD hr.units) (pe_fld (pv 0) rfl) (pe_lst pa_nil) (nomark _)) (pss_one (ps_ret (pe_lst (pa_cons (pe_gi rfl T.c_NOTHING_BOOKED) pa_nil)))) pss_nil)
      (pss_cons (ps_if (pt_cmpR op_eq (pv 1) (pe_gi rfl T.c_ROOMS) (nomark _)) (pss_one (ps_ret (pe_op op_cat (pe_lst (pa_cons pe_int pa_nil)) (pe_callD D_tell_rooms (hr.mono (by decide)) rfl (pa_cons (pe_fld (pv 0) rfl) (pa_cons (pe_fld (pv 0) rfl) pa_nil)))))) pss_nil)
      (pss_one (ps_ret (pe_methD (pv 0) GT.cl DM_bring_together (hr.mono (by decide)) (pa_cons (pe_ix ix_list (pv 2) pe_int (fun _ _ => rfl)) (pa_cons (pe_ix ix_list (pv 2) pe_int (fun _ _ => rfl)) pa_nil))))))), ?_⟩
    have hf := I.V.few
    refine ⟨_, rfl, g, C, dx, _, _, rfl, G.hg, GT.cl, GT.n_booked, gf_booked _ _ _, Nat.zero_le _, fun e he => ?_⟩
    have s1 := same_upd (o := .lst []) he
    refine eq_nil_N (SqL.of (s1 _ _ G.hb)) upd_same ⟨_, rfl, ?_⟩
    generalize upd H e (.lst []) = H1 at s1
    cases hm : s.rooms with
    | none =>
      have e0 : bookOf s = [] := by unfold bookOf; rw [hm]; rfl
      have e1 : resOf s (callOf c (zs tn) []) = (s, [-10]) := by
        rcases hc with ⟨rfl, rfl⟩ | ⟨rfl, i, j, _, _, rfl⟩
        · exact res_unbooked hm (.inl rfl)
        · exact res_unbooked hm (.inr ⟨_, _, rfl⟩)
      rw [e1] at k
      rw [e0]
      exact ⟨(by show 1 ≤ sizeLine; decide), fun p hp => k.no G s1 hp⟩
    | some m =>
      have e0 : bookOf s = m := by unfold bookOf; rw [hm]; rfl
      obtain ⟨hml, _⟩ := I.rm m hm
      have hne : m.isEmpty = false := by
        cases m with
        | nil => exact absurd hml (by show ¬ 0 = _; omega)
        | cons x r => rfl
      rw [e0, hne]
      refine ⟨_, rfl, rfl, _, rfl, ?_⟩
      rw [show decide (V.int ((c : Nat) : Int) = V.int 14) = (c == 14) from dec_nat c 14]
      rcases hc with ⟨rfl, rfl⟩ | ⟨rfl, i, j, hi, hj, rfl⟩
      · have e1 : resOf s (callOf 14 (zs []) []) = (s, zs (0 :: roomsN s.likes m)) := res_rooms hm
        rw [e1] at k
        refine ⟨(by show 1 ≤ sizeLine; decide), fun p hp => ?_⟩
        have s2 := same_upd (o := .lst (nv [0])) hp
        have p2 : upd H1 p (.lst (nv [0])) p = some (.lst (nv [0])) := upd_same
        have s12 := s1.trans s2
        have hb2 := s12 _ _ G.hb
        rw [e0] at hb2
        refine ⟨_, rfl, g, C, dx, _, _, rfl, s12 _ _ G.hg, GT.cl, GT.n_lists, gf_lists _ _ _, _, rfl, g, C, dx, _, _, rfl, s12 _ _ G.hg, GT.cl, GT.n_booked, gf_booked _ _ _, a, bk, s.likes, m, rfl, G.L.mono s12, I.V, hb2, hml, fun H3 p3 s3 hp3 h3 => ?_⟩
        refine k.zero G (s12.trans s3) (s3 _ _ p2) h3 ?_
        unfold roomsN
        rw [List.length_append]
        have := pairN_len I.V m
        split
        · rw [List.length_cons]; omega
        · rw [List.length_singleton]; omega
      · refine ⟨_, rfl, g, dx, _, rfl, s1 _ _ G.hg, gf_no _ _ _ (by decide) (by decide) (by decide), _, rfl, b, _, 0, _, rfl, rfl, SqL.of (s1 _ _ hb), rfl, _, rfl, b, _, 1, _, rfl, rfl, SqL.of (s1 _ _ hb), rfl, g, i, j, s, m, rfl, hi, hj, hm, I, ⟨dx, a, bk, as, G.sameT (toT s1) (G.T.mono s1)⟩, k.pre G s1⟩
end
end Rs
end
section
set_option Elab.async false
set_option linter.all false
set_option maxRecDepth 100000
set_option maxHeartbeats 2000000
namespace Rs
open PySem PySem.Spec PyProof.Rows L2
open Vbhoam (Likes State)
section
variable {P : Program} {w : World} {K : PySem.W.Frag} {mg : Str → Option Value} {base : Heap}
/-! ### rows that are judged -/
def checkN (l : Likes) (m : List Nat) : List Nat := if Vbhoam.isPairing l m = false then [1] else match Vbhoam.blocks l m with | [] => [0] | p :: _ => [2, p.1, p.2]
def proveN (l : Likes) (m : List Nat) : List Nat := if Vbhoam.isRings l m = false then [1] else match Vbhoam.ringFault l m with
  | some i => [2, i]
  | none => match Vbhoam.ringBlocks l m with
    | p :: _ => [3, p.1, p.2]
    | [] => 0 :: (Vbhoam.odd l m).length :: Vbhoam.odd l m
theorem checkN_len (l : Likes) (m : List Nat) : (checkN l m).length ≤ 3 := by
  unfold checkN
  cases Vbhoam.isPairing l m with
  | false => rw [if_pos rfl]; show 1 ≤ 3; decide
  | true =>
    rw [if_neg (by simp)]
    cases Vbhoam.blocks l m with
    | nil => show 1 ≤ 3; decide
    | cons p r => show 3 ≤ 3; decide
theorem proveN_len (l : Likes) (m : List Nat) : (proveN l m).length ≤ l.length + 3 := by
  unfold proveN
  cases Vbhoam.isRings l m with
  | false => rw [if_pos rfl]; show 1 ≤ _; omega
  | true =>
    rw [if_neg (by simp)]
    cases Vbhoam.ringFault l m with
    | some i => show 2 ≤ _; omega
    | none =>
      cases Vbhoam.ringBlocks l m with
      | cons p r => show 3 ≤ _; omega
      | nil =>
        have := odd_len l m
        show (Vbhoam.odd l m).length + 1 + 1 ≤ _
        omega
theorem res_check_no {s : State} {m : List Nat} (h : ¬ m.length = s.likes.length) : resOf s (.check (zs m)) = (s, [-6]) := by
  unfold resOf Vbhoam.does
  dsimp only
  rw [zs_len, if_pos h]
theorem res_prove_no {s : State} {m : List Nat} (h : ¬ m.length = s.likes.length) : resOf s (.prove (zs m)) = (s, [-6]) := by
  unfold resOf Vbhoam.does
  dsimp only
  rw [zs_len, if_pos h]
theorem res_blocks_no {s : State} {m : List Nat} (h : ¬ m.length = s.likes.length) : resOf s (.blocks (zs m)) = (s, [-6]) := by
  unfold resOf Vbhoam.does
  dsimp only
  rw [zs_len, if_pos h]
theorem res_settle_no {s : State} {m : List Nat} {n : Nat} (h : ¬ m.length = s.likes.length) : resOf s (.settle n (zs m)) = (s, [-6]) := by
  unfold resOf Vbhoam.does
  dsimp only
  rw [zs_len, if_pos h]
theorem res_book_no {s : State} {m : List Nat} (h : ¬ m.length = s.likes.length) : resOf s (.book (zs m)) = (s, [-6]) := by
  unfold resOf Vbhoam.does
  dsimp only
  rw [zs_len, if_pos h]
theorem res_check {s : State} {m : List Nat} (h : m.length = s.likes.length) : resOf s (.check (zs m)) = (s, zs (0 :: checkN s.likes m)) := by
  unfold resOf Vbhoam.does checkN
  dsimp only
  rw [zs_len, nats_zs, if_neg (fun z => z h)]
  cases Vbhoam.isPairing s.likes m with
  | false => rw [if_pos rfl, if_pos rfl]; rfl
  | true =>
    rw [if_neg (by simp), if_neg (by simp)]
    cases Vbhoam.blocks s.likes m <;> rfl
theorem res_prove {s : State} {m : List Nat} (h : m.length = s.likes.length) : resOf s (.prove (zs m)) = (s, zs (0 :: proveN s.likes m)) := by
  unfold resOf Vbhoam.does proveN
  dsimp only
  rw [zs_len, nats_zs, if_neg (fun z => z h)]
  cases Vbhoam.isRings s.likes m with
  | false => rw [if_pos rfl, if_pos rfl]; rfl
  | true =>
    rw [if_neg (by simp), if_neg (by simp)]
    cases Vbhoam.ringFault s.likes m with
    | some i => rfl
    | none => cases Vbhoam.ringBlocks s.likes m <;> rfl
theorem res_blocks {s : State} {m : List Nat} (h : m.length = s.likes.length) : resOf s (.blocks (zs m)) = if Vbhoam.isPairing s.likes m = false then (s, [-8]) else (s, zs (0 :: pairN (Vbhoam.blocks s.likes m))) := by
  unfold resOf Vbhoam.does
  dsimp only
  rw [zs_len, nats_zs, if_neg (fun z => z h)]
  cases Vbhoam.isPairing s.likes m with
  | false => rw [if_pos rfl, if_pos rfl]
  | true => rw [if_neg (by simp), if_neg (by simp), pairRow_eq]; rfl
theorem res_settle {s : State} {m : List Nat} {n : Nat} (h : m.length = s.likes.length) : resOf s (.settle n (zs m)) = if Vbhoam.isPairing s.likes m = false then (s, [-8]) else (s, zs (0 :: (Vbhoam.settled s.likes n m).2 :: (Vbhoam.settled s.likes n m).1)) := by
  unfold resOf Vbhoam.does
  dsimp only
  rw [zs_len, nats_zs, if_neg (fun z => z h)]
  cases Vbhoam.isPairing s.likes m with
  | false => rw [if_pos rfl, if_pos rfl]
  | true => rw [if_neg (by simp), if_neg (by simp)]; rfl
theorem res_book {s : State} {m : List Nat} (h : m.length = s.likes.length) : resOf s (.book (zs m)) = if Vbhoam.isPairing s.likes m = false then (s, [-8]) else ({ s with rooms := some m }, zs [0, m.count 0]) := by
  unfold resOf Vbhoam.does
  dsimp only
  rw [zs_len, nats_zs, if_neg (fun z => z h)]
  cases Vbhoam.isPairing s.likes m with
  | false => rw [if_pos rfl, if_pos rfl]
  | true =>
    rw [if_neg (by simp), if_neg (by simp), ← List.countP_eq_length_filter]
    rfl
def spJudge (C PT : Addr) : Sp := fun vs H Q _ => ∃ (g b1 b2 : Addr) (c : Nat) (tn m : List Nat) (s : State), vs = [.ref g, .int c, .ref b1, .ref b2] ∧ (c = 4 ∨ c = 5 ∨ c = 10 ∨ c = 13 ∨ (c = 11 ∧ ∃ n, tn = [n])) ∧ H b1 = some (.lst (nv tn)) ∧ H b2 = some (.lst (nv m)) ∧ m.length ≤ 100 ∧ Inv s ∧ GS C PT H g s ∧ Ou C PT H g Q (resOf s (callOf c (zs tn) (zs m)))
theorem d_judge {C PT : Addr} (T : Txt K mg) (GT : GTx K mg C) (DM_book : Dm P w K mg base C "book" 1 ["self", "pairing"] (spBook C PT)) (F : AtM K C "judge" "Group.judge" s_Group_judge ["self", "call", "told", "row"]) : Dm P w K mg base C "judge" 7 ["self", "call", "told", "row"] (spJudge C PT) := by
  have D_tell_check := d_tell_check (P := P) (w := w) (base := base) T
  have D_tell_prove := d_tell_prove (P := P) (w := w) (base := base) T
  have D_is_pairing := d_is_pairing (P := P) (w := w) (base := base) T
  have D_tell_blocks := d_tell_blocks (P := P) (w := w) (base := base) T
  have D_tell_settle := d_tell_settle (P := P) (w := w) (base := base) T
  refine Dm.of F sc_Group_judge (fun vs H Q E h => ?_) (fun f cdv A outer _ H vs Q E hr h => ?_)
  · obtain ⟨g, b1, b2, c, tn, m, s, rfl, _⟩ := h
    rfl
  · obtain ⟨g, b1, b2, c, tn, m, s, rfl, hc, hb1, hb2, hm, I, ⟨dx, a, bk, as, G⟩, k⟩ := h
    refine ⟨_, (pss_cons (ps_if (pt_cmpR op_ne (pe_callB call_len_seq rfl T.b_len PySem.boot_len (pa_cons (pv 3) pa_nil)) (pe_fld (pv 0) rfl) (nomark _)) (pss_one (ps_ret (pe_lst (pa_cons (pe_gi rfl T.c_WRONG_LENGTH) pa_nil)))) pss_nil)
      (pss_cons (ps_if (pt_cmpR op_eq (pv 1) (pe_gi rfl T.c_CHECK) (nomark _)) (pss_one (ps_ret (pe_op op_cat (pe_lst (pa_cons pe_int pa_nil)) (pe_callD D_tell_check (hr.mono (by decide)) rfl (pa_cons (pe_fld (pv 0) rfl) (pa_cons (pv 3) pa_nil)))))) pss_nil)
      (pss_cons (ps_if (pt_cmpR op_eq (pv 1) (pe_gi rfl T.c_PROVE) (nomark _)) (pss_one (ps_ret (pe_op op_cat (pe_lst (pa_cons pe_int pa_nil)) (pe_callD D_tell_prove (hr.mono (by decide)) rfl (pa_cons (pe_fld (pv 0) rfl) (pa_cons (pv 3) pa_nil)))))) pss_nil)
      (pss_cons (ps_if (pt_not (pt_val (pe_callD D_is_pairing (hr.mono (by decide)) rfl (pa_cons (pe_fld (pv 0) rfl) (pa_cons (pv 3) pa_nil))))) (pss_one (ps_ret (pe_lst (pa_cons (pe_gi rfl T.c_NO_PAIRING) pa_nil)))) pss_nil)
      (pss_cons (ps_if (pt_cmpR op_eq (pv 1) (pe_gi rfl T.c_BLOCKS) (nomark _)) (pss_one (ps_ret (pe_op op_cat (pe_lst (pa_cons pe_int pa_nil)) (pe_callD D_tell_blocks (hr.mono (by decide)) rfl (pa_cons (pe_fld (pv 0) rfl) (pa_cons (pv 3) pa_nil)))))) pss_nil)
      (pss_cons (ps_if (pt_cmpR op_eq (pv 1) (pe_gi rfl T.c_SETTLE) (nomark _)) (pss_one (ps_ret (pe_op op_cat (pe_lst (pa_cons pe_int pa_nil)) (pe_callD D_tell_settle (hr.mono (by decide)) rfl (pa_cons (pe_fld (pv 0) rfl) (pa_cons (pe_ix ix_list (pv 2) pe_int (fun _ _ => rfl)) (pa_cons (pv 3) pa_nil))))))) pss_nil)
      (pss_one (ps_ret (pe_methD (pv 0) GT.cl DM_book (hr.mono (by decide)) (pa_cons (pv 3) pa_nil)))))))))), ?_⟩
    have hf := I.V.few
    refine ⟨_, rfl, b2, _, rfl, .inl (SqL.of hb2), _, rfl, g, C, dx, _, _, rfl, G.hg, GT.cl, GT.n_guests, gf_guests _ _ _, rfl, _, rfl, ?_⟩
    rw [nv_len, int_ne]
    by_cases hl : m.length = s.likes.length
    · rw [hl, beq_self_eq_true]
      refine ⟨_, rfl, rfl, _, rfl, ?_⟩
      rw [show decide (V.int ((c : Nat) : Int) = V.int 4) = (c == 4) from dec_nat c 4]
      cases e4 : (c == 4) with
      | true =>
        have e := eq_of_beq e4
        subst e
        have kk : Ou C PT H g Q (s, zs (0 :: checkN s.likes m)) := by
          have e : resOf s (callOf 4 (zs tn) (zs m)) = (s, zs (0 :: checkN s.likes m)) := res_check hl
          rw [← e]
          exact k
        refine ⟨(by show 1 ≤ sizeLine; decide), fun p hp => ?_⟩
        have s1 := same_upd (o := .lst (nv [0])) hp
        have p1 : upd H p (.lst (nv [0])) p = some (.lst (nv [0])) := upd_same
        refine ⟨_, rfl, g, C, dx, _, _, rfl, s1 _ _ G.hg, GT.cl, GT.n_lists, gf_lists _ _ _, _, rfl, a, b2, s.likes, m, rfl, G.L.mono s1, I.V, SqL.of (s1 _ _ hb2), hl, fun H3 p3 s3 hp3 h3 => ?_⟩
        exact kk.zero G (s1.trans s3) (s3 _ _ p1) h3 (Nat.le_trans (checkN_len _ _) (by decide))
      | false =>
        refine ⟨_, rfl, rfl, _, rfl, ?_⟩
        rw [show decide (V.int ((c : Nat) : Int) = V.int 5) = (c == 5) from dec_nat c 5]
        cases e5 : (c == 5) with
        | true =>
          have e := eq_of_beq e5
          subst e
          have kk : Ou C PT H g Q (s, zs (0 :: proveN s.likes m)) := by
            have e : resOf s (callOf 5 (zs tn) (zs m)) = (s, zs (0 :: proveN s.likes m)) := res_prove hl
            rw [← e]
            exact k
          refine ⟨(by show 1 ≤ sizeLine; decide), fun p hp => ?_⟩
          have s1 := same_upd (o := .lst (nv [0])) hp
          have p1 : upd H p (.lst (nv [0])) p = some (.lst (nv [0])) := upd_same
          refine ⟨_, rfl, g, C, dx, _, _, rfl, s1 _ _ G.hg, GT.cl, GT.n_lists, gf_lists _ _ _, _, rfl, a, b2, s.likes, m, rfl, G.L.mono s1, I.V, SqL.of (s1 _ _ hb2), hl, fun H3 p3 s3 hp3 h3 => ?_⟩
          have := proveN_len s.likes m
          exact kk.zero G (s1.trans s3) (s3 _ _ p1) h3 (by omega)
        | false =>
          have n4 := ne_of_beq_false e4
          have n5 := ne_of_beq_false e5
          refine ⟨_, rfl, g, C, dx, _, _, rfl, G.hg, GT.cl, GT.n_lists, gf_lists _ _ _, _, rfl, a, b2, s.likes, m, rfl, G.L, I.V, SqL.of hb2, hl, _, rfl, ?_⟩
          cases hP : Vbhoam.isPairing s.likes m with
          | false =>
            have e : resOf s (callOf c (zs tn) (zs m)) = (s, [-8]) := by
              rcases hc with rfl | rfl | rfl | rfl | ⟨rfl, n, rfl⟩
              · exact absurd rfl n4
              · exact absurd rfl n5
              · exact (res_blocks hl).trans (if_pos hP)
              · exact (res_book hl).trans (if_pos hP)
              · exact (res_settle hl).trans (if_pos hP)
            rw [e] at k
            exact ⟨(by show 1 ≤ sizeLine; decide), fun p hp => k.no G (fun _ _ z => z) hp⟩
          | true =>
            have nP : ¬ Vbhoam.isPairing s.likes m = false := by rw [hP]; simp
            refine ⟨_, rfl, rfl, _, rfl, ?_⟩
            rw [show decide (V.int ((c : Nat) : Int) = V.int 10) = (c == 10) from dec_nat c 10]
            cases e10 : (c == 10) with
            | true =>
              have e := eq_of_beq e10
              subst e
              have kk : Ou C PT H g Q (s, zs (0 :: pairN (Vbhoam.blocks s.likes m))) := by
                have e : resOf s (callOf 10 (zs tn) (zs m)) = (s, zs (0 :: pairN (Vbhoam.blocks s.likes m))) := (res_blocks hl).trans (if_neg nP)
                rw [← e]
                exact k
              refine ⟨(by show 1 ≤ sizeLine; decide), fun p hp => ?_⟩
              have s1 := same_upd (o := .lst (nv [0])) hp
              have p1 : upd H p (.lst (nv [0])) p = some (.lst (nv [0])) := upd_same
              refine ⟨_, rfl, g, C, dx, _, _, rfl, s1 _ _ G.hg, GT.cl, GT.n_lists, gf_lists _ _ _, _, rfl, a, b2, s.likes, m, rfl, G.L.mono s1, I.V, SqL.of (s1 _ _ hb2), hl, fun H3 p3 s3 hp3 h3 => ?_⟩
              exact kk.zero G (s1.trans s3) (s3 _ _ p1) h3 (Nat.le_trans (pairN_len I.V m) (by decide))
            | false =>
              refine ⟨_, rfl, rfl, _, rfl, ?_⟩
              rw [show decide (V.int ((c : Nat) : Int) = V.int 11) = (c == 11) from dec_nat c 11]
              have n10 := ne_of_beq_false e10
              cases e11 : (c == 11) with
              | true =>
                have e := eq_of_beq e11
                subst e
                obtain ⟨n, rfl⟩ : ∃ n, tn = [n] := by
                  rcases hc with z | z | z | z | ⟨_, z⟩
                  · omega
                  · omega
                  · omega
                  · omega
                  · exact z
                have kk : Ou C PT H g Q (s, zs (0 :: (Vbhoam.settled s.likes n m).2 :: (Vbhoam.settled s.likes n m).1)) := by
                  have e : resOf s (callOf 11 (zs [n]) (zs m)) = (s, zs (0 :: (Vbhoam.settled s.likes n m).2 :: (Vbhoam.settled s.likes n m).1)) := (res_settle hl).trans (if_neg nP)
                  rw [← e]
                  exact k
                refine ⟨(by show 1 ≤ sizeLine; decide), fun p hp => ?_⟩
                have s1 := same_upd (o := .lst (nv [0])) hp
                have p1 : upd H p (.lst (nv [0])) p = some (.lst (nv [0])) := upd_same
                refine ⟨_, rfl, g, C, dx, _, _, rfl, s1 _ _ G.hg, GT.cl, GT.n_lists, gf_lists _ _ _, _, rfl, b1, _, 0, _, rfl, rfl, SqL.of (s1 _ _ hb1), rfl, _, rfl, a, b2, s.likes, m, n, rfl, G.L.mono s1, I.V, s1 _ _ hb2, hP, fun H3 p3 s3 hp3 h3 => ?_⟩
                have := settled_len s.likes n m
                exact kk.zero G (s1.trans s3) (s3 _ _ p1) h3 (by rw [List.length_cons]; omega)
              | false =>
                have n11 := ne_of_beq_false e11
                have e13 : c = 13 := by omega
                subst e13
                have kk : Ou C PT H g Q ({ s with rooms := some m }, zs [0, m.count 0]) := by
                  have e : resOf s (callOf 13 (zs tn) (zs m)) = ({ s with rooms := some m }, zs [0, m.count 0]) := (res_book hl).trans (if_neg nP)
                  rw [← e]
                  exact k
                exact ⟨_, rfl, g, dx, _, rfl, G.hg, gf_no _ _ _ (by decide) (by decide) (by decide), _, rfl, g, b2, s, m, rfl, I, ⟨dx, a, bk, as, G⟩, hb2, hm, kk⟩
    · rw [show (m.length == s.likes.length) = false from beq_false_of_ne hl]
      have e : resOf s (callOf c (zs tn) (zs m)) = (s, [-6]) := by
        rcases hc with rfl | rfl | rfl | rfl | ⟨rfl, n, rfl⟩
        · exact res_check_no hl
        · exact res_prove_no hl
        · exact res_blocks_no hl
        · exact res_book_no hl
        · exact res_settle_no hl
      rw [e] at k
      exact ⟨(by show 1 ≤ sizeLine; decide), fun p hp => k.no G (fun _ _ z => z) hp⟩
/-! ### what is asked of the whole group -/
def pairsN (l : Likes) : List Nat := match Vbhoam.stables l with | [] => [0] | m :: _ => 1 :: m
def ringsN (l : Likes) : List Nat := match Vbhoam.witness l with | none => [0] | some r => 1 :: (r ++ ((Vbhoam.odd l r).length :: Vbhoam.odd l r))
theorem res_pairs (s : State) : resOf s .pairs = (s, zs (0 :: pairsN s.likes)) := by
  unfold resOf Vbhoam.does pairsN
  dsimp only
  cases Vbhoam.stables s.likes <;> rfl
theorem res_rings (s : State) : resOf s .rings = (s, zs (0 :: ringsN s.likes)) := by
  unfold resOf Vbhoam.does ringsN
  dsimp only
  cases Vbhoam.witness s.likes with
  | none => rfl
  | some r =>
    dsimp only
    unfold zs
    rw [List.map_cons, List.map_cons, List.map_append]
    rfl
theorem res_count (s : State) : resOf s .count = (s, zs [0, (allP s.likes).length, (Vbhoam.stables s.likes).length]) := by
  unfold resOf Vbhoam.does
  dsimp only
  rw [allP_eq]
  rfl
theorem zs_flat (l : Likes) : l.flatMap (fun L => Vbhoam.nat L.length :: L.map Vbhoam.nat) = zs (listsN l) := by
  unfold listsN zs
  rw [List.map_flatMap]
  rfl
theorem res_lists (s : State) : resOf s .lists = (s, zs (0 :: s.likes.length :: listsN s.likes)) := by
  unfold resOf Vbhoam.does
  dsimp only
  rw [zs_flat]
  rfl
def spSurvey (C PT : Addr) : Sp := fun vs H Q _ => ∃ (g : Addr) (c : Nat) (s : State), vs = [.ref g, .int c] ∧ (c = 2 ∨ c = 3 ∨ c = 7 ∨ c = 16) ∧ 1 ≤ s.likes.length ∧ Inv s ∧ GS C PT H g s ∧ Ou C PT H g Q (resOf s (callOf c [] []))
theorem d_survey {C PT : Addr} (T : Txt K mg) (GT : GTx K mg C) (F : AtM K C "survey" "Group.survey" s_Group_survey ["self", "call"]) : Dm P w K mg base C "survey" 8 ["self", "call"] (spSurvey C PT) := by
  have D_tell_pairs := d_tell_pairs (P := P) (w := w) (base := base) T
  have D_tell_rings := d_tell_rings (P := P) (w := w) (base := base) T
  have D_tell_count := d_tell_count (P := P) (w := w) (base := base) T
  have D_tell_lists := d_tell_lists (P := P) (w := w) (base := base) T
  refine Dm.of F sc_Group_survey (fun vs H Q E h => ?_) (fun f cdv A outer _ H vs Q E hr h => ?_)
  · obtain ⟨g, c, s, rfl, _⟩ := h
    rfl
  · obtain ⟨g, c, s, rfl, hc, ho, I, ⟨dx, a, bk, as, G⟩, k⟩ := h
    refine ⟨_, (pss_cons (ps_if (pt_cmpR op_eq (pv 1) (pe_gi rfl T.c_PAIRS) (nomark _)) (pss_one (ps_ret (pe_op op_cat (pe_lst (pa_cons pe_int pa_nil)) (pe_callD D_tell_pairs (hr.mono (by decide)) rfl (pa_cons (pe_fld (pv 0) rfl) pa_nil))))) pss_nil)
      (pss_cons (ps_if (pt_cmpR op_eq (pv 1) (pe_gi rfl T.c_RINGS) (nomark _)) (pss_one (ps_ret (pe_op op_cat (pe_lst (pa_cons pe_int pa_nil)) (pe_callD D_tell_rings (hr.mono (by decide)) rfl (pa_cons (pe_fld (pv 0) rfl) pa_nil))))) pss_nil)
      (pss_cons (ps_if (pt_cmpR op_eq (pv 1) (pe_gi rfl T.c_COUNT) (nomark _)) (pss_one (ps_ret (pe_op op_cat (pe_lst (pa_cons pe_int pa_nil)) (pe_callD D_tell_count (hr.mono (by decide)) rfl (pa_cons (pe_fld (pv 0) rfl) pa_nil))))) pss_nil)
      (pss_one (ps_ret (pe_op op_cat (pe_lst (pa_cons pe_int pa_nil)) (pe_callD D_tell_lists (hr.mono (by decide)) rfl (pa_cons (pe_fld (pv 0) rfl) pa_nil)))))))), ?_⟩
    have hf := I.V.few
    have s1 : ∀ {p : Addr}, H p = none → Same H (upd H p (.lst (nv [0]))) := fun hp => same_upd hp
    have p1 : ∀ {p : Addr}, upd H p (.lst (nv [0])) p = some (.lst (nv [0])) := upd_same
    refine ⟨_, rfl, rfl, _, rfl, ?_⟩
    rw [show decide (V.int ((c : Nat) : Int) = V.int 2) = (c == 2) from dec_nat c 2]
    cases e2 : (c == 2) with
    | true =>
      have e := eq_of_beq e2
      subst e
      have kk : Ou C PT H g Q (s, zs (0 :: pairsN s.likes)) := by
        rw [← res_pairs]
        exact k
      refine ⟨(by show 1 ≤ sizeLine; decide), fun p hp => ⟨_, rfl, g, C, dx, _, _, rfl, s1 hp _ _ G.hg, GT.cl, GT.n_lists, gf_lists _ _ _, a, s.likes, rfl, G.L.mono (s1 hp), I.V, fun H3 p3 s3 hp3 h3 => kk.zero G ((s1 hp).trans s3) (s3 _ _ p1) h3 ?_⟩⟩
      unfold pairsN
      cases hS : Vbhoam.stables s.likes with
      | nil => show 1 ≤ 900; decide
      | cons m r =>
        have := stable_len (l := s.likes) (m := m) (by rw [hS]; exact .head _)
        show m.length + 1 ≤ 900
        omega
    | false =>
      refine ⟨_, rfl, rfl, _, rfl, ?_⟩
      rw [show decide (V.int ((c : Nat) : Int) = V.int 3) = (c == 3) from dec_nat c 3]
      cases e3 : (c == 3) with
      | true =>
        have e := eq_of_beq e3
        subst e
        have kk : Ou C PT H g Q (s, zs (0 :: ringsN s.likes)) := by
          rw [← res_rings]
          exact k
        refine ⟨(by show 1 ≤ sizeLine; decide), fun p hp => ⟨_, rfl, g, C, dx, _, _, rfl, s1 hp _ _ G.hg, GT.cl, GT.n_lists, gf_lists _ _ _, a, s.likes, rfl, G.L.mono (s1 hp), I.V, ho, fun H3 p3 s3 hp3 h3 => kk.zero G ((s1 hp).trans s3) (s3 _ _ p1) h3 ?_⟩⟩
        unfold ringsN
        cases hW : Vbhoam.witness s.likes with
        | none => show 1 ≤ 900; decide
        | some r =>
          have h1 := (witness_full hW).len
          have h2 := odd_len s.likes r
          show (r ++ ((Vbhoam.odd s.likes r).length :: Vbhoam.odd s.likes r)).length + 1 ≤ 900
          rw [List.length_append, List.length_cons]
          omega
      | false =>
        refine ⟨_, rfl, rfl, _, rfl, ?_⟩
        rw [show decide (V.int ((c : Nat) : Int) = V.int 7) = (c == 7) from dec_nat c 7]
        cases e7 : (c == 7) with
        | true =>
          have e := eq_of_beq e7
          subst e
          have kk : Ou C PT H g Q (s, zs (0 :: [(allP s.likes).length, (Vbhoam.stables s.likes).length])) := by
            rw [← res_count]
            exact k
          exact ⟨(by show 1 ≤ sizeLine; decide), fun p hp => ⟨_, rfl, g, C, dx, _, _, rfl, s1 hp _ _ G.hg, GT.cl, GT.n_lists, gf_lists _ _ _, a, s.likes, rfl, G.L.mono (s1 hp), I.V, fun H3 p3 s3 hp3 h3 => kk.zero G ((s1 hp).trans s3) (s3 _ _ p1) h3 (by show 2 ≤ 900; decide)⟩⟩
        | false =>
          have n2 := ne_of_beq_false e2
          have n3 := ne_of_beq_false e3
          have n7 := ne_of_beq_false e7
          have e16 : c = 16 := by omega
          subst e16
          have kk : Ou C PT H g Q (s, zs (0 :: s.likes.length :: listsN s.likes)) := by
            rw [← res_lists]
            exact k
          refine ⟨(by show 1 ≤ sizeLine; decide), fun p hp => ⟨_, rfl, g, C, dx, _, _, rfl, s1 hp _ _ G.hg, GT.cl, GT.n_lists, gf_lists _ _ _, a, s.likes, rfl, G.L.mono (s1 hp), I.V, fun H3 p3 s3 hp3 h3 => kk.zero G ((s1 hp).trans s3) (s3 _ _ p1) h3 ?_⟩⟩
          have e1 : (listsN s.likes).length ≤ s.likes.length * 8 := flatK_len fun L hL => by
            rw [List.length_cons]
            have := list_len I.V L hL
            omega
          rw [List.length_cons]
          omega
end
end Rs
end
section
set_option Elab.async false
set_option linter.all false
set_option maxRecDepth 100000
set_option maxHeartbeats 2000000
namespace Rs
open PySem PySem.Spec PyProof.Rows L2
open Vbhoam (Likes State)
section
variable {P : Program} {w : World} {K : PySem.W.Frag} {mg : Str → Option Value} {base : Heap}
def spAnswer (GS : Hp → Addr → State → Prop) (Fp : Hp → Addr → Addr → Prop) : Sp := fun vs H Q _ => ∃ (g b1 b2 : Addr) (c : Nat) (ts row : List Int) (s : State), vs = [.ref g, .int (c : Nat), .ref b1, .ref b2] ∧ c ≤ 16 ∧ ts.length = (rangesOf c).length ∧ (longest c = none → row = []) ∧ row.length ≤ 100 ∧
  H b1 = some (.lst (iv ts)) ∧ H b2 = some (.lst (iv row)) ∧ ¬ Fp H g b1 ∧ ¬ Fp H g b2 ∧ Inv s ∧ GS H g s ∧ OutS GS Fp H g Q (VbhoamNeutral.step s (mkRaw c ts row)).1 (VbhoamNeutral.step s (mkRaw c ts row)).2
theorem row_most {c : Nat} {ts row : List Int} (hc : c ≤ 16) (ht : ts.length = (rangesOf c).length) (hr : longest c = none → row = []) (h : PyInside.call PyVbhoam.bound (mkRaw c ts row) = true) : row.length ≤ 100 := by
  have g : ∀ (lo hi : Int), (decide (0 ≤ row.length) && decide (row.length ≤ 100) && row.all (PyInside.within lo hi) && true) = true → row.length ≤ 100 := fun _ _ q => by
    rw [Bool.and_eq_true, Bool.and_eq_true, Bool.and_eq_true] at q
    exact of_decide_eq_true q.1.1.2
  have e0 : longest c = none → row.length ≤ 100 := fun z => by rw [hr z]; exact Nat.zero_le _
  have key : ∀ (lo hi : Int) (b : Bool), (b && (decide (0 ≤ row.length) && decide (row.length ≤ 100) && row.all (PyInside.within lo hi) && true)) = true → row.length ≤ 100 := fun _ _ _ q => by
    rw [Bool.and_eq_true, Bool.and_eq_true, Bool.and_eq_true, Bool.and_eq_true] at q
    exact of_decide_eq_true q.2.1.1.2
  match c, hc, ht, h, e0 with
  | 0, _, _, _, e0 => exact e0 rfl
  | 1, _, _, h, _ => exact key _ _ _ h
  | 2, _, _, _, e0 => exact e0 rfl
  | 3, _, _, _, e0 => exact e0 rfl
  | 4, _, ht, h, _ => rw [len0 ht] at h; exact g _ _ h
  | 5, _, ht, h, _ => rw [len0 ht] at h; exact g _ _ h
  | 6, _, _, _, e0 => exact e0 rfl
  | 7, _, _, _, e0 => exact e0 rfl
  | 8, _, _, _, e0 => exact e0 rfl
  | 9, _, _, _, e0 => exact e0 rfl
  | 10, _, ht, h, _ => rw [len0 ht] at h; exact g _ _ h
  | 11, _, _, h, _ => exact key _ _ _ h
  | 12, _, _, _, e0 => exact e0 rfl
  | 13, _, ht, h, _ => rw [len0 ht] at h; exact g _ _ h
  | 14, _, _, _, e0 => exact e0 rfl
  | 15, _, _, _, e0 => exact e0 rfl
  | 16, _, _, _, e0 => exact e0 rfl
  | c + 17, h, _, _, _ => exact absurd h (by omega)
theorem ok_answers {C PT f : Addr} {fd : FuncData} {rv lv : List (Int × Value)} {GS : Hp → Addr → State → Prop} {Fp : Hp → Addr → Addr → Prop} (T : Txt K mg) (DD : Dicts K mg rv lv) (GT : GTx K mg C) (I0 : Grp C GS Fp) (F1 : Fun K "answers" "answers" s_answers f fd)
    (DM_init : Di P w K mg base C 1 ["self"] (spInitS C PT GS)) (DM_answer : Dm P w K mg base C "answer" 9 ["self", "call", "told", "row"] (spAnswer GS Fp)) : FnOk P w K mg base CX0 10 f fd ["calls"] (spAll PT K) := by
  have D_read_calls := d_read_calls (P := P) (w := w) (base := base) T DD
  refine F1.ok sc_answers (fun vs H Q E h => ?_) (fun cdv A outer s H vs Q E hr h => ?_)
  · obtain ⟨a, l, raw, rfl, _⟩ := h
    rfl
  · obtain ⟨a, l, raw, rfl, hS, hraw, hlen, hmost, hin, hO, k⟩ := h
    refine ⟨_, (pss_cons (ps_set (i := 1) sc_answers.nd rfl (Or.inl rfl) (pe_makeD DM_init (hr.mono (by decide)) rfl GT.mgC))
      (pss_cons (ps_set (i := 2) sc_answers.nd rfl (Or.inl rfl) (pe_lst pa_nil))
      (pss_cons (ps_for PassesOwn.never rfl (pi_list (pe_callD D_read_calls (hr.mono (by decide)) rfl (pa_cons (pv 0) pa_nil))) (pg_name (i := 3) sc_answers.nd rfl (Or.inl rfl))
        (pss_cons (ps_set (i := 4) sc_answers.nd rfl (Or.inl rfl) (pe_methD (pv 1) GT.cl DM_answer (hr.mono (by decide)) (pa_cons (pe_ix ix_tup (pv 3) pe_int (fun _ _ => rfl)) (pa_cons (pe_ix ix_tup (pv 3) pe_int (fun _ _ => rfl)) (pa_cons (pe_ix ix_tup (pv 3) pe_int (fun _ _ => rfl)) pa_nil)))))
      (pss_cons (ps_expr (pe_bm PySem.F.plainAttrs_list PySem.F.slot_list_append PySem.F.type_list_append mt_append (pv 2) (pa_cons (pe_callB call_len_seq rfl T.b_len PySem.boot_len (pa_cons (pv 4) pa_nil)) pa_nil)))
      (pss_one (ps_expr (pe_bm PySem.F.plainAttrs_list PySem.F.slot_list_extend PySem.F.type_list_extend mt_extend (pv 2) (pa_cons (pv 4) pa_nil)))))))
      (pss_one (ps_ret (pv 2)))))), ?_⟩
    have sz : sizeLine = 16777216 := rfl
    have hform := calls_form _ _ _ hraw
    intro g dx hg hdx hne
    have s0 : Same H (upd (upd H dx (.own g)) g (.ins C dx [])) := (same_upd hdx).trans (same_upd (by rw [upd_ne hne.symm]; exact hg))
    refine ⟨g, dx, rfl, upd_same, .inl (s0 _ _ hO.1), fun H1 hk hG => ⟨rfl, ?_⟩⟩
    have s1 : Same H H1 := fun b o e => hk b o (s0 _ _ e) (ne_of_none e hg)
    refine ⟨Nat.zero_le _, fun q hq => ?_⟩
    have sq := same_upd (o := .lst []) hq
    have nq0 : ¬ Fp H1 g q := fun z => I0.live hG z hq
    have G1 := I0.frame hG (H' := upd H1 q (.lst [])) fun b o _ e => sq _ _ e
    have nq1 : ¬ Fp (upd H1 q (.lst [])) g q := fun z => nq0 (I0.foot hG (fun b o _ e => sq _ _ e) z)
    have hqs : upd H1 q (.lst []) q = some (.lst []) := upd_same
    generalize upd H1 q (.lst []) = H1q at sq G1 nq1 hqs
    refine ⟨_, rfl, a, l, raw, rfl, (s1.trans sq).seq hS, hraw, hlen, fun H2 p s2 hp hat => ?_⟩
    obtain ⟨as, g1, g2⟩ := hat
    have G2 := I0.frame G1 (H' := H2) fun b o _ e => s2 _ _ e
    have f2 : ∀ b, Fp H2 g b → Fp H1q g b := fun b z => I0.foot G1 (fun b o _ e => s2 _ _ e) z
    refine ⟨p, rfl, ⟨_, SqL.of g1⟩, for_list (K := K) (a := p) (xs := as.map V.ref)
      (fun i σ H3 => ∃ v3 v4 : Option V, σ = [some (.ref a), some (.ref g), some (.ref q), v3, v4] ∧ (∀ b o, H2 b = some o → H1q b = none → H3 b = some o ∧ ¬ Fp H3 g b) ∧ H3 q = some (.lst (iv (PyFlat.told (PyFlat.played VbhoamNeutral.step Vbhoam.start (raw.take i))))) ∧ ¬ Fp H3 g q ∧ GS H3 g (stateAt Vbhoam.start (raw.take i)))
      ⟨none, none, rfl, fun b o e n => ⟨e, fun z => I0.live G1 (f2 b z) n⟩, s2 _ _ hqs, fun z => nq1 (f2 q z), G2⟩ (fun i σ H3 _ ⟨_, _, _, h5, _⟩ => SqL.of (h5 _ _ g1 hp).1) ?_ ?_⟩
    · rintro i x σ H3 hx ⟨v3, v4, rfl, hkeep, hq3, nq3, G3⟩
      have hla : as.length = raw.length := by rw [g2.length, List.length_map]
      obtain ⟨t, rfl, ht⟩ : ∃ t, x = V.ref t ∧ as[i]? = some t := by
        rw [List.getElem?_map] at hx
        cases e : as[i]? with
        | none => rw [e] at hx; cases hx
        | some t => rw [e] at hx; exact ⟨t, (Option.some.inj hx).symm, rfl⟩
      have hil : i < raw.length := by
        rw [← hla]
        exact (List.getElem?_eq_some_iff.mp ht).1
      obtain ⟨y, hy⟩ : ∃ y, raw[i]? = some y := ⟨_, List.getElem?_eq_getElem hil⟩
      have hym := List.mem_of_getElem? hy
      obtain ⟨t', ht', hcy⟩ := paired_at g2 (i := i) (b := conv y) (by rw [List.getElem?_map, hy]; rfl)
      rw [ht] at ht'
      cases ht'
      obtain ⟨c, ts, row, hc, htl, hmk, hcv, hrow⟩ := (hform y hym).row
      rw [hcv] at hcy
      obtain ⟨b1, b2, t1, t2, t3, n0, n1, n2⟩ := hcy
      obtain ⟨dx', fs, hi1, hi2⟩ := I0.inst G3
      have e1 := hkeep _ _ t1 n0
      have e2 := hkeep _ _ t2 n1
      have e3 := hkeep _ _ t3 n2
      have hinv : Inv (stateAt Vbhoam.start (raw.take i)) := inv_at _ inv_start fun z hz => hform z (List.mem_of_mem_take hz)
      have htold := told_len (raw.take i) inv_start fun z hz => hform z (List.mem_of_mem_take hz)
      have hti : (raw.take i).length ≤ 400 := by rw [List.length_take]; omega
      have hstep := (step_ok hinv (hform y hym)).2
      have hq100 : row.length ≤ 100 := row_most hc htl hrow (by
        have := List.all_eq_true.mp hin y hym
        rwa [hmk] at this)
      refine ⟨_, rfl, g, dx', fs, rfl, hi1, hi2, ?_⟩
      refine ⟨_, rfl, t, _, _, _, rfl, rfl, SqT.of e1.1, rfl, ?_⟩
      refine ⟨_, rfl, t, _, _, _, rfl, rfl, SqT.of e1.1, rfl, ?_⟩
      refine ⟨_, rfl, t, _, _, _, rfl, rfl, SqT.of e1.1, rfl, ?_⟩
      refine ⟨g, b1, b2, c, ts, row, _, rfl, hc, htl, hrow, hq100, e2.1, e3.1, e2.2, e3.2, hinv, G3, fun H4 p4 kp ft G4 hfr hp4 => ?_⟩
      rw [← hmk] at G4 hp4
      have hq4 : H4 q = some (.lst (iv (PyFlat.told (PyFlat.played VbhoamNeutral.step Vbhoam.start (raw.take i))))) := kp _ _ hq3 nq3
      have nq4 : ¬ Fp H4 g q := fun z => by
        rcases ft q z with z | z
        · exact nq3 z
        · rw [hq3] at z; cases z
      have npq : p4 ≠ q := fun e => by rw [e, hq3] at hfr; cases hfr
      generalize htd : PyFlat.told (PyFlat.played VbhoamNeutral.step Vbhoam.start (raw.take i)) = td at hq4 htold
      generalize han : (VbhoamNeutral.step (stateAt Vbhoam.start (raw.take i)) y).2 = an at hp4 hstep
      refine ⟨_, rfl, .inl ⟨rfl, _, SqL.of hq4⟩, _, rfl, p4, _, rfl, .inl (SqL.of hp4), q, _, _, rfl, rfl, hq4, by rw [iv_len]; omega, ?_⟩
      rw [iv_len]
      refine ⟨_, rfl, .inl ⟨rfl, _, SqL.of upd_same⟩, _, rfl, q, p4, _, _, rfl, rfl, upd_same, by rw [upd_ne npq]; exact hp4, by rw [List.length_append, iv_len, iv_len]; show _ + 1 + _ ≤ _; omega, ?_⟩
      have h46 : ∀ (o1 o2 : HO) b o, b ≠ q → H4 b = some o → upd (upd H4 q o1) q o2 b = some o := fun o1 o2 b o n e => by rw [upd_ne n, upd_ne n]; exact e
      have hF46 : ∀ (o1 o2 : HO) b o, Fp H4 g b ∨ (∃ q', o = .ext q') → H4 b = some o → upd (upd H4 q o1) q o2 b = some o := fun o1 o2 b o z e => h46 o1 o2 b o (fun e' => by
        rcases z with z | ⟨q', rfl⟩
        · exact nq4 (by rw [← e']; exact z)
        · rw [e', hq4] at e; cases e) e
      refine ⟨_, _, rfl, fun b o eb nb => ⟨h46 _ _ _ _ (fun e => by rw [e, hqs] at nb; cases nb) (kp _ _ (hkeep b o eb nb).1 (hkeep b o eb nb).2), fun z => ?_⟩, ?_, fun z => nq4 (I0.foot G4 (hF46 _ _) z), ?_⟩
      · rcases ft b (I0.foot G4 (hF46 _ _) z) with z | z
        · exact (hkeep b o eb nb).2 z
        · rw [(hkeep b o eb nb).1] at z; cases z
      · rw [upd_same, take_snoc hy, played_snoc, told_snoc, htd, han]
        unfold iv
        rw [List.map_append, List.append_assoc]
        rfl
      · rw [take_snoc hy, state_snoc]
        exact I0.frame G4 (hF46 _ _)
    · rintro σ H3 ⟨v3, v4, rfl, _, hq3, _, _⟩
      refine ⟨_, rfl, k H3 q ?_⟩
      rw [List.length_map, g2.length, List.length_map, List.take_length] at hq3
      exact hq3
end
end Rs
end
section
set_option Elab.async false
set_option linter.all false
set_option maxRecDepth 100000
set_option maxHeartbeats 2000000
namespace Rs
open PySem PySem.Spec PyProof.Rows L2
open Vbhoam (Likes State)
section
variable {P : Program} {w : World} {K : PySem.W.Frag} {mg : Str → Option Value} {base : Heap}
theorem inR_nat {lo hi x : Int} (h : inR (lo, hi) x = true) (h0 : 0 ≤ lo) : ∃ n : Nat, x = (n : Int) ∧ lo ≤ (n : Int) ∧ (n : Int) ≤ hi := by
  unfold inR at h
  rw [Bool.and_eq_true, decide_eq_true_eq, decide_eq_true_eq] at h
  have h1 : lo ≤ x := h.1
  have h2 : x ≤ hi := h.2
  exact ⟨x.toNat, by omega, by omega, by omega⟩
theorem row_zs {c : Nat} {row : List Int} (h : rowOk c row = true) : ∃ m, row = zs m := by
  unfold rowOk at h
  rw [Bool.and_eq_true, List.all_eq_true] at h
  refine ⟨row.map Int.toNat, ?_⟩
  unfold zs
  rw [List.map_map]
  have e : row.map ((fun (n : Nat) => (n : Int)) ∘ Int.toNat) = row.map id := List.map_congr_left fun x hx => by
    obtain ⟨n, rfl, _⟩ := inR_nat (h.2 x hx) (by decide)
    rfl
  rw [e, List.map_id]
theorem nums1 {c : Nat} {ts : List Int} {lo hi : Int} (e : rangesOf c = [(lo, hi)]) (h0 : 0 ≤ lo) (hl : ts.length = (rangesOf c).length) (h : numsOk c ts = true) : ∃ n : Nat, ts = zs [n] ∧ lo ≤ (n : Int) ∧ (n : Int) ≤ hi := by
  unfold numsOk at h
  rw [e] at h hl
  obtain ⟨a, rfl⟩ := len1 hl
  have h2 : (inR (lo, hi) a && true) = true := h
  rw [Bool.and_true] at h2
  obtain ⟨n, rfl, q⟩ := inR_nat h2 h0
  exact ⟨n, rfl, q⟩
theorem nums3 {c : Nat} {ts : List Int} {lo hi lo2 hi2 lo3 hi3 : Int} (e : rangesOf c = [(lo, hi), (lo2, hi2), (lo3, hi3)]) (h0 : 0 ≤ lo) (h02 : 0 ≤ lo2) (h03 : 0 ≤ lo3) (hl : ts.length = (rangesOf c).length) (h : numsOk c ts = true) : ∃ n x y : Nat, ts = zs [n, x, y] ∧ lo ≤ (n : Int) ∧ lo2 ≤ (x : Int) ∧ lo3 ≤ (y : Int) := by
  unfold numsOk at h
  rw [e] at h hl
  obtain ⟨a, b, d, rfl⟩ := len3 hl
  have h2 : (inR (lo, hi) a && (inR (lo2, hi2) b && (inR (lo3, hi3) d && true))) = true := h
  rw [Bool.and_true, Bool.and_eq_true, Bool.and_eq_true] at h2
  obtain ⟨n, rfl, q, _⟩ := inR_nat h2.1 h0
  obtain ⟨n2, rfl, q2, _⟩ := inR_nat h2.2.1 h02
  obtain ⟨n3, rfl, q3, _⟩ := inR_nat h2.2.2 h03
  exact ⟨n, n2, n3, rfl, q, q2, q3⟩
theorem nums2 {c : Nat} {ts : List Int} {lo hi lo2 hi2 : Int} (e : rangesOf c = [(lo, hi), (lo2, hi2)]) (h0 : 0 ≤ lo) (h02 : 0 ≤ lo2) (hl : ts.length = (rangesOf c).length) (h : numsOk c ts = true) : ∃ n x : Nat, ts = zs [n, x] ∧ lo ≤ (n : Int) ∧ lo2 ≤ (x : Int) := by
  unfold numsOk at h
  rw [e] at h hl
  obtain ⟨a, b, rfl⟩ := len2 hl
  have h2 : (inR (lo, hi) a && (inR (lo2, hi2) b && true)) = true := h
  rw [Bool.and_true, Bool.and_eq_true] at h2
  obtain ⟨n, rfl, q, _⟩ := inR_nat h2.1 h0
  obtain ⟨n2, rfl, q2, _⟩ := inR_nat h2.2 h02
  exact ⟨n, n2, rfl, q, q2⟩
theorem nums0 {c : Nat} {ts : List Int} (e : rangesOf c = []) (hl : ts.length = (rangesOf c).length) : ts = zs [] := by
  rw [e] at hl
  exact len0 hl
theorem opens_no {c : Nat} {ts row : List Int} (hc : c ≠ 0) : Vbhoam.isOpens (callOf c ts row) = false := by
  unfold callOf
  split <;> first | rfl | exact absurd rfl hc
theorem not_open {s : State} {c : Nat} {ts row : List Int} (I : Inv s) (hc : c ≠ 0) : Vbhoam.step s (callOf c ts row) = if s.likes.length = 0 then (s, [-2]) else resOf s (callOf c ts row) := by
  rw [step_res, I.op]
  by_cases h : s.likes.length = 0
  · rw [if_pos h, if_pos ⟨decide_eq_false (by omega), opens_no hc⟩]
  · rw [if_neg h, if_neg (fun z => by rw [decide_eq_true (show 1 ≤ s.likes.length by omega)] at z; exact absurd z.1 (by simp))]
theorem d_answer {C PT : Addr} {rv lv : List (Int × Value)} (T : Txt K mg) (DD : Dicts K mg rv lv) (GT : GTx K mg C) (DM_begin : Dm P w K mg base C "begin" 1 ["self", "guests"] (spBegin C PT)) (DM_take_list : Dm P w K mg base C "take_list" 1 ["self", "guest", "others"] (spTake C PT))
    (DM_judge : Dm P w K mg base C "judge" 7 ["self", "call", "told", "row"] (spJudge C PT)) (DM_choose : Dm P w K mg base C "choose" 7 ["self", "call", "places"] (spChoose C PT)) (DM_ask_guest : Dm P w K mg base C "ask_guest" 8 ["self", "call", "told"] (spAsk C PT))
    (DM_look_up_booked : Dm P w K mg base C "look_up_booked" 7 ["self", "call", "told"] (spLook C PT)) (DM_survey : Dm P w K mg base C "survey" 8 ["self", "call"] (spSurvey C PT)) (F : AtM K C "answer" "Group.answer" s_Group_answer ["self", "call", "told", "row"]) : Dm P w K mg base C "answer" 9 ["self", "call", "told", "row"] (spAnswer (GS C PT) (Fp C PT)) := by
  have D_in_range := d_in_range (P := P) (w := w) (base := base) T DD
  refine Dm.of F sc_Group_answer (fun vs H Q E h => ?_) (fun f cdv A outer _ H vs Q E hr h => ?_)
  · obtain ⟨g, b1, b2, c, ts, row, s, rfl, _⟩ := h
    rfl
  · obtain ⟨g, b1, b2, c, ts, row, s, rfl, hc, htl, hrow, hr100, hb1, hb2, _, _, I, ⟨dx, a, bk, as, G⟩, k⟩ := h
    refine ⟨_, (pss_cons (ps_if (pt_not (pt_val (pe_callD D_in_range (hr.mono (by decide)) rfl (pa_cons (pv 1) (pa_cons (pv 2) (pa_cons (pv 3) pa_nil)))))) (pss_one (ps_ret (pe_lst (pa_cons (pe_gi rfl T.c_OUT_OF_RANGE) pa_nil)))) pss_nil)
      (pss_cons (ps_if (pt_cmpR op_eq (pv 1) (pe_gi rfl T.c_BEGIN) (nomark _)) (pss_one (ps_ret (pe_methD (pv 0) GT.cl DM_begin (hr.mono (by decide)) (pa_cons (pe_ix ix_list (pv 2) pe_int (fun _ _ => rfl)) pa_nil)))) pss_nil)
      (pss_cons (ps_if (pt_cmpR op_eq (pe_fld (pv 0) rfl) pe_int (nomark _)) (pss_one (ps_ret (pe_lst (pa_cons (pe_gi rfl T.c_NOT_BEGUN) pa_nil)))) pss_nil)
      (pss_cons (ps_if (pt_cmpR op_eq (pv 1) (pe_gi rfl T.c_TAKE_LIST) (nomark _)) (pss_one (ps_ret (pe_methD (pv 0) GT.cl DM_take_list (hr.mono (by decide)) (pa_cons (pe_ix ix_list (pv 2) pe_int (fun _ _ => rfl)) (pa_cons (pv 3) pa_nil))))) pss_nil)
      (pss_cons (ps_if (pt_dinK DD.k_LONGEST_ROWS (pv 1)) (pss_one (ps_ret (pe_methD (pv 0) GT.cl DM_judge (hr.mono (by decide)) (pa_cons (pv 1) (pa_cons (pv 2) (pa_cons (pv 3) pa_nil)))))) pss_nil)
      (pss_cons (ps_if (PW.pt (pw_or (pt_cmpR op_eq (pv 1) (pe_gi rfl T.c_NTH) (nomark _)) (pw_or1 (pt_cmpR op_eq (pv 1) (pe_gi rfl T.c_MEDIAN) (nomark _))))) (pss_one (ps_ret (pe_methD (pv 0) GT.cl DM_choose (hr.mono (by decide)) (pa_cons (pv 1) (pa_cons (pv 2) pa_nil))))) pss_nil)
      (pss_cons (ps_if (PW.pt (pw_or (pt_cmpR op_eq (pv 1) (pe_gi rfl T.c_PARTNERS) (nomark _)) (pw_or1 (pt_cmpR op_eq (pv 1) (pe_gi rfl T.c_PREFER) (nomark _))))) (pss_one (ps_ret (pe_methD (pv 0) GT.cl DM_ask_guest (hr.mono (by decide)) (pa_cons (pv 1) (pa_cons (pv 2) pa_nil))))) pss_nil)
      (pss_cons (ps_if (PW.pt (pw_or (pt_cmpR op_eq (pv 1) (pe_gi rfl T.c_ROOMS) (nomark _)) (pw_or1 (pt_cmpR op_eq (pv 1) (pe_gi rfl T.c_JOIN) (nomark _))))) (pss_one (ps_ret (pe_methD (pv 0) GT.cl DM_look_up_booked (hr.mono (by decide)) (pa_cons (pv 1) (pa_cons (pv 2) pa_nil))))) pss_nil)
      (pss_one (ps_ret (pe_methD (pv 0) GT.cl DM_survey (hr.mono (by decide)) (pa_cons (pv 1) pa_nil)))))))))))), ?_⟩
    have k : Ou C PT H g Q (VbhoamNeutral.step s (mkRaw c ts row)) := k
    rw [step_raw s hc htl hrow] at k
    refine ⟨_, rfl, _, rfl, _, rfl, b1, b2, c, ts, row, rfl, hc, SqL.of hb1, htl, SqL.of hb2, _, rfl, ?_⟩
    cases hok : numsOk c ts && rowOk c row with
    | false =>
      rw [hok, if_neg (by simp)] at k
      exact ⟨(by show 1 ≤ sizeLine; decide), fun p hp => k.no G (fun _ _ z => z) hp⟩
    | true =>
      rw [hok, if_pos rfl] at k
      rw [Bool.and_eq_true] at hok
      obtain ⟨hn, hro⟩ := hok
      obtain ⟨m, rfl⟩ := row_zs hro
      have GG : GS C PT H g s := ⟨dx, a, bk, as, G⟩
      have nm : ∀ {x : Str}, (x == ("guests" : Str)) = false → (x == ("lists" : Str)) = false → (x == ("booked" : Str)) = false → (gf s.likes.length a bk).lookup x = none := fun h1 h2 h3 => gf_no _ _ _ h1 h2 h3
      rw [iv_zs] at hb2
      rw [zs_len] at hr100
      refine ⟨_, rfl, rfl, _, rfl, ?_⟩
      rw [show decide (V.int ((c : Nat) : Int) = V.int 0) = (c == 0) from dec_nat c 0]
      cases e0 : (c == 0) with
      | true =>
        have e := eq_of_beq e0
        subst e
        obtain ⟨n, rfl, n1, n2⟩ := nums1 (c := 0) rfl (by decide) htl hn
        rw [iv_zs] at hb1
        have kk : Ou C PT H g Q (resOf s (.opens n)) := by
          have e : Vbhoam.step s (callOf 0 (zs [n]) (zs m)) = resOf s (.opens n) := by
            show Vbhoam.step s (.opens n) = _
            rw [step_res, if_neg (fun z => by cases z.2)]
          rw [← e]
          exact k
        exact ⟨_, rfl, g, dx, _, rfl, G.hg, nm (by decide) (by decide) (by decide), _, rfl, b1, _, 0, _, rfl, rfl, SqL.of hb1, rfl, g, n, s, rfl, by omega, I, GG, kk⟩
      | false =>
        have n0 := ne_of_beq_false e0
        rw [not_open I n0] at k
        refine ⟨_, rfl, g, C, dx, _, _, rfl, G.hg, GT.cl, GT.n_guests, gf_guests _ _ _, rfl, _, rfl, ?_⟩
        rw [show decide (V.int ((s.likes.length : Nat) : Int) = V.int 0) = (s.likes.length == 0) from dec_nat _ 0]
        by_cases ho : s.likes.length = 0
        · rw [if_pos ho] at k
          rw [ho]
          exact ⟨(by show 1 ≤ sizeLine; decide), fun p hp => k.no G (fun _ _ z => z) hp⟩
        · rw [if_neg ho] at k
          rw [show (s.likes.length == 0) = false from beq_false_of_ne ho]
          have ho1 : 1 ≤ s.likes.length := by omega
          refine ⟨_, rfl, rfl, _, rfl, ?_⟩
          rw [show decide (V.int ((c : Nat) : Int) = V.int 1) = (c == 1) from dec_nat c 1]
          cases e1 : (c == 1) with
          | true =>
            have e := eq_of_beq e1
            subst e
            obtain ⟨n, rfl, n1, n2⟩ := nums1 (c := 1) rfl (by decide) htl hn
            rw [iv_zs] at hb1
            exact ⟨_, rfl, g, dx, _, rfl, G.hg, nm (by decide) (by decide) (by decide), _, rfl, b1, _, 0, _, rfl, rfl, SqL.of hb1, rfl, _, rfl, g, b2, n, s, m, rfl, by omega, hr100, I, GG, hb2, k⟩
          | false =>
            have nn1 := ne_of_beq_false e1
            have hls := DD.ls c hc
            refine ⟨_, rfl, _, rfl, _, rfl, ?_⟩
            cases hL : longest c with
            | some nL =>
              rw [hL] at hls
              obtain ⟨t, ht⟩ := hls
              rw [ht]
              have hcs : c = 4 ∨ c = 5 ∨ c = 10 ∨ c = 13 ∨ c = 11 := by
                match c, hc, hL, nn1 with
                | 1, _, _, n => exact absurd rfl n
                | 4, _, _, _ => exact .inl rfl
                | 5, _, _, _ => exact .inr (.inl rfl)
                | 10, _, _, _ => exact .inr (.inr (.inl rfl))
                | 11, _, _, _ => exact .inr (.inr (.inr (.inr rfl)))
                | 13, _, _, _ => exact .inr (.inr (.inr (.inl rfl)))
              obtain ⟨tn, rfl, hcs⟩ : ∃ tn, ts = zs tn ∧ (c = 4 ∨ c = 5 ∨ c = 10 ∨ c = 13 ∨ (c = 11 ∧ ∃ n, tn = [n])) := by
                rcases hcs with rfl | rfl | rfl | rfl | rfl
                · exact ⟨[], nums0 rfl htl, .inl rfl⟩
                · exact ⟨[], nums0 rfl htl, .inr (.inl rfl)⟩
                · exact ⟨[], nums0 rfl htl, .inr (.inr (.inl rfl))⟩
                · exact ⟨[], nums0 rfl htl, .inr (.inr (.inr (.inl rfl)))⟩
                · obtain ⟨n, rfl, n1, n2⟩ := nums1 (c := 11) rfl (by decide) htl hn
                  exact ⟨[n], rfl, .inr (.inr (.inr (.inr ⟨rfl, n, rfl⟩)))⟩
              rw [iv_zs] at hb1
              exact ⟨_, rfl, g, dx, _, rfl, G.hg, nm (by decide) (by decide) (by decide), _, rfl, _, rfl, _, rfl, g, b1, b2, c, tn, m, s, rfl, hcs, hb1, hb2, hr100, I, GG, k⟩
            | none =>
              rw [hL] at hls
              have hls : lv.lookup (c : Int) = none := hls
              rw [hls]
              have hm0 : zs m = [] := hrow hL
              rw [hm0] at k
              refine ⟨_, rfl, rfl, _, rfl, ?_⟩
              rw [show decide (V.int ((c : Nat) : Int) = V.int 8) = (c == 8) from dec_nat c 8]
              cases e8 : (c == 8) with
              | true =>
                have e := eq_of_beq e8
                subst e
                obtain ⟨n, rfl, n1, n2⟩ := nums1 (c := 8) rfl (by decide) htl hn
                rw [iv_zs] at hb1
                exact ⟨_, rfl, g, dx, _, rfl, G.hg, nm (by decide) (by decide) (by decide), _, rfl, _, rfl, g, b1, 8, [n], s, rfl, .inl ⟨rfl, n, rfl⟩, fun t ht => by rw [List.mem_singleton.mp ht]; omega, hb1, I, GG, k⟩
              | false =>
                refine ⟨_, rfl, rfl, _, rfl, ?_⟩
                rw [show decide (V.int ((c : Nat) : Int) = V.int 9) = (c == 9) from dec_nat c 9]
                cases e9 : (c == 9) with
                | true =>
                  have e := eq_of_beq e9
                  subst e
                  obtain ⟨x, y, z, rfl, x1, y1, z1⟩ := nums3 (c := 9) rfl (by decide) (by decide) (by decide) htl hn
                  rw [iv_zs] at hb1
                  refine ⟨_, rfl, g, dx, _, rfl, G.hg, nm (by decide) (by decide) (by decide), _, rfl, _, rfl, g, b1, 9, [x, y, z], s, rfl, .inr ⟨rfl, x, y, z, rfl⟩, fun t ht => ?_, hb1, I, GG, k⟩
                  simp only [List.mem_cons, List.not_mem_nil, or_false] at ht
                  omega
                | false =>
                  refine ⟨_, rfl, rfl, _, rfl, ?_⟩
                  rw [show decide (V.int ((c : Nat) : Int) = V.int 6) = (c == 6) from dec_nat c 6]
                  cases e6 : (c == 6) with
                  | true =>
                    have e := eq_of_beq e6
                    subst e
                    obtain ⟨n, rfl, n1, n2⟩ := nums1 (c := 6) rfl (by decide) htl hn
                    rw [iv_zs] at hb1
                    exact ⟨_, rfl, g, dx, _, rfl, G.hg, nm (by decide) (by decide) (by decide), _, rfl, _, rfl, g, b1, 6, [n], s, rfl, .inl ⟨rfl, n, by omega, rfl⟩, hb1, I, GG, k⟩
                  | false =>
                    refine ⟨_, rfl, rfl, _, rfl, ?_⟩
                    rw [show decide (V.int ((c : Nat) : Int) = V.int 12) = (c == 12) from dec_nat c 12]
                    cases e12 : (c == 12) with
                    | true =>
                      have e := eq_of_beq e12
                      subst e
                      obtain ⟨x, y, z, rfl, x1, y1, z1⟩ := nums3 (c := 12) rfl (by decide) (by decide) (by decide) htl hn
                      rw [iv_zs] at hb1
                      exact ⟨_, rfl, g, dx, _, rfl, G.hg, nm (by decide) (by decide) (by decide), _, rfl, _, rfl, g, b1, 12, [x, y, z], s, rfl, .inr ⟨rfl, x, y, z, by omega, rfl⟩, hb1, I, GG, k⟩
                    | false =>
                      refine ⟨_, rfl, rfl, _, rfl, ?_⟩
                      rw [show decide (V.int ((c : Nat) : Int) = V.int 14) = (c == 14) from dec_nat c 14]
                      cases e14 : (c == 14) with
                      | true =>
                        have e := eq_of_beq e14
                        subst e
                        have et := nums0 (c := 14) rfl htl
                        subst et
                        rw [iv_zs] at hb1
                        exact ⟨_, rfl, g, dx, _, rfl, G.hg, nm (by decide) (by decide) (by decide), _, rfl, _, rfl, g, b1, 14, [], s, rfl, .inl ⟨rfl, rfl⟩, hb1, ho1, I, GG, k⟩
                      | false =>
                        refine ⟨_, rfl, rfl, _, rfl, ?_⟩
                        rw [show decide (V.int ((c : Nat) : Int) = V.int 15) = (c == 15) from dec_nat c 15]
                        cases e15 : (c == 15) with
                        | true =>
                          have e := eq_of_beq e15
                          subst e
                          obtain ⟨x, y, rfl, x1, y1⟩ := nums2 (c := 15) rfl (by decide) (by decide) htl hn
                          rw [iv_zs] at hb1
                          exact ⟨_, rfl, g, dx, _, rfl, G.hg, nm (by decide) (by decide) (by decide), _, rfl, _, rfl, g, b1, 15, [x, y], s, rfl, .inr ⟨rfl, x, y, by omega, by omega, rfl⟩, hb1, ho1, I, GG, k⟩
                        | false =>
                          have hcs : c = 2 ∨ c = 3 ∨ c = 7 ∨ c = 16 := by
                            have n8 := ne_of_beq_false e8
                            have n9 := ne_of_beq_false e9
                            have n6 := ne_of_beq_false e6
                            have n12 := ne_of_beq_false e12
                            have n14 := ne_of_beq_false e14
                            have n15 := ne_of_beq_false e15
                            have m4 : c ≠ 4 := fun z => by rw [z] at hL; cases hL
                            have m5 : c ≠ 5 := fun z => by rw [z] at hL; cases hL
                            have m10 : c ≠ 10 := fun z => by rw [z] at hL; cases hL
                            have m11 : c ≠ 11 := fun z => by rw [z] at hL; cases hL
                            have m13 : c ≠ 13 := fun z => by rw [z] at hL; cases hL
                            omega
                          have et : ts = [] := by
                            rcases hcs with rfl | rfl | rfl | rfl <;> exact len0 htl
                          subst et
                          exact ⟨_, rfl, g, dx, _, rfl, G.hg, nm (by decide) (by decide) (by decide), _, rfl, g, c, s, rfl, hcs, ho1, I, GG, k⟩
/-- the whole program, from what the text holds -/
theorem all_answers {C PT c f : Addr} {fd : FuncData} {rv lv : List (Int × Value)} (T : Txt K mg) (DD : Dicts K mg rv lv) (GT : GTx K mg C) (F1 : Fun K "answers" "answers" s_answers f fd)
    (F0 : AtC K mg "best_first" s_best_first ["lists", "guest", "others"] c) (hC : PySem.W.CodeHd base c PT) (hB : base.BuiltinsAt mg PT)
    (m_init : AtI K C "Group.__init__" s_Group___init__ ["self"]) (m_answer : AtM K C "answer" "Group.answer" s_Group_answer ["self", "call", "told", "row"]) (m_begin : AtM K C "begin" "Group.begin" s_Group_begin ["self", "guests"])
    (m_take_list : AtM K C "take_list" "Group.take_list" s_Group_take_list ["self", "guest", "others"]) (m_judge : AtM K C "judge" "Group.judge" s_Group_judge ["self", "call", "told", "row"]) (m_book : AtM K C "book" "Group.book" s_Group_book ["self", "pairing"])
    (m_choose : AtM K C "choose" "Group.choose" s_Group_choose ["self", "call", "places"]) (m_ask_guest : AtM K C "ask_guest" "Group.ask_guest" s_Group_ask_guest ["self", "call", "told"]) (m_prefer : AtM K C "prefer" "Group.prefer" s_Group_prefer ["self", "guest", "one", "other"])
    (m_look_up_booked : AtM K C "look_up_booked" "Group.look_up_booked" s_Group_look_up_booked ["self", "call", "told"]) (m_bring_together : AtM K C "bring_together" "Group.bring_together" s_Group_bring_together ["self", "one", "other"]) (m_survey : AtM K C "survey" "Group.survey" s_Group_survey ["self", "call"]) :
    FnOk P w K mg base CX0 10 f fd ["calls"] (spAll PT K) :=
  ok_answers T DD GT (grp C PT) F1 (d_init T GT m_init) (d_answer T DD GT (d_begin T GT m_begin) (d_take_list T GT m_take_list) (d_judge T GT (d_book T GT m_book) m_judge) (d_choose T GT F0 hC hB m_choose) (d_ask_guest T GT F0 hC hB (d_prefer T GT m_prefer) m_ask_guest) (d_look_up_booked T GT (d_bring_together T GT m_bring_together) m_look_up_booked) (d_survey T GT m_survey) m_answer)
end
end Rs
end
section
set_option Elab.async false
set_option linter.all false
set_option maxRecDepth 100000
/-! What the top has written, fact by fact. -/
namespace Rs
open PySem PySem.Spec PyProof.Rows L2
section
variable {K : PySem.W.Frag} {h : Heap} {mg : Str → Option Value} {f C : Addr} {oc : Value} {od an : Option Addr} {osl : Array (Option Value)} {kV doc pm cdv ct : Value} {Goal : Prop}
theorem use_at (x : Str) (st : Stmt) (ps : List Str)
    (X : K.In h) (G : h.Ns mainGlobals mg) (a : PySem.W.nsIn K mainGlobals x = some (some (.ref f)))
    (l : K.lookup f = some ⟨oc, od, .func (PySem.W.fnOf x x (defArgs st) (defBody st) (defScope st) .none kV doc pm an cdv ct), osl⟩)
    (c : PySem.W.codeIn K cdv x = true) (k : PySem.W.keepIn K (.ref f) = true)
    (b : ∀ (kV doc pm : Value) (an : Option Addr) (cdv ct : Value) (us : List Value), us.length = ps.length → bindArgs (PySem.W.fnOf x x (defArgs st) (defBody st) (defScope st) .none kV doc pm an cdv ct) ⟨us, []⟩ = pure (ps.zip us))
    (cont : At K mg x st ps → Goal) : Goal :=
  let F := fun_mk (st := st) l c k
  cont ⟨f, _, F, PySem.W.mg_of X G a, F.binds b⟩
theorem use_atC {cd : Addr} (x : Str) (st : Stmt) (ps : List Str)
    (X : K.In h) (G : h.Ns mainGlobals mg) (a : PySem.W.nsIn K mainGlobals x = some (some (.ref f)))
    (l : K.lookup f = some ⟨oc, od, .func (PySem.W.fnOf x x (defArgs st) (defBody st) (defScope st) .none kV doc pm an (.ref cd) ct), osl⟩)
    (c : PySem.W.codeIn K (.ref cd) x = true) (k : PySem.W.keepIn K (.ref f) = true)
    (b : ∀ (kV doc pm : Value) (an : Option Addr) (cdv ct : Value) (us : List Value), us.length = ps.length → bindArgs (PySem.W.fnOf x x (defArgs st) (defBody st) (defScope st) .none kV doc pm an cdv ct) ⟨us, []⟩ = pure (ps.zip us))
    (cont : AtC K mg x st ps cd → Goal) : Goal :=
  let F := fun_mk (st := st) l c k
  cont ⟨f, _, F, PySem.W.mg_of X G a, F.binds b, rfl⟩
theorem AtC.at_ {x : Str} {st : Stmt} {ps : List Str} {cd : Addr} (F : AtC K mg x st ps cd) : At K mg x st ps := by
  obtain ⟨f, fd, h1, h2, h3, _⟩ := F.ex
  exact ⟨f, fd, h1, h2, h3⟩
/-- the def that is called from outside -/
structure AtA (K : PySem.W.Frag) (mg : Str → Option Value) (x : Str) (st : Stmt) (ps : List Str) : Prop where
  ex : ∃ (f : Addr) (fd : FuncData), Fun K x x st f fd ∧ mg x = some (.ref f) ∧ Binds K fd ps [] ∧ ∀ (s : Shared) (us : List Value), us.length = ps.length → BindsTo s fd ⟨us, []⟩ (ps.zip us)
theorem AtA.at_ {x : Str} {st : Stmt} {ps : List Str} (F : AtA K mg x st ps) : At K mg x st ps := by
  obtain ⟨f, fd, h1, h2, h3, _⟩ := F.ex
  exact ⟨f, fd, h1, h2, h3⟩
theorem use_atA (x : Str) (st : Stmt) (ps : List Str)
    (X : K.In h) (G : h.Ns mainGlobals mg) (a : PySem.W.nsIn K mainGlobals x = some (some (.ref f)))
    (l : K.lookup f = some ⟨oc, od, .func (PySem.W.fnOf x x (defArgs st) (defBody st) (defScope st) .none kV doc pm an cdv ct), osl⟩)
    (c : PySem.W.codeIn K cdv x = true) (k : PySem.W.keepIn K (.ref f) = true)
    (b : ∀ (kV doc pm : Value) (an : Option Addr) (cdv ct : Value) (us : List Value), us.length = ps.length → bindArgs (PySem.W.fnOf x x (defArgs st) (defBody st) (defScope st) .none kV doc pm an cdv ct) ⟨us, []⟩ = pure (ps.zip us))
    (cont : AtA K mg x st ps → Goal) : Goal :=
  let F := fun_mk (st := st) l c k
  cont ⟨f, _, F, PySem.W.mg_of X G a, F.binds b, fun _ us hl => .of_eq (b _ _ _ _ _ _ us hl)⟩
/-- the end of the head -/
theorem head_end {P : Program} {w : World} {fa PT c : Addr} {kk : Nat} (F : AtA K mg "answers" s_answers ["calls"]) (hmg : mg "answers" = some (.ref fa)) (C0 : PySem.W.CodeHd h c PT) (P0 : h.get? PT = some (PySem.W.tabObj #[])) (N0 : K.lookup PT = none) (ci : PySem.W.codeHdIn K c PT = true) (np : PT ≠ mainGlobals)
    (bm : ∃ bm ob, mg "__builtins__" = some (.ref bm) ∧ bm ≠ builtinsNs ∧ h.get? bm = some ob ∧ ob.cls = .type "module" ∧ ob.dict = some builtinsNs ∧ ob.data = .plain) (G : h.Ns mainGlobals mg)
    (D : ∀ (fd : FuncData) (base : Heap), Fun K "answers" "answers" s_answers fa fd → K.In base → base.BuiltinsAt mg PT → PySem.W.CodeHd base c PT → FnOk P w K mg base CX0 kk fa fd ["calls"] (spAll PT K)) :
    ∃ (c0 PT : Addr) (fd : FuncData), PySem.W.CodeHd h c0 PT ∧ h.get? PT = some (PySem.W.tabObj #[]) ∧ K.lookup PT = none ∧ (∀ (s : Shared) (us : List Value), us.length = (["calls"] : List Str).length → BindsTo s fd ⟨us, []⟩ ((["calls"] : List Str).zip us)) ∧
      ∀ base : Heap, K.In base → base.Ns mainGlobals mg → (∀ b o, h.get? b = some o → o.cls = .type "module" → base.get? b = some o) → FnOk P w K mg base CX0 kk fa fd ["calls"] (spAll PT K) := by
  obtain ⟨f, fd, h1, h2, _, h4⟩ := F.ex
  rw [h2] at hmg
  cases hmg
  refine ⟨c, PT, fd, C0, P0, N0, h4, fun base hK _ hm => D fd base h1 hK ?_ (PySem.W.codeHd_of_K hK ci)⟩
  obtain ⟨bm, ob, b1, b2, b3, b4, b5, b6⟩ := bm
  refine ⟨bm, ob, b1, b2, fun e => ?_, fun e => ?_, hm _ _ b3 b4, b4, b5, b6⟩
  · obtain ⟨o, es, ep, e1, e2, _⟩ := G
    rw [e, e1] at b3
    cases b3
    rw [e2] at b6
    cases b6
  · rw [e, P0] at b3
    cases b3
    cases b4
theorem use_gi {i : Int} {t : Tok} (x : Str) (X : K.In h) (G : h.Ns mainGlobals mg) (a : PySem.W.nsIn K mainGlobals x = some (some (.int i t))) (cont : GI mg x i → Goal) : Goal := cont ⟨t, PySem.W.mg_of X G a⟩
theorem use_no (x : Str) (X : K.In h) (G : h.Ns mainGlobals mg) (a : PySem.W.nsIn K mainGlobals x = some none) (cont : mg x = none → Goal) : Goal := cont (PySem.W.mg_none_of X G a)
theorem use_cls (x : Str) (X : K.In h) (G : h.Ns mainGlobals mg) (a : PySem.W.nsIn K mainGlobals x = some (some (.ref C)))
    (pg : PySem.W.plainGet K C Str.empty = true) (hd : PySem.W.hasDictIn K C = true) (po : PySem.W.plainOver K C = true) (sa : PySem.W.findIn K (.ref C) "__setattr__" = some (some (.builtin "object.__setattr__")))
    (cont : mg x = some (.ref C) ∧ Cls K C → Goal) : Goal := cont ⟨PySem.W.mg_of X G a, pg, hd, po, sa⟩
theorem use_meth (hc : Cls K C) (x qual : Str) (st : Stmt) (ps : List Str)
    (a : PySem.W.findIn K (.ref C) x = some (some (.ref f))) (i : PySem.W.isFn K (.ref f) = true)
    (l : K.lookup f = some ⟨oc, od, .func (PySem.W.fnOf x qual (defArgs st) (defBody st) (defScope st) .none kV doc pm an cdv ct), osl⟩)
    (c : PySem.W.codeIn K cdv qual = true) (k : PySem.W.keepIn K (.ref f) = true)
    (b : ∀ (kV doc pm : Value) (an : Option Addr) (cdv ct : Value) (us : List Value), us.length = ps.length → bindArgs (PySem.W.fnOf x qual (defArgs st) (defBody st) (defScope st) .none kV doc pm an cdv ct) ⟨us, []⟩ = pure (ps.zip us))
    (cont : AtM K C x qual st ps → Goal) : Goal :=
  let F := fun_mk (st := st) l c k
  cont ⟨f, _, F, ⟨a, i, k⟩, F.binds b⟩
theorem use_init (hc : Cls K C) (qual : Str) (st : Stmt) (ps : List Str)
    (a : PySem.W.findIn K (.ref C) "__init__" = some (some (.ref f))) (i : PySem.W.isFn K (.ref f) = true)
    (l : K.lookup f = some ⟨oc, od, .func (PySem.W.fnOf "__init__" qual (defArgs st) (defBody st) (defScope st) .none kV doc pm an cdv ct), osl⟩)
    (c : PySem.W.codeIn K cdv qual = true) (k : PySem.W.keepIn K (.ref f) = true) (mk : PySem.W.makesIn K C = true) (kc : PySem.W.keepIn K (.ref C) = true)
    (b : ∀ (kV doc pm : Value) (an : Option Addr) (cdv ct : Value) (us : List Value), us.length = ps.length → bindArgs (PySem.W.fnOf "__init__" qual (defArgs st) (defBody st) (defScope st) .none kV doc pm an cdv ct) ⟨us, []⟩ = pure (ps.zip us))
    (cont : AtI K C qual st ps → Goal) : Goal :=
  let F := fun_mk (st := st) l c k
  cont ⟨f, _, F, ⟨mk, a, i, kc⟩, F.binds b⟩
theorem use_none (hc : Cls K C) (x : Str) (a : PySem.W.findIn K (.ref C) x = some none) (cont : NoAttr K C x → Goal) : Goal := cont a
theorem use_dicts {rd ld : Addr} {es ls : Array DictEntry} {n n' : Nat} (X : K.In h) (G : h.Ns mainGlobals mg) (a : PySem.W.nsIn K mainGlobals "NUMBER_RANGES" = some (some (.ref rd))) (a2 : PySem.W.nsIn K mainGlobals "LONGEST_ROWS" = some (some (.ref ld)))
    (l : K.lookup rd = some { cls := .type "dict", data := .dict es n }) (l2 : K.lookup ld = some { cls := .type "dict", data := .dict ls n' }) (s : (rd == sysModules) = false) (s2 : (ld == sysModules) = false) (ok : dictsOk K es.toList ls.toList = true)
    (cont : (∃ rv lv, Dicts K mg rv lv) → Goal) : Goal := cont (dicts_mk (PySem.W.mg_of X G a) (PySem.W.mg_of X G a2) s s2 l l2 ok)
end
end Rs
end
set_option Elab.async false
namespace PySem.W.Fast
theorem tw9703311983593216435 : True := trivial
theorem tw6274346646931807859 : True := trivial
theorem tw3749750453460255086 : True := trivial
theorem tw10984681820780189528 : True := trivial
theorem tw12216588237665164902 : True := trivial
theorem tw14117908895612131214 : True := trivial
theorem tw4074602294305833236 : True := trivial
theorem tw8326990372026894772 : True := trivial
theorem tw15020376721409010296 : True := trivial
theorem tw6937136337781975083 : True := trivial
theorem tw3242194120753459717 : True := trivial
theorem tw517892482554590946 : True := trivial
theorem tw8614116462455718204 : True := trivial
theorem tw12525126221312014145 : True := trivial
theorem tw17697270652460124139 : True := trivial
theorem tw17901544476381427955 : True := trivial
theorem tw6945186078235613575 : True := trivial
theorem tw1104519570635805765 : True := trivial
theorem tw13424369786983808947 : True := trivial
theorem tw8620988550584607485 : True := trivial
theorem tw17667077260973980908 : True := trivial
theorem tw2479400029374793622 : True := trivial
theorem tw16192640978442797868 : True := trivial
theorem tw11849968182585341908 : True := trivial
theorem tw8013116404225241459 : True := trivial
theorem tw10904744309714751841 : True := trivial
theorem tw2033154113416825001 : True := trivial
theorem tw6482622002116556892 : True := trivial
theorem tw6325322554192307347 : True := trivial
theorem tw7105312261076758924 : True := trivial
theorem tw1224960808435212536 : True := trivial
theorem tw11479497935395982233 : True := trivial
theorem tw8243347566062876672 : True := trivial
theorem tw16518280110068140491 : True := trivial
theorem tw11258134064396413365 : True := trivial
theorem tw4971269427221628766 : True := trivial
theorem tw9876860964443875187 : True := trivial
theorem tw16893916104276072117 : True := trivial
theorem tw569496677047829177 : True := trivial
theorem tw11715424524802283076 : True := trivial
theorem tw4119292241244331282 : True := trivial
theorem tw13840912686305466066 : True := trivial
theorem tw4042356397025274673 : True := trivial
theorem tw11403162585911815057 : True := trivial
theorem tw10420972800791359445 : True := trivial
theorem tw17947232907701740032 : True := trivial
theorem tw9805690084018412882 : True := trivial
theorem tw6708418539082633837 : True := trivial
theorem tw18240966632903068463 : True := trivial
theorem tw3201308267612491644 : True := trivial
theorem tw18059449573587369034 : True := trivial
theorem tw16706185294747077029 : True := trivial
theorem tw16987106959037403885 : True := trivial
theorem tw16039577285430520127 : True := trivial
theorem tw14060782953645931924 : True := trivial
theorem tw6246245470564053765 : True := trivial
theorem tw11827272014668424034 : True := trivial
theorem tw9477217991910099052 : True := trivial
theorem tw10385394753448596512 : True := trivial
theorem tw6528226289007678755 : True := trivial
theorem tw13383455986120711448 : True := trivial
theorem tw5310701253154979363 : True := trivial
theorem tw13821300195262290906 : True := trivial
theorem tw5180113249712215596 : True := trivial
theorem tw14404093051471556398 : True := trivial
theorem tw14351939572191789445 : True := trivial
theorem tw18173166251358906355 : True := trivial
theorem tw12588630598995979670 : True := trivial
theorem tw1240604557164410924 : True := trivial
theorem tw15126292114993012737 : True := trivial
theorem tw8291884369691431359 : True := trivial
theorem tw812584622904744821 : True := trivial
theorem tw17473891553038109096 : True := trivial
theorem tw7735420424493660457 : True := trivial
theorem tw9159628352060597991 : True := trivial
theorem tw71613641462679082 : True := trivial
theorem tw1029740660941721706 : True := trivial
theorem tw10791169954433444891 : True := trivial
theorem tw8651931310124919886 : True := trivial
theorem tw15409063967500517610 : True := trivial
theorem tw6223513796606360883 : True := trivial
theorem tw3041915161950499722 : True := trivial
theorem tw15644557993918941562 : True := trivial
theorem tw11307273667193981412 : True := trivial
theorem tw13825164456802430779 : True := trivial
theorem tw16323072641249848512 : True := trivial
theorem tw12003520800152297727 : True := trivial
theorem tw3857567866529934565 : True := trivial
theorem tw5723954437265167391 : True := trivial
theorem tw930144000797317505 : True := trivial
theorem tw2475326649727297252 : True := trivial
theorem tw15862476622197636579 : True := trivial
theorem tw11039770505496853731 : True := trivial
theorem tw10856434079467952905 : True := trivial
theorem tw10917330058646919497 : True := trivial
theorem tw13557519905792581081 : True := trivial
theorem tw13794369304349392259 : True := trivial
theorem tw349875552260753634 : True := trivial
theorem tw11377629764537887112 : True := trivial
theorem tw2407880155307306451 : True := trivial
theorem tw15859235625109356723 : True := trivial
theorem tw5677263630730471551 : True := trivial
theorem tw13031444068034078569 : True := trivial
theorem tw9604415767726743045 : True := trivial
theorem tw15266286652439233880 : True := trivial
theorem tw1074439457692817538 : True := trivial
theorem tw11472563874086268115 : True := trivial
theorem tw1436001122178315718 : True := trivial
theorem tw2468351680030101793 : True := trivial
theorem tw15201246780606052542 : True := trivial
theorem tw17196256936084667847 : True := trivial
theorem tw14666699255745090084 : True := trivial
theorem tw11846707676847733773 : True := trivial
theorem tw10450430113835117660 : True := trivial
theorem tw1307890375384906877 : True := trivial
theorem tw16414362925306488206 : True := trivial
theorem tw17741955766857239730 : True := trivial
theorem tw11141105603384915508 : True := trivial
theorem tw1909397596651636431 : True := trivial
theorem tw1275482525138401454 : True := trivial
theorem tw5013598348935183684 : True := trivial
theorem tw13985002050243627383 : True := trivial
theorem tw11201669516425752210 : True := trivial
theorem tw9685164970263655213 : True := trivial
theorem tw8355010155629659057 : True := trivial
theorem tw6900680024885655429 : True := trivial
theorem tw14635186621833857584 : True := trivial
theorem tw14394599292399793282 : True := trivial
theorem tw1380986405240837678 : True := trivial
theorem tw12306612318194538762 : True := trivial
theorem tw11770532908406302826 : True := trivial
theorem tw18193639346031751660 : True := trivial
theorem tw12334062719176447408 : True := trivial
theorem tw577883806715992075 : True := trivial
theorem tw14106301166665475237 : True := trivial
theorem tw2455457046775308125 : True := trivial
theorem tw1733833585061247141 : True := trivial
theorem tw1692031019520564089 : True := trivial
theorem tw14132945405706150454 : True := trivial
theorem tw12685448808574134775 : True := trivial
theorem tw4985607744506448098 : True := trivial
theorem tw5389248032308660995 : True := trivial
theorem tw15335450574670117085 : True := trivial
theorem tw16864074699411921878 : True := trivial
theorem tw8936169754139305333 : True := trivial
theorem tw5120969244820878606 : True := trivial
theorem tw15908078360381073921 : True := trivial
theorem tw12132757300364333360 : True := trivial
theorem tw8057164749475014128 : True := trivial
theorem tw6353372809012516285 : True := trivial
theorem tw740549211662198474 : True := trivial
theorem tw14835990627754434400 : True := trivial
theorem tw894772487723460101 : True := trivial
theorem tw1989031384121433585 : True := trivial
theorem tw3782968036919312640 : True := trivial
theorem tw6909106465045029485 : True := trivial
theorem tw18106838601614524590 : True := trivial
theorem tw5829381966225624892 : True := trivial
theorem tw5774889532160644207 : True := trivial
theorem tw12170539377954675765 : True := trivial
theorem tw15138254113130728004 : True := trivial
theorem tw13712703994834669968 : True := trivial
theorem tw14767364655608084134 : True := trivial
theorem tw9388977321260506429 : True := trivial
theorem tw13293146058169711260 : True := trivial
theorem tw13149999202151900351 : True := trivial
theorem tw17298003419144047211 : True := trivial
theorem tw16521983729846724125 : True := trivial
theorem tw9614458352587019679 : True := trivial
theorem tw4839173625852266595 : True := trivial
theorem tw16359316764150096896 : True := trivial
theorem tw1750589238350542124 : True := trivial
theorem tw6854962023594006664 : True := trivial
theorem tw10526933776358070162 : True := trivial
theorem tw5474371436430450310 : True := trivial
theorem tw1499110907475781540 : True := trivial
theorem tw14742899344454095058 : True := trivial
theorem tw3139601173608148669 : True := trivial
theorem tw17557314448106908007 : True := trivial
theorem tw8280340276952123903 : True := trivial
theorem tw18395148236774708224 : True := trivial
theorem tw16324027998769865438 : True := trivial
theorem tw3683346338971255186 : True := trivial
theorem tw373842783505936599 : True := trivial
theorem tw11005337814626013604 : True := trivial
theorem tw10060856636679516916 : True := trivial
theorem tw5141595094313525686 : True := trivial
theorem tw12047922393137342424 : True := trivial
theorem tw7617320749123847355 : True := trivial
theorem tw4023713089005165263 : True := trivial
theorem tw13435632544273729243 : True := trivial
theorem tw3197423568155696486 : True := trivial
theorem tw12330885674540568627 : True := trivial
theorem tw4285995675707168175 : True := trivial
theorem tw8302636311127778433 : True := trivial
theorem tw17328835531347974684 : True := trivial
theorem tw12161600758355228967 : True := trivial
theorem tw4960722971106063073 : True := trivial
theorem tw13753951589549295317 : True := trivial
theorem tw7361522654994724622 : True := trivial
theorem tw15704745462628816722 : True := trivial
theorem tw11535564170071525637 : True := trivial
theorem tw13016691861811255268 : True := trivial
theorem tw10073795176903749484 : True := trivial
theorem tw2340227341724517604 : True := trivial
theorem tw3294293812065565191 : True := trivial
theorem tw4991220297193232439 : True := trivial
theorem tw8074098468474589209 : True := trivial
theorem tw5886299088802741373 : True := trivial
theorem tw2051632906717741044 : True := trivial
theorem tw5107791480616979034 : True := trivial
theorem tw3453169025800531333 : True := trivial
theorem tw9682314816705503207 : True := trivial
theorem tw16812532970986115343 : True := trivial
theorem tw9101121080871538490 : True := trivial
theorem tw14735394784173343487 : True := trivial
theorem tw6379625246760008349 : True := trivial
theorem tw3118919332683338174 : True := trivial
theorem tw941632289092528445 : True := trivial
theorem tw2662101763798325027 : True := trivial
theorem tw12348676724293974861 : True := trivial
theorem tw10770050725003971487 : True := trivial
theorem tw3234152746444348144 : True := trivial
theorem tw15912382219241535060 : True := trivial
theorem tw2763944090146011251 : True := trivial
theorem tw5741209159009747049 : True := trivial
theorem tw14046080266835242590 : True := trivial
theorem tw6369762949119089404 : True := trivial
theorem tw1032936607321140693 : True := trivial
theorem tw2550492003047589529 : True := trivial
theorem tw3945751610086756624 : True := trivial
theorem tw17817974403605730909 : True := trivial
theorem tw1995737715955550747 : True := trivial
theorem tw14610332487144783490 : True := trivial
theorem tw14775012569784356435 : True := trivial
theorem tw7577021717055768657 : True := trivial
theorem tw11202534995272286744 : True := trivial
theorem tw3960382087444332528 : True := trivial
theorem tw3439541627720553987 : True := trivial
theorem tw9618896095935636679 : True := trivial
theorem tw5011523293620550860 : True := trivial
theorem tw8677801888554229462 : True := trivial
theorem tw14079462416734918534 : True := trivial
theorem tw9895710871342853240 : True := trivial
theorem tw17568587602179772362 : True := trivial
theorem tw2624297730183476161 : True := trivial
theorem tw778662919811411474 : True := trivial
theorem tw4638047757616481079 : True := trivial
theorem tw16296151726462035271 : True := trivial
theorem tw16867305727345842018 : True := trivial
theorem tw18236717300007401602 : True := trivial
theorem tw8949281066449535191 : True := trivial
theorem tw2802188433093099132 : True := trivial
theorem tw11682016037937940641 : True := trivial
theorem tw14726519258820182724 : True := trivial
theorem tw11013746842270374881 : True := trivial
theorem tw352534655068352589 : True := trivial
theorem tw15310269303103681450 : True := trivial
theorem tw14209770522989174328 : True := trivial
theorem tw5184502402735306005 : True := trivial
theorem tw17058617412139859933 : True := trivial
theorem tw8990615302177513034 : True := trivial
theorem tw15042327238113505433 : True := trivial
theorem tw1961831292877346044 : True := trivial
theorem tw17566181047741618405 : True := trivial
theorem tw13434738000716387081 : True := trivial
theorem tw16822612539963464164 : True := trivial
theorem tw10811251282716216766 : True := trivial
theorem tw17925762887863917689 : True := trivial
theorem tw4478656128297314667 : True := trivial
theorem tw9308524171461544040 : True := trivial
theorem tw9707923999122784723 : True := trivial
theorem tw15495198347627782640 : True := trivial
theorem tw18012705317042054772 : True := trivial
theorem tw16883420224323888845 : True := trivial
theorem tw13306657501199729064 : True := trivial
theorem tw8657783608840452824 : True := trivial
theorem tw11688269144167743429 : True := trivial
theorem tw15790747634313594528 : True := trivial
theorem tw5432136310995189270 : True := trivial
theorem tw5896923695377696130 : True := trivial
theorem tw10909674671194768923 : True := trivial
theorem tw8676449697698999367 : True := trivial
theorem tw4469531124369277616 : True := trivial
theorem tw2187185494557276053 : True := trivial
theorem tw10074029277478215164 : True := trivial
theorem tw5068038794494574531 : True := trivial
theorem tw18136461673208696457 : True := trivial
theorem tw16014326708396927399 : True := trivial
theorem tw15818021959230895436 : True := trivial
theorem tw17887323202539369678 : True := trivial
theorem tw6596458644755634056 : True := trivial
theorem tw332535138816392467 : True := trivial
theorem tw2417967015142228550 : True := trivial
theorem tw1315497112008817887 : True := trivial
theorem tw15077018166071368608 : True := trivial
theorem tw4067026601565839410 : True := trivial
theorem tw1605628990711881989 : True := trivial
theorem tw1580493580506903603 : True := trivial
theorem tw12230679249685313113 : True := trivial
theorem tw10203799600643823575 : True := trivial
theorem tw11062411814817263625 : True := trivial
theorem tw5269755186143419468 : True := trivial
theorem tw15600268851681891320 : True := trivial
theorem tw14583782804030472621 : True := trivial
theorem tw12552547404255133147 : True := trivial
theorem tw6927536765840169306 : True := trivial
theorem tw16979507571320216601 : True := trivial
theorem tw17662040175558568977 : True := trivial
theorem tw10233556947782201996 : True := trivial
theorem tw14104106492007331953 : True := trivial
theorem tw16916857286560623125 : True := trivial
theorem tw4987739111494828908 : True := trivial
theorem tw6684049766395367825 : True := trivial
theorem tw13549732572928755501 : True := trivial
theorem tw7834980252315354792 : True := trivial
theorem tw16602521801974767356 : True := trivial
theorem tw285173686670701794 : True := trivial
theorem tw17224086892885177898 : True := trivial
theorem tw13169811432026117906 : True := trivial
theorem tw7628513256959681502 : True := trivial
theorem tw7936344605559328850 : True := trivial
theorem tw10154307668014590629 : True := trivial
theorem tw10553550764900580786 : True := trivial
theorem tw10082794013968165053 : True := trivial
theorem tw12468357315357361501 : True := trivial
theorem tw3545103233302273929 : True := trivial
theorem tw9524703909617689420 : True := trivial
theorem tw14202188144473519944 : True := trivial
theorem tw17531649167759592720 : True := trivial
theorem tw5968208692134636176 : True := trivial
theorem tw3423022925093977894 : True := trivial
theorem tw6175918661335678528 : True := trivial
theorem tw2206112961442482126 : True := trivial
theorem tw7007831738500233056 : True := trivial
theorem tw12318975504977657081 : True := trivial
theorem tw13762071897211497548 : True := trivial
theorem tw18187585511061011270 : True := trivial
theorem tw5758863351300397942 : True := trivial
theorem tw18000312119525540764 : True := trivial
theorem tw12177117886253380196 : True := trivial
theorem tw12905512043221258691 : True := trivial
theorem tw17574315343949015821 : True := trivial
theorem tw8113018574766687418 : True := trivial
theorem tw528884090560825887 : True := trivial
theorem tw12845097974416105862 : True := trivial
theorem tw15456592266290102437 : True := trivial
theorem tw17981367765368472238 : True := trivial
theorem tw12526838487369933896 : True := trivial
theorem tw15382159008777047705 : True := trivial
theorem tw12944609960349341294 : True := trivial
theorem tw9669069367265716965 : True := trivial
theorem tw12090727427245954839 : True := trivial
theorem tw2064332205029769578 : True := trivial
theorem tw9183071395774861880 : True := trivial
theorem tw9357169738097558746 : True := trivial
theorem tw2760735460021307514 : True := trivial
theorem tw6228751658509821287 : True := trivial
theorem tw4464690369599267556 : True := trivial
theorem tw2659278016960116647 : True := trivial
theorem tw8776343822011744592 : True := trivial
theorem tw7872191595865711547 : True := trivial
theorem tw6525666257397802960 : True := trivial
theorem tw8640255817973040543 : True := trivial
theorem tw2472004278952767360 : True := trivial
theorem tw13603080934187256434 : True := trivial
theorem tw6159720191762312691 : True := trivial
theorem tw3228494911629381465 : True := trivial
theorem tw17769512685419919579 : True := trivial
theorem tw18421520091804639715 : True := trivial
theorem tw4037100566296758279 : True := trivial
theorem tw14263826426378313309 : True := trivial
theorem tw2080234896318143399 : True := trivial
theorem tw1818276706283680256 : True := trivial
theorem tw10170412295472977329 : True := trivial
theorem tw10936506017149833078 : True := trivial
theorem tw10136099700145680691 : True := trivial
theorem tw11061191493141022939 : True := trivial
theorem tw12732901721645732509 : True := trivial
theorem tw16819577496302209453 : True := trivial
theorem tw8438404857427016919 : True := trivial
theorem tw15715085557725294294 : True := trivial
theorem tw4253041147320652398 : True := trivial
theorem tw7298562974542763451 : True := trivial
theorem tw7717301858604250311 : True := trivial
theorem tw10697601346804783651 : True := trivial
theorem tw17574505703670392451 : True := trivial
theorem tw5747871665924215993 : True := trivial
theorem tw12728217283466739908 : True := trivial
theorem tw13806182603184567675 : True := trivial
theorem tw5620995970652488941 : True := trivial
theorem tw2126037049659063933 : True := trivial
theorem tw15505385478717798289 : True := trivial
theorem tw1122704810089064685 : True := trivial
theorem tw5101364479020684389 : True := trivial
end PySem.W.Fast
open PySem PySem.W PyProof.Rows
set_option maxRecDepth 100000 in
set_option maxHeartbeats 0 in
theorem PySem.Challenge.cw_roomsharers_s01_answers_holds : PySem.Challenge.rw_roomsharers_s01_answers.Holds := by
  w_on; k_headS; (case hw => exact ⟨[.list [.int 2]], by decide +kernel, by decide +kernel⟩)
  k_fillS
  refine Rs.walk_specT (r := PySem.Challenge.rw_roomsharers_s01_answers) (k := 10) (CX := L2.CX0) (ps := ["calls"]) (sp := Rs.spAll) (by decide +kernel) rfl rfl ⟨rfl, by decide, by decide⟩ (fun w h Y => PySem.W.kIn_of Y) ?F ?S (fun _ _ _ _ z => z)
  case F =>
    intro w s_0 mg mb fa h G KX hmg
    refine' Rs.use_no "len" KX G.T.g ?a (fun b_len => ?_); (case a => k_is)
    refine' Rs.use_no "range" KX G.T.g ?a (fun b_range => ?_); (case a => k_is)
    refine' Rs.use_no "list" KX G.T.g ?a (fun b_list => ?_); (case a => k_is)
    refine' Rs.use_no "sorted" KX G.T.g ?a (fun b_sorted => ?_); (case a => k_is)
    refine' Rs.use_no "max" KX G.T.g ?a (fun b_max => ?_); (case a => k_is)
    refine' Rs.use_gi "BEGIN" KX G.T.g ?a (fun c_BEGIN => ?_); (case a => k_is)
    refine' Rs.use_gi "TAKE_LIST" KX G.T.g ?a (fun c_TAKE_LIST => ?_); (case a => k_is)
    refine' Rs.use_gi "PAIRS" KX G.T.g ?a (fun c_PAIRS => ?_); (case a => k_is)
    refine' Rs.use_gi "RINGS" KX G.T.g ?a (fun c_RINGS => ?_); (case a => k_is)
    refine' Rs.use_gi "CHECK" KX G.T.g ?a (fun c_CHECK => ?_); (case a => k_is)
    refine' Rs.use_gi "PROVE" KX G.T.g ?a (fun c_PROVE => ?_); (case a => k_is)
    refine' Rs.use_gi "PARTNERS" KX G.T.g ?a (fun c_PARTNERS => ?_); (case a => k_is)
    refine' Rs.use_gi "COUNT" KX G.T.g ?a (fun c_COUNT => ?_); (case a => k_is)
    refine' Rs.use_gi "NTH" KX G.T.g ?a (fun c_NTH => ?_); (case a => k_is)
    refine' Rs.use_gi "MEDIAN" KX G.T.g ?a (fun c_MEDIAN => ?_); (case a => k_is)
    refine' Rs.use_gi "BLOCKS" KX G.T.g ?a (fun c_BLOCKS => ?_); (case a => k_is)
    refine' Rs.use_gi "SETTLE" KX G.T.g ?a (fun c_SETTLE => ?_); (case a => k_is)
    refine' Rs.use_gi "PREFER" KX G.T.g ?a (fun c_PREFER => ?_); (case a => k_is)
    refine' Rs.use_gi "ROOMS" KX G.T.g ?a (fun c_ROOMS => ?_); (case a => k_is)
    refine' Rs.use_gi "JOIN" KX G.T.g ?a (fun c_JOIN => ?_); (case a => k_is)
    refine' Rs.use_gi "GREATEST_IN_ROW" KX G.T.g ?a (fun c_GREATEST_IN_ROW => ?_); (case a => k_is)
    refine' Rs.use_gi "OUT_OF_RANGE" KX G.T.g ?a (fun c_OUT_OF_RANGE => ?_); (case a => k_is)
    refine' Rs.use_gi "NOT_BEGUN" KX G.T.g ?a (fun c_NOT_BEGUN => ?_); (case a => k_is)
    refine' Rs.use_gi "BEGUN_ALREADY" KX G.T.g ?a (fun c_BEGUN_ALREADY => ?_); (case a => k_is)
    refine' Rs.use_gi "NO_SUCH_GUEST" KX G.T.g ?a (fun c_NO_SUCH_GUEST => ?_); (case a => k_is)
    refine' Rs.use_gi "WRONG_LIST" KX G.T.g ?a (fun c_WRONG_LIST => ?_); (case a => k_is)
    refine' Rs.use_gi "WRONG_LENGTH" KX G.T.g ?a (fun c_WRONG_LENGTH => ?_); (case a => k_is)
    refine' Rs.use_gi "NOT_SO_MANY" KX G.T.g ?a (fun c_NOT_SO_MANY => ?_); (case a => k_is)
    refine' Rs.use_gi "NO_PAIRING" KX G.T.g ?a (fun c_NO_PAIRING => ?_); (case a => k_is)
    refine' Rs.use_gi "NOT_WITH_ONE_ANOTHER" KX G.T.g ?a (fun c_NOT_WITH_ONE_ANOTHER => ?_); (case a => k_is)
    refine' Rs.use_gi "NOTHING_BOOKED" KX G.T.g ?a (fun c_NOTHING_BOOKED => ?_); (case a => k_is)
    refine' Rs.use_at "read_calls" Rs.s_read_calls ["numbers"] KX G.T.g ?a ?l ?c ?k ?b (fun f_read_calls => ?_)
    (case a => k_is); (case l => k_is); (case c => k_is); (case k => k_is); (case b => exact fun _ _ _ _ _ _ us hl => match us, hl with | [_], _ => rfl)
    refine' Rs.use_at "numbers_in_range" Rs.s_numbers_in_range ["call", "told"] KX G.T.g ?a ?l ?c ?k ?b (fun f_numbers_in_range => ?_)
    (case a => k_is); (case l => k_is); (case c => k_is); (case k => k_is); (case b => exact fun _ _ _ _ _ _ us hl => match us, hl with | [_, _], _ => rfl)
    refine' Rs.use_at "row_in_range" Rs.s_row_in_range ["call", "row"] KX G.T.g ?a ?l ?c ?k ?b (fun f_row_in_range => ?_)
    (case a => k_is); (case l => k_is); (case c => k_is); (case k => k_is); (case b => exact fun _ _ _ _ _ _ us hl => match us, hl with | [_, _], _ => rfl)
    refine' Rs.use_at "in_range" Rs.s_in_range ["call", "told", "row"] KX G.T.g ?a ?l ?c ?k ?b (fun f_in_range => ?_)
    (case a => k_is); (case l => k_is); (case c => k_is); (case k => k_is); (case b => exact fun _ _ _ _ _ _ us hl => match us, hl with | [_, _, _], _ => rfl)
    refine' Rs.use_at "may_share" Rs.s_may_share ["lists", "one", "other"] KX G.T.g ?a ?l ?c ?k ?b (fun f_may_share => ?_)
    (case a => k_is); (case l => k_is); (case c => k_is); (case k => k_is); (case b => exact fun _ _ _ _ _ _ us hl => match us, hl with | [_, _, _], _ => rfl)
    refine' Rs.use_at "place_on_list" Rs.s_place_on_list ["liked", "other"] KX G.T.g ?a ?l ?c ?k ?b (fun f_place_on_list => ?_)
    (case a => k_is); (case l => k_is); (case c => k_is); (case k => k_is); (case b => exact fun _ _ _ _ _ _ us hl => match us, hl with | [_, _], _ => rfl)
    refine' Rs.use_at "likes_better" Rs.s_likes_better ["lists", "guest", "one", "other"] KX G.T.g ?a ?l ?c ?k ?b (fun f_likes_better => ?_)
    (case a => k_is); (case l => k_is); (case c => k_is); (case k => k_is); (case b => exact fun _ _ _ _ _ _ us hl => match us, hl with | [_, _, _, _], _ => rfl)
    refine' Rs.use_atC "best_first" Rs.s_best_first ["lists", "guest", "others"] KX G.T.g ?a ?l ?c ?k ?b (fun f_best_first => ?_)
    (case a => k_is); (case l => k_is); (case c => k_is); (case k => k_is); (case b => exact fun _ _ _ _ _ _ us hl => match us, hl with | [_, _, _], _ => rfl)
    refine' Rs.use_at "would_rather_share" Rs.s_would_rather_share ["lists", "held", "one", "other"] KX G.T.g ?a ?l ?c ?k ?b (fun f_would_rather_share => ?_)
    (case a => k_is); (case l => k_is); (case c => k_is); (case k => k_is); (case b => exact fun _ _ _ _ _ _ us hl => match us, hl with | [_, _, _, _], _ => rfl)
    refine' Rs.use_at "first_rather_pair" Rs.s_first_rather_pair ["lists", "held"] KX G.T.g ?a ?l ?c ?k ?b (fun f_first_rather_pair => ?_)
    (case a => k_is); (case l => k_is); (case c => k_is); (case k => k_is); (case b => exact fun _ _ _ _ _ _ us hl => match us, hl with | [_, _], _ => rfl)
    refine' Rs.use_at "rather_pairs" Rs.s_rather_pairs ["lists", "held"] KX G.T.g ?a ?l ?c ?k ?b (fun f_rather_pairs => ?_)
    (case a => k_is); (case l => k_is); (case c => k_is); (case k => k_is); (case b => exact fun _ _ _ _ _ _ us hl => match us, hl with | [_, _], _ => rfl)
    refine' Rs.use_at "is_pairing" Rs.s_is_pairing ["lists", "row"] KX G.T.g ?a ?l ?c ?k ?b (fun f_is_pairing => ?_)
    (case a => k_is); (case l => k_is); (case c => k_is); (case k => k_is); (case b => exact fun _ _ _ _ _ _ us hl => match us, hl with | [_, _], _ => rfl)
    refine' Rs.use_at "is_stable" Rs.s_is_stable ["lists", "pairing"] KX G.T.g ?a ?l ?c ?k ?b (fun f_is_stable => ?_)
    (case a => k_is); (case l => k_is); (case c => k_is); (case k => k_is); (case b => exact fun _ _ _ _ _ _ us hl => match us, hl with | [_, _], _ => rfl)
    refine' Rs.use_at "choices_for_next_guest" Rs.s_choices_for_next_guest ["lists", "row"] KX G.T.g ?a ?l ?c ?k ?b (fun f_choices_for_next_guest => ?_)
    (case a => k_is); (case l => k_is); (case c => k_is); (case k => k_is); (case b => exact fun _ _ _ _ _ _ us hl => match us, hl with | [_, _], _ => rfl)
    refine' Rs.use_at "all_pairings" Rs.s_all_pairings ["lists"] KX G.T.g ?a ?l ?c ?k ?b (fun f_all_pairings => ?_)
    (case a => k_is); (case l => k_is); (case c => k_is); (case k => k_is); (case b => exact fun _ _ _ _ _ _ us hl => match us, hl with | [_], _ => rfl)
    refine' Rs.use_at "stable_pairings" Rs.s_stable_pairings ["lists"] KX G.T.g ?a ?l ?c ?k ?b (fun f_stable_pairings => ?_)
    (case a => k_is); (case l => k_is); (case c => k_is); (case k => k_is); (case b => exact fun _ _ _ _ _ _ us hl => match us, hl with | [_], _ => rfl)
    refine' Rs.use_at "gone_together" Rs.s_gone_together ["pairing", "one", "other"] KX G.T.g ?a ?l ?c ?k ?b (fun f_gone_together => ?_)
    (case a => k_is); (case l => k_is); (case c => k_is); (case k => k_is); (case b => exact fun _ _ _ _ _ _ us hl => match us, hl with | [_, _, _], _ => rfl)
    refine' Rs.use_at "settled" Rs.s_settled ["lists", "pairing", "times"] KX G.T.g ?a ?l ?c ?k ?b (fun f_settled => ?_)
    (case a => k_is); (case l => k_is); (case c => k_is); (case k => k_is); (case b => exact fun _ _ _ _ _ _ us hl => match us, hl with | [_, _, _], _ => rfl)
    refine' Rs.use_at "middle_pairing" Rs.s_middle_pairing ["lists", "three"] KX G.T.g ?a ?l ?c ?k ?b (fun f_middle_pairing => ?_)
    (case a => k_is); (case l => k_is); (case c => k_is); (case k => k_is); (case b => exact fun _ _ _ _ _ _ us hl => match us, hl with | [_, _], _ => rfl)
    refine' Rs.use_at "may_follow" Rs.s_may_follow ["lists", "guest", "follower"] KX G.T.g ?a ?l ?c ?k ?b (fun f_may_follow => ?_)
    (case a => k_is); (case l => k_is); (case c => k_is); (case k => k_is); (case b => exact fun _ _ _ _ _ _ us hl => match us, hl with | [_, _, _], _ => rfl)
    refine' Rs.use_at "is_rings" Rs.s_is_rings ["lists", "row"] KX G.T.g ?a ?l ?c ?k ?b (fun f_is_rings => ?_)
    (case a => k_is); (case l => k_is); (case c => k_is); (case k => k_is); (case b => exact fun _ _ _ _ _ _ us hl => match us, hl with | [_, _], _ => rfl)
    refine' Rs.use_at "ones_before" Rs.s_ones_before ["row"] KX G.T.g ?a ?l ?c ?k ?b (fun f_ones_before => ?_)
    (case a => k_is); (case l => k_is); (case c => k_is); (case k => k_is); (case b => exact fun _ _ _ _ _ _ us hl => match us, hl with | [_], _ => rfl)
    refine' Rs.use_at "is_willing" Rs.s_is_willing ["lists", "row", "guest"] KX G.T.g ?a ?l ?c ?k ?b (fun f_is_willing => ?_)
    (case a => k_is); (case l => k_is); (case c => k_is); (case k => k_is); (case b => exact fun _ _ _ _ _ _ us hl => match us, hl with | [_, _, _], _ => rfl)
    refine' Rs.use_at "first_unwilling" Rs.s_first_unwilling ["lists", "row"] KX G.T.g ?a ?l ?c ?k ?b (fun f_first_unwilling => ?_)
    (case a => k_is); (case l => k_is); (case c => k_is); (case k => k_is); (case b => exact fun _ _ _ _ _ _ us hl => match us, hl with | [_, _], _ => rfl)
    refine' Rs.use_at "lengthened" Rs.s_lengthened ["lists", "row"] KX G.T.g ?a ?l ?c ?k ?b (fun f_lengthened => ?_)
    (case a => k_is); (case l => k_is); (case c => k_is); (case k => k_is); (case b => exact fun _ _ _ _ _ _ us hl => match us, hl with | [_, _], _ => rfl)
    refine' Rs.use_at "willing_rings" Rs.s_willing_rings ["lists"] KX G.T.g ?a ?l ?c ?k ?b (fun f_willing_rings => ?_)
    (case a => k_is); (case l => k_is); (case c => k_is); (case k => k_is); (case b => exact fun _ _ _ _ _ _ us hl => match us, hl with | [_], _ => rfl)
    refine' Rs.use_at "first_rings" Rs.s_first_rings ["lists"] KX G.T.g ?a ?l ?c ?k ?b (fun f_first_rings => ?_)
    (case a => k_is); (case l => k_is); (case c => k_is); (case k => k_is); (case b => exact fun _ _ _ _ _ _ us hl => match us, hl with | [_], _ => rfl)
    refine' Rs.use_at "ring_length" Rs.s_ring_length ["row", "guest"] KX G.T.g ?a ?l ?c ?k ?b (fun f_ring_length => ?_)
    (case a => k_is); (case l => k_is); (case c => k_is); (case k => k_is); (case b => exact fun _ _ _ _ _ _ us hl => match us, hl with | [_, _], _ => rfl)
    refine' Rs.use_at "is_odd" Rs.s_is_odd ["row", "guest"] KX G.T.g ?a ?l ?c ?k ?b (fun f_is_odd => ?_)
    (case a => k_is); (case l => k_is); (case c => k_is); (case k => k_is); (case b => exact fun _ _ _ _ _ _ us hl => match us, hl with | [_, _], _ => rfl)
    refine' Rs.use_at "odd_guests" Rs.s_odd_guests ["row"] KX G.T.g ?a ?l ?c ?k ?b (fun f_odd_guests => ?_)
    (case a => k_is); (case l => k_is); (case c => k_is); (case k => k_is); (case b => exact fun _ _ _ _ _ _ us hl => match us, hl with | [_], _ => rfl)
    refine' Rs.use_at "tell_pairs" Rs.s_tell_pairs ["lists"] KX G.T.g ?a ?l ?c ?k ?b (fun f_tell_pairs => ?_)
    (case a => k_is); (case l => k_is); (case c => k_is); (case k => k_is); (case b => exact fun _ _ _ _ _ _ us hl => match us, hl with | [_], _ => rfl)
    refine' Rs.use_at "counted" Rs.s_counted ["numbers"] KX G.T.g ?a ?l ?c ?k ?b (fun f_counted => ?_)
    (case a => k_is); (case l => k_is); (case c => k_is); (case k => k_is); (case b => exact fun _ _ _ _ _ _ us hl => match us, hl with | [_], _ => rfl)
    refine' Rs.use_at "tell_rings" Rs.s_tell_rings ["lists"] KX G.T.g ?a ?l ?c ?k ?b (fun f_tell_rings => ?_)
    (case a => k_is); (case l => k_is); (case c => k_is); (case k => k_is); (case b => exact fun _ _ _ _ _ _ us hl => match us, hl with | [_], _ => rfl)
    refine' Rs.use_at "tell_check" Rs.s_tell_check ["lists", "row"] KX G.T.g ?a ?l ?c ?k ?b (fun f_tell_check => ?_)
    (case a => k_is); (case l => k_is); (case c => k_is); (case k => k_is); (case b => exact fun _ _ _ _ _ _ us hl => match us, hl with | [_, _], _ => rfl)
    refine' Rs.use_at "tell_prove" Rs.s_tell_prove ["lists", "row"] KX G.T.g ?a ?l ?c ?k ?b (fun f_tell_prove => ?_)
    (case a => k_is); (case l => k_is); (case c => k_is); (case k => k_is); (case b => exact fun _ _ _ _ _ _ us hl => match us, hl with | [_, _], _ => rfl)
    refine' Rs.use_at "tell_partners" Rs.s_tell_partners ["lists", "guest"] KX G.T.g ?a ?l ?c ?k ?b (fun f_tell_partners => ?_)
    (case a => k_is); (case l => k_is); (case c => k_is); (case k => k_is); (case b => exact fun _ _ _ _ _ _ us hl => match us, hl with | [_, _], _ => rfl)
    refine' Rs.use_at "tell_count" Rs.s_tell_count ["lists"] KX G.T.g ?a ?l ?c ?k ?b (fun f_tell_count => ?_)
    (case a => k_is); (case l => k_is); (case c => k_is); (case k => k_is); (case b => exact fun _ _ _ _ _ _ us hl => match us, hl with | [_], _ => rfl)
    refine' Rs.use_at "tell_blocks" Rs.s_tell_blocks ["lists", "pairing"] KX G.T.g ?a ?l ?c ?k ?b (fun f_tell_blocks => ?_)
    (case a => k_is); (case l => k_is); (case c => k_is); (case k => k_is); (case b => exact fun _ _ _ _ _ _ us hl => match us, hl with | [_, _], _ => rfl)
    refine' Rs.use_at "tell_settle" Rs.s_tell_settle ["lists", "times", "pairing"] KX G.T.g ?a ?l ?c ?k ?b (fun f_tell_settle => ?_)
    (case a => k_is); (case l => k_is); (case c => k_is); (case k => k_is); (case b => exact fun _ _ _ _ _ _ us hl => match us, hl with | [_, _, _], _ => rfl)
    refine' Rs.use_at "tell_prefer" Rs.s_tell_prefer ["lists", "guest", "one", "other"] KX G.T.g ?a ?l ?c ?k ?b (fun f_tell_prefer => ?_)
    (case a => k_is); (case l => k_is); (case c => k_is); (case k => k_is); (case b => exact fun _ _ _ _ _ _ us hl => match us, hl with | [_, _, _, _], _ => rfl)
    refine' Rs.use_at "tell_rooms" Rs.s_tell_rooms ["lists", "booked"] KX G.T.g ?a ?l ?c ?k ?b (fun f_tell_rooms => ?_)
    (case a => k_is); (case l => k_is); (case c => k_is); (case k => k_is); (case b => exact fun _ _ _ _ _ _ us hl => match us, hl with | [_, _], _ => rfl)
    refine' Rs.use_at "tell_lists" Rs.s_tell_lists ["lists"] KX G.T.g ?a ?l ?c ?k ?b (fun f_tell_lists => ?_)
    (case a => k_is); (case l => k_is); (case c => k_is); (case k => k_is); (case b => exact fun _ _ _ _ _ _ us hl => match us, hl with | [_], _ => rfl)
    refine' Rs.use_atA "answers" Rs.s_answers ["calls"] KX G.T.g ?a ?l ?c ?k ?b (fun f_answers => ?_)
    (case a => k_is); (case l => k_is); (case c => k_is); (case k => k_is); (case b => exact fun _ _ _ _ _ _ us hl => match us, hl with | [_], _ => rfl)
    have T : Rs.Txt _ mg := ⟨b_len, b_range, b_list, b_sorted, b_max, c_BEGIN, c_TAKE_LIST, c_PAIRS, c_RINGS, c_CHECK, c_PROVE, c_PARTNERS, c_COUNT, c_NTH, c_MEDIAN, c_BLOCKS, c_SETTLE, c_PREFER, c_ROOMS, c_JOIN, c_GREATEST_IN_ROW, c_OUT_OF_RANGE, c_NOT_BEGUN, c_BEGUN_ALREADY, c_NO_SUCH_GUEST, c_WRONG_LIST, c_WRONG_LENGTH, c_NOT_SO_MANY, c_NO_PAIRING, c_NOT_WITH_ONE_ANOTHER, c_NOTHING_BOOKED, f_read_calls, f_numbers_in_range, f_row_in_range, f_in_range, f_may_share, f_place_on_list, f_likes_better, f_best_first.at_, f_would_rather_share, f_first_rather_pair, f_rather_pairs, f_is_pairing, f_is_stable, f_choices_for_next_guest, f_all_pairings, f_stable_pairings, f_gone_together, f_settled, f_middle_pairing, f_may_follow, f_is_rings, f_ones_before, f_is_willing, f_first_unwilling, f_lengthened, f_willing_rings, f_first_rings, f_ring_length, f_is_odd, f_odd_guests, f_tell_pairs, f_counted, f_tell_rings, f_tell_check, f_tell_prove, f_tell_partners, f_tell_count, f_tell_blocks, f_tell_settle, f_tell_prefer, f_tell_rooms, f_tell_lists, f_answers.at_⟩
    refine' Rs.use_dicts KX G.T.g ?a ?a2 ?l ?l2 ?s ?s2 ?ok (fun DD => ?_)
    (case a => k_is); (case a2 => k_is); (case l => k_is); (case l2 => k_is); (case s => decide); (case s2 => decide); (case ok => kernel_rfl)
    refine' Rs.use_cls "Group" KX G.T.g ?a ?pg ?hd ?po ?sa (fun HC => ?_)
    (case a => k_is); (case pg => k_is); (case hd => k_is); (case po => k_is); (case sa => k_is)
    refine' Rs.use_none HC.2 "guests" ?a (fun n_guests => ?_); (case a => k_is)
    refine' Rs.use_none HC.2 "lists" ?a (fun n_lists => ?_); (case a => k_is)
    refine' Rs.use_none HC.2 "booked" ?a (fun n_booked => ?_); (case a => k_is)
    have GT : Rs.GTx _ mg _ := ⟨HC.2, HC.1, n_guests, n_lists, n_booked⟩
    refine' Rs.use_init HC.2 "Group.__init__" Rs.s_Group___init__ ["self"] ?a ?i ?l ?c ?k ?mk ?kc ?b (fun m___init__ => ?_)
    (case a => k_is); (case i => k_is); (case l => k_is); (case c => k_is); (case k => k_is); (case mk => k_is); (case kc => k_is); (case b => exact fun _ _ _ _ _ _ us hl => match us, hl with | [_], _ => rfl)
    refine' Rs.use_meth HC.2 "answer" "Group.answer" Rs.s_Group_answer ["self", "call", "told", "row"] ?a ?i ?l ?c ?k ?b (fun m_answer => ?_)
    (case a => k_is); (case i => k_is); (case l => k_is); (case c => k_is); (case k => k_is); (case b => exact fun _ _ _ _ _ _ us hl => match us, hl with | [_, _, _, _], _ => rfl)
    refine' Rs.use_meth HC.2 "begin" "Group.begin" Rs.s_Group_begin ["self", "guests"] ?a ?i ?l ?c ?k ?b (fun m_begin => ?_)
    (case a => k_is); (case i => k_is); (case l => k_is); (case c => k_is); (case k => k_is); (case b => exact fun _ _ _ _ _ _ us hl => match us, hl with | [_, _], _ => rfl)
    refine' Rs.use_meth HC.2 "take_list" "Group.take_list" Rs.s_Group_take_list ["self", "guest", "others"] ?a ?i ?l ?c ?k ?b (fun m_take_list => ?_)
    (case a => k_is); (case i => k_is); (case l => k_is); (case c => k_is); (case k => k_is); (case b => exact fun _ _ _ _ _ _ us hl => match us, hl with | [_, _, _], _ => rfl)
    refine' Rs.use_meth HC.2 "judge" "Group.judge" Rs.s_Group_judge ["self", "call", "told", "row"] ?a ?i ?l ?c ?k ?b (fun m_judge => ?_)
    (case a => k_is); (case i => k_is); (case l => k_is); (case c => k_is); (case k => k_is); (case b => exact fun _ _ _ _ _ _ us hl => match us, hl with | [_, _, _, _], _ => rfl)
    refine' Rs.use_meth HC.2 "book" "Group.book" Rs.s_Group_book ["self", "pairing"] ?a ?i ?l ?c ?k ?b (fun m_book => ?_)
    (case a => k_is); (case i => k_is); (case l => k_is); (case c => k_is); (case k => k_is); (case b => exact fun _ _ _ _ _ _ us hl => match us, hl with | [_, _], _ => rfl)
    refine' Rs.use_meth HC.2 "choose" "Group.choose" Rs.s_Group_choose ["self", "call", "places"] ?a ?i ?l ?c ?k ?b (fun m_choose => ?_)
    (case a => k_is); (case i => k_is); (case l => k_is); (case c => k_is); (case k => k_is); (case b => exact fun _ _ _ _ _ _ us hl => match us, hl with | [_, _, _], _ => rfl)
    refine' Rs.use_meth HC.2 "ask_guest" "Group.ask_guest" Rs.s_Group_ask_guest ["self", "call", "told"] ?a ?i ?l ?c ?k ?b (fun m_ask_guest => ?_)
    (case a => k_is); (case i => k_is); (case l => k_is); (case c => k_is); (case k => k_is); (case b => exact fun _ _ _ _ _ _ us hl => match us, hl with | [_, _, _], _ => rfl)
    refine' Rs.use_meth HC.2 "prefer" "Group.prefer" Rs.s_Group_prefer ["self", "guest", "one", "other"] ?a ?i ?l ?c ?k ?b (fun m_prefer => ?_)
    (case a => k_is); (case i => k_is); (case l => k_is); (case c => k_is); (case k => k_is); (case b => exact fun _ _ _ _ _ _ us hl => match us, hl with | [_, _, _, _], _ => rfl)
    refine' Rs.use_meth HC.2 "look_up_booked" "Group.look_up_booked" Rs.s_Group_look_up_booked ["self", "call", "told"] ?a ?i ?l ?c ?k ?b (fun m_look_up_booked => ?_)
    (case a => k_is); (case i => k_is); (case l => k_is); (case c => k_is); (case k => k_is); (case b => exact fun _ _ _ _ _ _ us hl => match us, hl with | [_, _, _], _ => rfl)
    refine' Rs.use_meth HC.2 "bring_together" "Group.bring_together" Rs.s_Group_bring_together ["self", "one", "other"] ?a ?i ?l ?c ?k ?b (fun m_bring_together => ?_)
    (case a => k_is); (case i => k_is); (case l => k_is); (case c => k_is); (case k => k_is); (case b => exact fun _ _ _ _ _ _ us hl => match us, hl with | [_, _, _], _ => rfl)
    refine' Rs.use_meth HC.2 "survey" "Group.survey" Rs.s_Group_survey ["self", "call"] ?a ?i ?l ?c ?k ?b (fun m_survey => ?_)
    (case a => k_is); (case i => k_is); (case l => k_is); (case c => k_is); (case k => k_is); (case b => exact fun _ _ _ _ _ _ us hl => match us, hl with | [_, _], _ => rfl)
    obtain ⟨t1, t2⟩ := PySem.W.tab_of (x := "best_first") G.T KX (by rfl) (by rfl)
    obtain ⟨rv, lv, DD⟩ := DD
    refine' Rs.head_end f_answers hmg t1 t2 ?n0 ?ci ?np G.T.bmain G.T.g ?D
    (case n0 => kernel_rfl); (case ci => kernel_rfl); (case np => decide)
    intro fd base F1 hK hB hC
    exact Rs.all_answers T DD GT F1 f_best_first hC hB m___init__ m_answer m_begin m_take_list m_judge m_book m_choose m_ask_guest m_prefer m_look_up_booked m_bring_together m_survey
  case S =>
    intro PT K H xs a hO hwi hask hx
    exact Rs.all_case hO hwi hask hx
