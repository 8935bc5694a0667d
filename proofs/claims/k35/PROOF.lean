import PyProof.Rows.All
import Wide.All
import OpenK.AllK
import Wide.FinOn
import Lean
import PyProof.EqAt
import PyProof.EqKinds
import PyProof.TupleCall
import PySem.Challenge.RW_rowbreadth_k35_gathered_and_cut
set_option Elab.async false
set_option linter.all false
set_option maxRecDepth 100000
set_option maxHeartbeats 4000000
namespace PySem.W.Fast
def tw9897912308648000650 : Unit := ()
def tw2534851171404143460 : Unit := ()
def tw14606923575475271598 : Unit := ()
def tw223312596976067248 : Unit := ()
def tw15818795142195831519 : Unit := ()
def tw14578237773991709830 : Unit := ()
def tw5201684251723267085 : Unit := ()
def tw11514723529654024228 : Unit := ()
def tw17388003924325278437 : Unit := ()
def tw17624940023742875040 : Unit := ()
def tw13177505583556796869 : Unit := ()
def tw13522080670822654359 : Unit := ()
def tw6401575645281722573 : Unit := ()
def tw16089402589176078717 : Unit := ()
def tw8118283136591600751 : Unit := ()
def tw6851158398822376190 : Unit := ()
def tw7976333386675916094 : Unit := ()
def tw11843148158056298764 : Unit := ()
def tw6290093312924508394 : Unit := ()
def tw10049960603137956225 : Unit := ()
def tw17923655934904042023 : Unit := ()
def tw3260180068462554697 : Unit := ()
def tw704747713033608997 : Unit := ()
def tw14497513096359598112 : Unit := ()
def tw15169221613220253621 : Unit := ()
def tw15040343070649523900 : Unit := ()
def tw8976358621725066586 : Unit := ()
def tw11447512459017275027 : Unit := ()
def tw13329462011478765884 : Unit := ()
def tw8891696869861152083 : Unit := ()
def tw15101387134544790552 : Unit := ()
def tw15657427835067349975 : Unit := ()
def tw1149931631182070229 : Unit := ()
def tw2555662346434683829 : Unit := ()
def tw4205669175881603234 : Unit := ()
def tw299567910354823699 : Unit := ()
def tw15674045390535033265 : Unit := ()
def tw10216861004040616983 : Unit := ()
def tw8416293335257130624 : Unit := ()
def tw4013737229922060150 : Unit := ()
def tw17919116816463060191 : Unit := ()
def tw15187126844877954360 : Unit := ()
def tw2920562386629007819 : Unit := ()
def tw6769572921260911367 : Unit := ()
def tw3188211199513359615 : Unit := ()
def tw263355967250575524 : Unit := ()
def tw3525768612162574994 : Unit := ()
def tw9694264109586787656 : Unit := ()
def tw15558996330717814508 : Unit := ()
def tw16684566397795899915 : Unit := ()
def tw18161366788177244509 : Unit := ()
def tw10051452036479646325 : Unit := ()
def tw13604576111313675268 : Unit := ()
def tw7554834362140693141 : Unit := ()
def tw6174598845197273337 : Unit := ()
def tw11556065422261598940 : Unit := ()
def tw11365464438163969114 : Unit := ()
def tw17817638947380819226 : Unit := ()
def tw12285466201734188441 : Unit := ()
def tw2653288312911693845 : Unit := ()
def tw432689051321895109 : Unit := ()
def tw6332953343817677132 : Unit := ()
def tw9687691634767219111 : Unit := ()
def tw15993826459569155183 : Unit := ()
def tw5038889656604426153 : Unit := ()
def tw17936106061600265028 : Unit := ()
def tw9244621612493993456 : Unit := ()
def tw18197284564856309933 : Unit := ()
def tw13743550351934761901 : Unit := ()
def tw1386898593884730473 : Unit := ()
def tw7389037168245962104 : Unit := ()
def tw10596812877575622610 : Unit := ()
def tw11616473382141780918 : Unit := ()
def tw5022121355851781980 : Unit := ()
def tw14111387138246437836 : Unit := ()
def tw12184887443761746903 : Unit := ()
def tw4558348726363778863 : Unit := ()
def tw608669378573049747 : Unit := ()
def tw14158019930946078423 : Unit := ()
def tw8796891784964058613 : Unit := ()
def tw4744609993056559782 : Unit := ()
def tw5130124131395712944 : Unit := ()
def tw7935610396916891053 : Unit := ()
def tw18060450552431737517 : Unit := ()
def tw12287831978346876485 : Unit := ()
def tw3596744413403688630 : Unit := ()
def tw6061690738959812091 : Unit := ()
def tw18047443249572917915 : Unit := ()
def tw8766977398809883186 : Unit := ()
def tw4711212527603164775 : Unit := ()
def tw6574279394151153019 : Unit := ()
def tw3293830643097455174 : Unit := ()
def tw8220674716401078791 : Unit := ()
def tw18227015759796588092 : Unit := ()
def tw9472185461134714213 : Unit := ()
end PySem.W.Fast
namespace L2
open PySem PySem.Spec PyProof.Rows
abbrev Key := Sum Int Str
def keyIs : Key → Value → Bool
  | .inl k, v => Value.isInt k v
  | .inr x, v => Value.isStrOf x v
def keyH (w : World) : Key → Int
  | .inl k => hashInt k
  | .inr x => hashStr w x
theorem yf : ∀ {k : Key} {v : Value}, keyIs k v = true → (∃ i t, k = Sum.inl i ∧ v = Value.int i t) ∨ (∃ x t, k = Sum.inr x ∧ v = Value.str x t)
  | .inl i, v, h => by
    obtain ⟨t, e⟩ := Value.isInt_shape (k := i) (v := v) h
    exact .inl ⟨i, t, rfl, e⟩
  | .inr x, v, h => by
    obtain ⟨t, e⟩ := Value.isStrOf_shape (x := x) (v := v) h
    exact .inr ⟨x, t, rfl, e⟩
theorem keyIs_int (i : Int) (t : Tok) : keyIs (.inl i) (.int i t) = true := by simp [keyIs, Value.isInt]
theorem keyIs_str (x : Str) (t : Tok) : keyIs (.inr x) (.str x t) = true := by simp [keyIs, Value.isStrOf]
theorem key_ll (a b : Int) : decide ((Sum.inl a : Key) = Sum.inl b) = (a == b) := by
  by_cases e : a = b
  · subst e; simp
  · have h : ¬ (Sum.inl a : Key) = Sum.inl b := fun q => e (Sum.inl.inj q)
    rw [decide_eq_false h]
    exact (beq_eq_false_iff_ne.mpr e).symm
theorem key_rr (a b : Str) : decide ((Sum.inr a : Key) = Sum.inr b) = decide (a = b) := by
  by_cases e : a = b
  · subst e; simp
  · have h : ¬ (Sum.inr a : Key) = Sum.inr b := fun q => e (Sum.inr.inj q)
    rw [decide_eq_false h, decide_eq_false e]
theorem key_lr (a : Int) (b : Str) : decide ((Sum.inl a : Key) = Sum.inr b) = false := decide_eq_false (fun q => nomatch q)
theorem key_rl (a : Str) (b : Int) : decide ((Sum.inr a : Key) = Sum.inl b) = false := decide_eq_false (fun q => nomatch q)
def zH (prog : Program) (w : World) : PySem.KeyKind prog w Key where
  is := keyIs
  hash := keyH w
  inj := fun v a b ha hb => by
    rcases yf ha with ⟨i, t, rfl, rfl⟩ | ⟨x, t, rfl, rfl⟩
    · rcases yf hb with ⟨j, u, rfl, e⟩ | ⟨y, u, rfl, e⟩
      · injection e with e1 _; rw [e1]
      · exact nomatch e
    · rcases yf hb with ⟨j, u, rfl, e⟩ | ⟨y, u, rfl, e⟩
      · exact nomatch e
      · injection e with e1 _; rw [e1]
  byValue := fun k v h => by
    rcases yf h with ⟨i, t, rfl, rfl⟩ | ⟨x, t, rfl, rfl⟩ <;> rfl
  pyHash := fun hv h => by
    rcases yf hv with ⟨i, t, rfl, rfl⟩ | ⟨x, t, rfl, rfl⟩
    · exact wpAny_pyHash_int h
    · exact wpAny_pyHash_str h
  eqBool := fun hu hv h => by
    rcases yf hu with ⟨i, t, rfl, rfl⟩ | ⟨x, t, rfl, rfl⟩
    · rcases yf hv with ⟨j, u, rfl, rfl⟩ | ⟨y, u, rfl, rfl⟩
      · rw [key_ll] at h; exact wpAny_eqBool_int h
      · rw [key_lr] at h; exact SeqAt.EqAt.int_str i t y u _ _ _ _ h
    · rcases yf hv with ⟨j, u, rfl, rfl⟩ | ⟨y, u, rfl, rfl⟩
      · rw [key_rl] at h; exact SeqAt.EqAt.str_int x t j u _ _ _ _ h
      · rw [key_rr] at h; exact wpAny_eqBool_str h
  «strs» := fun k x t v h => by
    rcases yf h with ⟨i, u, rfl, e⟩ | ⟨y, u, rfl, e⟩
    · exact nomatch e
    · injection e with e1 _
      subst e1
      cases v <;> rfl
theorem mixKind_int (prog : Program) (w : World) (i : Int) (t : Tok) : (zH prog w).is (.inl i) (.int i t) = true := keyIs_int i t
theorem mixKind_str (prog : Program) (w : World) (x : Str) (t : Tok) : (zH prog w).is (.inr x) (.str x t) = true := keyIs_str x t
end L2
namespace L2
open PySem PySem.Spec PyProof.Rows
inductive V where
  | non | bl (b : Bool) | int (i : Int) | str (x : Str) | byt (b : Array UInt8) | flt (b : UInt64) | ref (a : Addr) | ty (n : String)
  deriving DecidableEq
def RelV : V → Value → Prop
  | .non, u => u = Value.none
  | .bl b, u => u = Value.bool b
  | .int i, u => ∃ t, u = Value.int i t
  | .str x, u => ∃ t, u = Value.str x t
  | .byt b, u => ∃ t, u = Value.bytes b t
  | .flt b, u => ∃ t, u = Value.float b t
  | .ref a, u => u = Value.ref a
  | .ty n, u => u = Value.type n
abbrev Vals : List V → List Value → Prop := Paired RelV
theorem Vals.length {xs : List V} {us : List Value} (r : Vals xs us) : xs.length = us.length := Paired.length r
theorem Vals.get : ∀ {xs : List V} {us : List Value} {i : Nat} {x : V}, Vals xs us → xs[i]? = some x → ∃ u, us[i]? = some u ∧ RelV x u
  | _, _, _, _, .nil, e => by simp at e
  | _, _, 0, _, .cons r _, e => by simp at e; subst e; exact ⟨_, rfl, r⟩
  | _, _, i + 1, x, .cons _ t, e => by
    obtain ⟨u, h1, h2⟩ := Vals.get (i := i) (x := x) t (by simpa using e)
    exact ⟨u, by simpa using h1, h2⟩
theorem Vals.set {x : V} {u : Value} (r : RelV x u) : ∀ {xs : List V} {us : List Value} (i : Nat), Vals xs us → Vals (xs.set i x) (us.set i u)
  | _, _, _, .nil => .nil
  | _, _, 0, .cons _ t => .cons r t
  | _, _, i + 1, .cons q t => .cons q (Vals.set r i t)
theorem Vals.append : ∀ {xs ys : List V} {us ws : List Value}, Vals xs us → Vals ys ws → Vals (xs ++ ys) (us ++ ws)
  | _, _, _, _, .nil, s => s
  | _, _, _, _, .cons r t, s => .cons r (Vals.append t s)
theorem Vals.take : ∀ {xs : List V} {us : List Value} (n : Nat), Vals xs us → Vals (xs.take n) (us.take n)
  | _, _, 0, _ => .nil
  | _, _, _ + 1, .nil => .nil
  | _, _, n + 1, .cons r t => .cons r (Vals.take n t)
theorem Vals.drop : ∀ {xs : List V} {us : List Value} (n : Nat), Vals xs us → Vals (xs.drop n) (us.drop n)
  | _, _, 0, r => r
  | _, _, _ + 1, .nil => .nil
  | _, _, n + 1, .cons _ t => Vals.drop n t
def RelO : Option V → Option Value → Prop
  | some v, some u => RelV v u
  | none, none => True
  | _, _ => False
def KV {κ : Type} : List (κ × V) → List (κ × Value) → Prop := Paired fun (p : κ × V) (q : κ × Value) => p.1 = q.1 ∧ RelV p.2 q.2
def kV : Key → V
  | .inl i => .int i
  | .inr x => .str x
inductive HO where
    | lst (xs : List V)
    | tup (xs : List V)
    | dK (kvs : List (Key × V)) | dT (kvs : List (List Key × V))
    | set (S : Int → Bool) (n : Nat)
    | ins (C dx : Addr) (fs : List (Str × V))
    | own (x : Addr)
    | xd (fs : List (Str × V))
    | met (f x : Addr)
    | rng (lo hi : Int)
    | frz (o : Obj) (u : HO)
    | tbl (ps : Array Value)
    | ext (φ : Heap → Prop)
abbrev Hp := Addr → Option HO
def upd (H : Hp) (a : Addr) (o : HO) : Hp := fun b => if b = a then some o else H b
theorem zf {H : Hp} {a : Addr} {o : HO} : upd H a o a = some o := by unfold upd; rw [if_pos rfl]
theorem zj {H : Hp} {a b : Addr} {o : HO} (h : b ≠ a) : upd H a o b = H b := by unfold upd; rw [if_neg h]
theorem upd_upd {H : Hp} {a : Addr} {o u : HO} : upd (upd H a o) a u = upd H a u := by
  funext b; unfold upd; split <;> rfl
theorem ne_of {H : Hp} {a b : Addr} {o u : HO} (h : H a = some o) (h' : H b = some u) (d : o ≠ u) : a ≠ b := by
  intro e; subst e; rw [h] at h'; exact d (Option.some.inj h')
theorem zo {H : Hp} {a b : Addr} {o : HO} (h : H a = some o) (h' : H b = none) : a ≠ b := by
  intro e; subst e; rw [h] at h'; cases h'
section
variable (P : Program) (w : World)
def ObjOk (H : Hp) (h : Heap) (a : Addr) : HO → Prop
  | .lst xs => xs.length ≤ sizeLine ∧ ∃ (its : List Value) (n : Nat), Vals xs its ∧ h.get? a = some { cls := .type "list", data := .seq its.toArray n }
  | .tup xs => xs.length ≤ sizeLine ∧ ∃ its : List Value, Vals xs its ∧ IsTup h a its.toArray
  | .dK kvs => kvs.length ≤ sizeLine ∧ (a == sysModules) = false ∧ ∃ vs, KV kvs vs ∧ h.DictOf (zH P w) a vs
  | .dT kvs => kvs.length ≤ sizeLine ∧ (a == sysModules) = false ∧ ∃ xs : List (List Key × Addr × Value),
      Paired (fun (p : List Key × V) (q : List Key × Addr × Value) => p.1 = q.1 ∧ H q.2.1 = some (.tup (p.1.map kV)) ∧ RelV p.2 q.2.2) kvs xs ∧
      ∃ o es ep, h.get? a = some o ∧ o.ExactDict ∧ o.data = .dict es ep ∧ es.toList = xs.map (entryOfKey (tupleKind (zH P w))) ∧ (xs.map (·.1)).Nodup
  | .set S n => h.SetOf (intKind P w) a S n
  | .ins C dx fs => H dx = some (.own a) ∧ fs.length ≤ 1000 ∧ dx ≠ a ∧ h.get? a = some (PySem.W.instObj C dx) ∧
      ∃ mA, h.Ns1 dx mA ∧ (∀ f, RelO (fs.lookup f) (mA f)) ∧ PySem.Within mA (fs.map (·.1))
  | .own _ => ∃ o, h.get? a = some o
  | .xd fs => ∃ mA, h.Ns1 a mA ∧ ∀ f, RelO (fs.lookup f) (mA f)
  | .rng lo hi => ∃ t u v, h.get? a = some { cls := .type "range", data := .fields #[.int lo t, .int hi u, .int 1 v] }
  | .frz o u => h.get? a = some o ∧ ObjOk H h a u
  | .tbl ps => h.get? a = some { cls := .none, data := .fields ps }
  | .met f x => h.get? a = some (PySem.W.methodObj (.ref f) (.ref x))
  | .ext φ => φ h ∧ (∃ o, h.get? a = some o) ∧ ∀ h1 h2 : Heap, φ h1 → (∀ o, h1.get? a = some o → h2.get? a = some o) → φ h2
def HOk (H : Hp) (h : Heap) : Prop := ∀ a o, H a = some o → ObjOk P w H h a o
end
section
variable {P : Program} {w : World} {H H' : Hp} {h h' : Heap} {a : Addr} {o : HO}
theorem ObjOk.lt (x : ObjOk P w H h a o) : a < h.objs.size := by
  cases o with
  | lst xs => obtain ⟨_, _, _, _, e⟩ := x; exact Heap.lt_size e
  | tup xs => obtain ⟨_, _, _, p⟩ := x; exact p.lt
  | dK kvs => obtain ⟨_, _, _, _, o, _, _, e, _⟩ := x; exact Heap.lt_size e
  | dT kvs => obtain ⟨_, _, _, _, o, _, _, e, _⟩ := x; exact Heap.lt_size e
  | set S n => obtain ⟨o, _, _, _, e, _⟩ := x; exact Heap.lt_size e
  | ins C dx fs => obtain ⟨_, _, _, e, _⟩ := x; exact Heap.lt_size e
  | own y => obtain ⟨_, e⟩ := x; exact Heap.lt_size e
  | xd fs => obtain ⟨_, ⟨_, _, _, e, _⟩, _⟩ := x; exact Heap.lt_size e
  | rng lo hi => obtain ⟨_, _, _, e⟩ := x; exact Heap.lt_size e
  | frz ob u => obtain ⟨e, _⟩ := x; exact Heap.lt_size e
  | tbl ps => exact Heap.lt_size (show h.get? a = some _ from x)
  | met f y => exact Heap.lt_size (show h.get? a = some _ from x)
  | ext φ => obtain ⟨_, ⟨_, e⟩, _⟩ := x; exact Heap.lt_size e
theorem Paired.mapP {α β : Type} {F G : α → β → Prop} : ∀ {l₁ : List α} {l₂ : List β}, Paired F l₁ l₂ → (∀ a b, F a b → G a b) → Paired G l₁ l₂
  | _, _, .nil, _ => .nil
  | _, _, .cons r t, f => .cons (f _ _ r) (Paired.mapP t f)
theorem ObjOk.stay (x : ObjOk P w H h a o) (k : ∀ b u, (b = a ∨ H b = some (.own a)) → h.get? b = some u → h'.get? b = some u)
    (ho : ∀ b, H b = some (.own a) → H' b = some (.own a)) (ht : ∀ b xs, H b = some (.tup xs) → H' b = some (.tup xs)) : ObjOk P w H' h' a o := by
  induction o with
  | lst xs => obtain ⟨z, its, n, r, e⟩ := x; exact ⟨z, its, n, r, k _ _ (.inl rfl) e⟩
  | tup xs => obtain ⟨z, its, r, ob, e, c⟩ := x; exact ⟨z, its, r, ob, k _ _ (.inl rfl) e, c⟩
  | dK kvs => obtain ⟨z, y, vs, r, ob, es, ep, e, c⟩ := x; exact ⟨z, y, vs, r, ob, es, ep, k _ _ (.inl rfl) e, c⟩
  | dT kvs =>
    obtain ⟨z, y, xs, r, ob, es, ep, e, c⟩ := x
    exact ⟨z, y, xs, Paired.mapP r fun p q z => ⟨z.1, ht _ _ z.2.1, z.2.2⟩, ob, es, ep, k _ _ (.inl rfl) e, c⟩
  | set S n => obtain ⟨ob, es, ep, t, e, c⟩ := x; exact ⟨ob, es, ep, t, k _ _ (.inl rfl) e, c⟩
  | ins C dx fs =>
    obtain ⟨d, z, ne, e, mA, ⟨od, es, ep, e2, c⟩, r⟩ := x
    exact ⟨ho _ d, z, ne, k _ _ (.inl rfl) e, mA, ⟨od, es, ep, k _ _ (.inr d) e2, c⟩, r⟩
  | own y => obtain ⟨ob, e⟩ := x; exact ⟨ob, k _ _ (.inl rfl) e⟩
  | xd fs => obtain ⟨mA, ⟨od, es, ep, e, c⟩, r⟩ := x; exact ⟨mA, ⟨od, es, ep, k _ _ (.inl rfl) e, c⟩, r⟩
  | rng lo hi => obtain ⟨t, u, v, e⟩ := x; exact ⟨t, u, v, k _ _ (.inl rfl) e⟩
  | frz ob u ih => obtain ⟨e, q⟩ := x; exact ⟨k _ _ (.inl rfl) e, ih q⟩
  | tbl ps =>
    have e : h.get? a = some { cls := .none, data := .fields ps } := x
    show h'.get? a = some { cls := .none, data := .fields ps }
    exact k a _ (.inl rfl) e
  | met f y =>
    have e : h.get? a = some (PySem.W.methodObj (.ref f) (.ref y)) := x
    show h'.get? a = some (PySem.W.methodObj (.ref f) (.ref y))
    exact k a _ (.inl rfl) e
  | ext φ => obtain ⟨p, ⟨o, e⟩, st⟩ := x; exact ⟨st _ _ p fun o q => k _ _ (.inl rfl) q, ⟨o, k _ _ (.inl rfl) e⟩, st⟩
theorem HOk.lt (x : HOk P w H h) (e : H a = some o) : a < h.objs.size := (x a o e).lt
theorem HOk.fresh (x : HOk P w H h) (e : h.objs.size ≤ a) : H a = none := by
  cases q : H a with
  | none => rfl
  | some u => exact absurd (Nat.lt_of_lt_of_le (x.lt q) e) (Nat.lt_irrefl _)
theorem HOk.kept (x : HOk P w H h) (k : ∀ b u, h.get? b = some u → h'.get? b = some u) : HOk P w H h' := fun a o e =>
  (x a o e).stay (fun b u _ q => k b u q) (fun _ q => q) fun _ _ q => q
theorem HOk.laid (x : HOk P w H h) (k : ∀ b u, h.get? b = some u → h'.get? b = some u) (hp : h.objs.size ≤ a) (new : ObjOk P w (upd H a o) h' a o) : HOk P w (upd H a o) h' := fun b u e => by
  have hn := x.fresh hp
  by_cases hb : b = a
  · subst hb; rw [zf] at e; cases e; exact new
  · rw [zj hb] at e
    exact (x b u e).stay (fun c v _ q => k c v q) (fun c q => by rw [zj (zo q hn)]; exact q) fun c xs q => by rw [zj (zo q hn)]; exact q
end
def Rd (H : Hp) (a : Addr) (u : HO) : Prop := H a = some u ∨ ∃ o, H a = some (.frz o u)
theorem Rd.ok {P : Program} {w : World} {H : Hp} {h : Heap} {a : Addr} {u : HO} (r : Rd H a u) (x : HOk P w H h) : ObjOk P w H h a u := by
  rcases r with r | ⟨o, r⟩
  · exact x a u r
  · obtain ⟨_, q⟩ := x a _ r
    exact q
def Mut : Option HO → Prop
  | some (.lst _) => True
  | some (.dK _) => True
  | some (.dT _) => True
  | some (.set _ _) => True
  | some (.ins _ _ _) => True
  | some (.ext _) => True
  | _ => False
section
variable {P : Program} {w : World} {H : Hp} {h h' : Heap} {x e : Addr} {o' : HO}
theorem HOk.write (ok : HOk P w H h) (mu : Mut (H x)) (he : e = x ∨ H e = some (.own x)) (k : ∀ b u, b ≠ e → h.get? b = some u → h'.get? b = some u) (heo : ∃ u, h'.get? e = some u)
    (new : ObjOk P w (upd H x o') h' x o') : HOk P w (upd H x o') h' := fun b u q => by
  have nown : ∀ c y, H c = some (.own y) → c ≠ x := fun c y r z => by subst z; rw [r] at mu; exact mu
  have ntup : ∀ c xs, H c = some (.tup xs) → c ≠ x := fun c xs r z => by subst z; rw [r] at mu; exact mu
  by_cases hb : b = x
  · subst hb; rw [zf] at q; cases q; exact new
  · rw [zj hb] at q
    by_cases hbe : b = e
    · have q' : H b = some (.own x) := by
        rcases he with z | z
        · exact absurd (hbe.trans z) hb
        · rw [hbe]; exact z
      rw [q] at q'; cases q'
      obtain ⟨v, hv⟩ := heo
      exact ⟨v, by rw [hbe]; exact hv⟩
    · refine (ok b u q).stay (fun c v hc r => k c v ?_ r) (fun c r => by rw [zj (nown c b r)]; exact r) fun c xs r => by rw [zj (ntup c xs r)]; exact r
      rcases hc with rfl | hc
      · exact hbe
      · rintro rfl
        rcases he with z | z
        · exact nown c b hc z
        · rw [hc] at z; cases z; exact hb rfl
end
structure Un (fs ex : List Addr) (H H' : Hp) (h h' : Heap) : Prop where
  keep : ∀ b o, h.get? b = some o → H b = none → b ∉ fs → b ∉ ex → h'.get? b = some o
  slot : ∀ b o, h.get? b = some o → H b = none → b ∈ fs → b ∉ ex → ∃ sl, h'.get? b = some { o with slots := sl }
  free : ∀ b o, h.get? b = some o → H b = none → b ∉ ex → H' b = none
  there : ∀ b o, h.get? b = some o → b ∉ ex → ∃ o', h'.get? b = some o'
  tups : ∀ b xs, H b = some (.tup xs) → H' b = some (.tup xs)
  frzs : ∀ b o u, H b = some (.frz o u) → H' b = some (.frz o u)
  tbls : ∀ b ps, H b = some (.tbl ps) → ∃ more, H' b = some (.tbl (ps ++ more))
section
variable {fs fs' ex ex' : List Addr} {H H1 H2 : Hp} {h h1 h2 h' : Heap} {a x e : Addr} {o : HO}
theorem Un.any (u : Un fs ex H H1 h h1) {b : Addr} {ob : Obj} (q : h.get? b = some ob) (n : H b = none) (hx : b ∉ ex) : ∃ sl, h1.get? b = some { ob with slots := sl } := by
  by_cases hb : b ∈ fs
  · exact u.slot b ob q n hb hx
  · exact ⟨ob.slots, u.keep b ob q n hb hx⟩
theorem Un.kept (k : ∀ b u, h.get? b = some u → h'.get? b = some u) : Un fs ex H H h h' :=
  ⟨fun b ob q _ _ _ => k b ob q, fun b ob q _ _ _ => ⟨ob.slots, k b ob q⟩, fun _ _ _ n _ => n, fun b ob q _ => ⟨ob, k b ob q⟩, fun _ _ q => q, fun _ _ _ q => q, fun _ ps q => ⟨#[], by rw [q]; simp⟩⟩
theorem Un.refl : Un fs ex H H h h := Un.kept fun _ _ q => q
theorem Un.laid (k : ∀ b u, h.get? b = some u → h'.get? b = some u) (hp : h.objs.size ≤ a) (hn : H a = none) : Un fs ex H (upd H a o) h h' where
  keep := fun b u q _ _ _ => k b u q
  slot := fun b u q _ _ _ => ⟨u.slots, k b u q⟩
  free := fun b u q n _ => by rw [zj (Nat.ne_of_lt (Nat.lt_of_lt_of_le (Heap.lt_size q) hp))]; exact n
  there := fun b u q _ => ⟨u, k b u q⟩
  tups := fun b xs q => by rw [zj (zo q hn)]; exact q
  frzs := fun b u xs q => by rw [zj (zo q hn)]; exact q
  tbls := fun b ps q => ⟨#[], by rw [zj (zo q hn), q]; simp⟩
theorem Un.write (mu : Mut (H x)) (he : e = x ∨ H e = some (.own x)) (k : ∀ b u, b ≠ e → h.get? b = some u → h'.get? b = some u) (heo : ∃ u, h'.get? e = some u) : Un fs ex H (upd H x o) h h' := by
  have hx : ∀ b, H b = none → b ≠ x := fun b n z => by subst z; rw [n] at mu; exact mu
  have hb : ∀ b, H b = none → b ≠ e := fun b n z => by
    subst z
    rcases he with r | r
    · exact hx b n r
    · rw [n] at r; cases r
  have hm : ∀ b u, H b = some u → ¬ Mut (some u) → b ≠ x := fun b u q nm z => by subst z; rw [q] at mu; exact nm mu
  refine ⟨fun b u q n _ _ => k b u (hb b n) q, fun b u q n _ _ => ⟨u.slots, k b u (hb b n) q⟩, fun b u q n _ => by rw [zj (hx b n)]; exact n, fun b u q _ => ?_,
    fun b xs q => by rw [zj (hm b _ q fun z => z)]; exact q, fun b u xs q => by rw [zj (hm b _ q fun z => z)]; exact q, fun b ps q => ⟨#[], by rw [zj (hm b _ q fun z => z), q]; simp⟩⟩
  by_cases hbe : b = e
  · subst hbe; exact heo
  · exact ⟨u, k b u hbe q⟩
end
def trk (h : Heap) (H : Hp) : List Addr := (List.range h.objs.size).filter fun a => (H a).isSome
def hidT (h : Heap) (H : Hp) : Heap := PySem.W.hideAll h (trk h H)
theorem hidT_size (h : Heap) (H : Hp) : (hidT h H).objs.size = h.objs.size := PySem.W.hideAll_size _ _
theorem hidT_get {h : Heap} {H : Hp} {b : Addr} {o : Obj} (e : h.get? b = some o) (n : H b = none) : (hidT h H).get? b = some o :=
  PySem.W.hideAll_get _ e fun hm => by
    have q : (H b).isSome = true := (List.mem_filter.mp hm).2
    rw [n] at q; simp at q
theorem of_hidT {h : Heap} {H : Hp} {b : Addr} {o : Obj} (e : (hidT h H).get? b = some o) : h.get? b = some o ∧ H b = none := by
  have e' : h.get? b = some o := PySem.W.of_hideAll (trk h H) e
  refine ⟨e', ?_⟩
  cases q : H b with
  | none => rfl
  | some x =>
    have hm : b ∈ trk h H := List.mem_filter.mpr ⟨List.mem_range.mpr (Heap.lt_size e'), by simp [q]⟩
    have z : (hidT h H).get? b = none := PySem.W.hideAll_none (trk h H) hm
    rw [z] at e; cases e
def allNews (g h : Heap) (L : Addr) : List (Addr × Obj) := (List.range h.objs.size).filterMap fun a => if a = L ∨ (g.get? a).isSome = true then none else (h.get? a).map fun o => (a, o)
theorem mem_allNews {g h : Heap} {L a : Addr} {o : Obj} (h1 : a ≠ L) (h2 : g.get? a = none) (h3 : h.get? a = some o) : (a, o) ∈ allNews g h L :=
  List.mem_filterMap.mpr ⟨a, List.mem_range.mpr (Heap.lt_size h3), by simp [h1, h2, h3]⟩
theorem of_mem_allNews {g h : Heap} {L : Addr} {p : Addr × Obj} (hp : p ∈ allNews g h L) : p.1 ≠ L ∧ g.get? p.1 = none ∧ h.get? p.1 = some p.2 := by
  obtain ⟨b, _, e⟩ := List.mem_filterMap.mp hp
  split at e
  · cases e
  · rename_i hn
    cases q : h.get? b with
    | none => rw [q] at e; simp at e
    | some u =>
      rw [q] at e
      simp only [Option.map_some, Option.some.injEq] at e
      subst e
      refine ⟨fun z => hn (.inl z), ?_, q⟩
      show g.get? b = none
      cases r : g.get? b with
      | none => rfl
      | some v => exact (hn (.inr (by simp [r]))).elim
def rest (g h : Heap) (L d : Addr) : List (Addr × Obj) := (allNews g h L).filter fun p => decide (p.1 ≠ d)
theorem news_all {g h : Heap} {L : Addr} : News g L h (allNews g h L) := fun p hp => let ⟨a, b, c⟩ := of_mem_allNews hp; ⟨c, a, b⟩
end L2
namespace L2
open PySem PySem.Spec PyProof.Rows
structure Mod (K : PySem.W.Frag) (mg : Str → Option Value) (base : Heap) : Prop where
  kin : K.In base
  glob : base.Ns mainGlobals mg
  blt : ∃ mb, base.Ns builtinsNs mb ∧ ∀ x : Str, x ≠ "__name__" → mb x = bootBuiltins x
  nolimit : base.NoLimit
structure Cx where
  prog : Program
  w : World
  K : PySem.W.Frag
  mg : Str → Option Value
  base : Heap
  A : Around
  N : List Str
  s₀ : Shared
  H₀ : Hp
  env : Env
  outer : List Env
  stack : List Env
  ex : List Addr
  fn : Str → Bool
  calm : Bool
  pn : List (Addr × Obj)
  xe : Value → Shared → Prop
def frs (l : List Env) : List Addr := l.filterMap (·.frame)
abbrev Cx.fs (X : Cx) : List Addr := frs X.outer
def Vis (sc : Scope) (x : Str) : Prop := sc.names.lookup x = some .local ∨ sc.names.lookup x = some .cell ∨ sc.names.lookup x = some .free
def Loc (sc : Scope) (x : Str) : Prop := sc.names.lookup x = some .local ∨ sc.names.lookup x = some .cell
def Look (env : Env) (h : Heap) (m : Str → Option Value) (x : Str) (u : Value) : Prop :=
  (env.kindOf x = some .local ∧ m x = some u) ∨ ((env.kindOf x = some .cell ∨ env.kindOf x = some .free) ∧ ∃ c, env.cells.lookup x = some c ∧ h.IsCell c (some u))
structure Cx.Ok (X : Cx) : Prop where
  mod : Mod X.K X.mg X.base
  kind : X.env.scope.kind = .function
  glob : X.env.globals = mainGlobals
  blt : X.env.builtins = builtinsNs
  above : X.s₀.heap.objs.size ≤ X.env.locals
  inj : ∀ x y c, X.env.cells.lookup x = some c → X.env.cells.lookup y = some c → x = y
  has : ∀ x, (X.env.kindOf x = some .cell ∨ X.env.kindOf x = some .free) → ∃ c, X.env.cells.lookup x = some c
  cab : ∀ x c, X.fn x = true → X.env.cells.lookup x = some c → X.s₀.heap.objs.size ≤ c
  hd : X.calm = true → X.A.handled = none
  frames : X.A.frames = some X.stack
  stk : X.stack = X.outer ∨ (X.stack = X.env :: X.outer ∧ X.env.frame = some X.env.locals)
  exf : ∀ b ∈ X.ex, b ≠ X.env.locals ∧ ∀ x c, X.env.cells.lookup x = some c → c ≠ b
  bs : ∀ b o, X.base.get? b = some o → X.s₀.heap.get? b = some o ∧ X.H₀ b = none
  bsz : X.base.objs.size ≤ X.s₀.heap.objs.size
  noex : ∀ b o, X.base.get? b = some o → b ∉ X.ex
  exfs : ∀ b ∈ X.ex, b ∉ X.fs
  funs : X.s₀.heap.FunFrames X.base X.outer
  frf : ∀ b ∈ X.fs, X.H₀ b = none
structure Inv (X : Cx) (pins : List (Addr × Obj)) (σ : List (Option V)) (H : Hp) (s : Shared) : Prop where
  ok : X.Ok
  os : s.os = X.s₀.os
  bare : AllBare s.gens
  base : Un X.fs X.ex X.H₀ H X.s₀.heap s.heap
  loc : ∃ m, s.heap.Ns X.env.locals m ∧ ∀ (i : Nat) (x : Str) (v : V), X.N[i]? = some x → σ[i]? = some (some v) → Vis X.env.scope x → ∃ u, RelV v u ∧ Look X.env s.heap m x u
  cell : ∀ x c, X.env.cells.lookup x = some c → ∃ v, s.heap.IsCell c v
  free : H X.env.locals = none
  freeC : ∀ x c, X.env.cells.lookup x = some c → H c = none
  pin : ∀ p ∈ X.pn ++ pins, s.heap.get? p.1 = some p.2 ∧ H p.1 = none ∧ p.1 ≠ X.env.locals ∧ p.1 ∉ X.fs ∧ ∀ v, p.2.data ≠ .cell v
  hok : HOk X.prog X.w H s.heap
  len : σ.length = X.N.length
section
variable {X : Cx} {pins : List (Addr × Obj)} {σ : List (Option V)} {H H' : Hp} {s : Shared} {h' : Heap}
theorem Cx.Ok.nofr (ok : X.Ok) {b : Addr} {o : Obj} (e : X.base.get? b = some o) : b ∉ X.fs := fun hb => by
  have := (ok.funs.mem hb).1
  rw [e] at this; cases this
theorem Inv.bs (I : Inv X pins σ H s) : ∀ b o, X.base.get? b = some o → s.heap.get? b = some o ∧ H b = none := fun b o e =>
  ⟨I.base.keep b o (I.ok.bs b o e).1 (I.ok.bs b o e).2 (I.ok.nofr e) (I.ok.noex b o e), I.base.free b o (I.ok.bs b o e).1 (I.ok.bs b o e).2 (I.ok.noex b o e)⟩
theorem Inv.bk (I : Inv X pins σ H s) : ∀ b o, X.base.get? b = some o → s.heap.get? b = some o := fun b o e => (I.bs b o e).1
theorem Inv.mod (I : Inv X pins σ H s) : Mod X.K X.mg X.base := I.ok.mod
theorem Inv.kIn (I : Inv X pins σ H s) : X.K.In s.heap := I.ok.mod.kin.keeps I.bk
theorem Inv.lt (I : Inv X pins σ H s) : X.env.locals < s.heap.objs.size := let ⟨_, hn, _⟩ := I.loc; hn.lt
theorem Inv.sz (I : Inv X pins σ H s) : X.s₀.heap.objs.size ≤ s.heap.objs.size := Nat.le_trans I.ok.above (Nat.le_of_lt I.lt)
theorem Inv.nofs (I : Inv X pins σ H s) {a : Addr} (h : s.heap.objs.size ≤ a) : a ∉ X.fs := fun hb => by
  obtain ⟨_, o, ho, _⟩ := I.ok.funs.mem hb
  exact absurd (Nat.lt_of_lt_of_le (Heap.lt_size ho) (Nat.le_trans I.sz h)) (Nat.lt_irrefl _)
theorem Inv.cne (I : Inv X pins σ H s) : ∀ x c, X.env.cells.lookup x = some c → c ≠ X.env.locals := fun x c e z => by
  obtain ⟨v, o, ho, hd⟩ := I.cell x c e
  obtain ⟨m, ⟨o', es, ep, ho', hd', _⟩, _⟩ := I.loc
  rw [z, ho'] at ho; cases ho; rw [hd'] at hd; cases hd
theorem Inv.funs (I : Inv X pins σ H s) : s.heap.FunFrames X.base X.outer := by
  have all : ∀ (l : List Env), (∀ b ∈ frs l, b ∈ X.fs) → X.s₀.heap.FunFrames X.base l → s.heap.FunFrames X.base l := by
    intro l
    induction l with
    | nil => intro _ _; trivial
    | cons env r ih =>
      intro hs hl
      obtain ⟨hk, ⟨L, o, hf, hn, ho, hd⟩, hr⟩ := hl
      have hL : L ∈ X.fs := hs L (by unfold frs; rw [List.filterMap_cons, hf]; exact List.mem_cons_self)
      obtain ⟨sl, e⟩ := I.base.slot L o ho (I.ok.frf L hL) hL fun z => I.ok.exfs L z hL
      exact ⟨hk, ⟨L, _, hf, hn, e, hd⟩, ih (fun b hb => hs b (by unfold frs; rw [List.filterMap_cons, hf]; exact List.mem_cons_of_mem _ hb)) hr⟩
  exact all X.outer (fun _ hb => hb) I.ok.funs
theorem Inv.stack (I : Inv X pins σ H s) : s.heap.FunFrames X.base X.stack := by
  rcases I.ok.stk with e | ⟨e, hf⟩
  · rw [e]; exact I.funs
  · rw [e]
    obtain ⟨m, hn, _⟩ := I.loc
    refine .cons (by rw [I.ok.kind]; decide) hf hn ?_ I.funs
    exact Heap.get?_none_of_le (Nat.le_trans I.ok.bsz I.ok.above)
theorem Inv.stkSub (I : Inv X pins σ H s) : ∀ b ∈ frs X.stack, b ∈ X.env.locals :: X.fs := fun b hb => by
  rcases I.ok.stk with e | ⟨e, hf⟩
  · rw [e] at hb; exact List.mem_cons_of_mem _ hb
  · rw [e] at hb
    unfold frs at hb
    rw [List.filterMap_cons, hf] at hb
    exact hb
theorem Inv.stkFree (I : Inv X pins σ H s) : ∀ b ∈ frs X.stack, H b = none := fun b hb => by
  rcases List.mem_cons.mp (I.stkSub b hb) with e | hb
  · rw [e]; exact I.free
  · obtain ⟨_, o, ho, _⟩ := I.ok.funs.mem hb
    exact I.base.free b o ho (I.ok.frf b hb) fun z => I.ok.exfs b z hb
theorem Inv.step {g' : Array GenState} {t' : Nat} {d' : Drawn} {ch : List Addr} (I : Inv X pins σ H s)
    (hch : ∀ b ∈ ch, (b ∈ X.ex ∨ X.s₀.heap.objs.size ≤ b) ∧ b ≠ X.env.locals ∧ (∀ x c, X.env.cells.lookup x = some c → c ≠ b) ∧ ∀ p ∈ X.pn ++ pins, p.1 ≠ b)
    (keep : ∀ b o, b ≠ X.env.locals → b ∉ X.fs → b ∉ ch → s.heap.get? b = some o → H b = none → h'.get? b = some o)
    (slot : ∀ b o, b ≠ X.env.locals → b ∈ X.fs → b ∉ ch → s.heap.get? b = some o → H b = none → ∃ sl, h'.get? b = some { o with slots := sl }) (free : ∀ b o, b ∉ ch → s.heap.get? b = some o → H b = none → H' b = none)
    (there : ∀ b o, b ∉ ch → s.heap.get? b = some o → ∃ o', h'.get? b = some o')
    (tups : ∀ b xs, H b = some (.tup xs) → H' b = some (.tup xs)) (frzs : ∀ b o u, H b = some (.frz o u) → H' b = some (.frz o u)) (tbls : ∀ b ps, H b = some (.tbl ps) → ∃ more, H' b = some (.tbl (ps ++ more)))
    (ns : ∀ m, s.heap.Ns X.env.locals m → h'.Ns X.env.locals m) (hok : HOk X.prog X.w H' h') (hg : AllBare g') :
    Inv X pins σ H' { s with heap := h', gens := g', drawn := d', toks := t' } := by
  have neL : ∀ b o, X.s₀.heap.get? b = some o → b ≠ X.env.locals := fun b o e => Nat.ne_of_lt (Nat.lt_of_lt_of_le (Heap.lt_size e) I.ok.above)
  have neC : ∀ b o, X.s₀.heap.get? b = some o → b ∉ X.ex → b ∉ ch := fun b o e hx hb => by
    rcases (hch b hb).1 with z | z
    · exact hx z
    · exact absurd (Nat.lt_of_lt_of_le (Heap.lt_size e) z) (Nat.lt_irrefl _)
  have cellK : ∀ x c, X.env.cells.lookup x = some c → ∀ v, s.heap.IsCell c v → h'.IsCell c v := fun x c e v ⟨o, ho, hd⟩ => by
    have nch : c ∉ ch := fun z => (hch c z).2.2.1 x c e rfl
    by_cases hc : c ∈ X.fs
    · obtain ⟨sl, q⟩ := slot c o (I.cne x c e) hc nch ho (I.freeC x c e)
      exact ⟨_, q, hd⟩
    · exact ⟨o, keep c o (I.cne x c e) hc nch ho (I.freeC x c e), hd⟩
  refine ⟨I.ok, I.os, hg, ⟨fun b o e n hb hx => ?_, fun b o e n hb hx => ?_, fun b o e n hx => ?_, fun b o e hx => ?_, fun b xs e => tups b xs (I.base.tups b xs e), fun b o xs e => frzs b o xs (I.base.frzs b o xs e), fun b ps e => ?_⟩, ?_, fun x c e => ?_, ?_, fun x c e => ?_, fun p hp => ?_, hok, I.len⟩
  · exact keep b o (neL b o e) hb (neC b o e hx) (I.base.keep b o e n hb hx) (I.base.free b o e n hx)
  · obtain ⟨sl, e1⟩ := I.base.slot b o e n hb hx
    obtain ⟨sl', e2⟩ := slot b _ (neL b o e) hb (neC b o e hx) e1 (I.base.free b o e n hx)
    exact ⟨sl', e2⟩
  · obtain ⟨o', e1⟩ := I.base.there b o e hx
    exact free b o' (neC b o e hx) e1 (I.base.free b o e n hx)
  · obtain ⟨o', e1⟩ := I.base.there b o e hx
    exact there b o' (neC b o e hx) e1
  · obtain ⟨m1, e1⟩ := I.base.tbls b ps e
    obtain ⟨m2, e2⟩ := tbls b _ e1
    exact ⟨m1 ++ m2, by rw [e2, Array.append_assoc]⟩
  · obtain ⟨m, hn, hl⟩ := I.loc
    refine ⟨m, ns m hn, fun i x v e1 e2 e3 => ?_⟩
    obtain ⟨u, r, l⟩ := hl i x v e1 e2 e3
    refine ⟨u, r, ?_⟩
    rcases l with l | ⟨k, c, e, z⟩
    · exact .inl l
    · exact .inr ⟨k, c, e, cellK x c e _ z⟩
  · obtain ⟨v, z⟩ := I.cell x c e
    exact ⟨v, cellK x c e v z⟩
  · obtain ⟨m, ⟨o, _, _, ho, _⟩, _⟩ := I.loc
    exact free _ o (fun z => (hch _ z).2.1 rfl) ho I.free
  · obtain ⟨v, o, ho, hd⟩ := I.cell x c e
    exact free c o (fun z => (hch c z).2.2.1 x c e rfl) ho (I.freeC x c e)
  · obtain ⟨e, n, ne, nf, d⟩ := I.pin p hp
    have nch : p.1 ∉ ch := fun z => (hch p.1 z).2.2.2 p hp rfl
    exact ⟨keep p.1 p.2 ne nf nch e n, free p.1 p.2 nch e n, ne, nf, d⟩
theorem Inv.un {t' : Nat} (I : Inv X pins σ H s) (u : Un X.fs [] H H' s.heap h') (hok : HOk X.prog X.w H' h') : Inv X pins σ H' { s with heap := h', toks := t' } := by
  obtain ⟨m, ⟨o, es, ep, ho, r⟩, _⟩ := id I.loc
  obtain ⟨sl, hL⟩ := u.any ho I.free (by simp)
  exact I.step (g' := s.gens) (d' := s.drawn) (ch := []) (fun _ z => nomatch z) (fun b o _ hb _ e n => u.keep b o e n hb (by simp)) (fun b o _ hb _ e n => u.slot b o e n hb (by simp)) (fun b o _ e n => u.free b o e n (by simp)) (fun b o _ e => u.there b o e (by simp)) u.tups u.frzs u.tbls (fun m' hm => by
    obtain ⟨o', es', ep', ho', r'⟩ := hm
    rw [ho] at ho'; cases ho'
    exact ⟨_, es', ep', hL, r'⟩) hok I.bare
theorem Inv.call {g' : Array GenState} {t' : Nat} {d' : Drawn} {ch : List Addr} (I : Inv X pins σ H s) (u : Un (frs X.stack) ch H H' s.heap h') (hok : HOk X.prog X.w H' h') (hg : AllBare g')
    (hch : ∀ b ∈ ch, (b ∈ X.ex ∨ X.s₀.heap.objs.size ≤ b) ∧ b ≠ X.env.locals ∧ (∀ x c, X.env.cells.lookup x = some c → c ≠ b) ∧ ∀ p ∈ X.pn ++ pins, p.1 ≠ b) :
    Inv X pins σ H' { s with heap := h', gens := g', drawn := d', toks := t' } := by
  obtain ⟨m, ⟨o, es, ep, ho, r⟩, _⟩ := id I.loc
  obtain ⟨sl, hL⟩ := u.any ho I.free fun z => (hch _ z).2.1 rfl
  exact I.step (ch := ch) hch (fun b o hL hb hc e n => u.keep b o e n (fun z => (List.mem_cons.mp (I.stkSub b z)).elim hL hb) hc) (fun b o _ _ hc e n => u.any e n hc) (fun b o hc e n => u.free b o e n hc) (fun b o hc e => u.there b o e hc) u.tups u.frzs u.tbls (fun m' hm => by
    obtain ⟨o', es', ep', ho', r'⟩ := hm
    rw [ho] at ho'; cases ho'
    exact ⟨_, es', ep', hL, r'⟩) hok hg
theorem Inv.turned {t' : Nat} {it : Addr} (I : Inv X pins σ H s) (k : ∀ b o, b ≠ it → s.heap.get? b = some o → h'.get? b = some o) (hn : H it = none) (hL : it ≠ X.env.locals)
    (h1 : it ∈ X.ex ∨ X.s₀.heap.objs.size ≤ it) (h2 : ∀ x c, X.env.cells.lookup x = some c → c ≠ it) (h3 : ∀ p ∈ X.pn ++ pins, p.1 ≠ it) : Inv X pins σ H { s with heap := h', toks := t' } := by
  have nit : ∀ b u, H b = some u → b ≠ it := fun b u e z => by rw [z, hn] at e; cases e
  refine I.step (g' := s.gens) (d' := s.drawn) (ch := [it]) (fun b hb => ?_) (fun b o _ _ hc e _ => k b o (fun z => hc (by simp [z])) e) (fun b o _ _ hc e _ => ⟨o.slots, k b o (fun z => hc (by simp [z])) e⟩) (fun _ _ _ _ n => n)
    (fun b o hc e => ⟨o, k b o (fun z => hc (by simp [z])) e⟩) (fun _ _ e => e) (fun _ _ _ e => e) (fun b ps e => ⟨#[], by rw [e]; simp⟩) (fun m hm => ?_) (fun b u e => ?_) I.bare
  · have e : b = it := by simpa using hb
    subst e
    exact ⟨h1, hL, h2, h3⟩
  · obtain ⟨o, es, ep, ho, r⟩ := hm
    exact ⟨o, es, ep, k _ o (Ne.symm hL) ho, r⟩
  · refine (I.hok b u e).stay (fun c v hc q => k c v ?_ q) (fun _ q => q) fun _ _ q => q
    rcases hc with z | z
    · rw [z]; exact nit b u e
    · exact nit c _ z
theorem Inv.tok (I : Inv X pins σ H s) (t : Nat) : Inv X pins σ H { s with toks := t } := I.un (h' := s.heap) (t' := t) Un.refl I.hok
theorem Inv.kept {t' : Nat} (I : Inv X pins σ H s) (k : ∀ b u, s.heap.get? b = some u → h'.get? b = some u) : Inv X pins σ H { s with heap := h', toks := t' } := I.un (Un.kept k) (I.hok.kept k)
theorem Inv.laid {a : Addr} {o : HO} {t' : Nat} (I : Inv X pins σ H s) (k : ∀ b u, s.heap.get? b = some u → h'.get? b = some u) (hp : s.heap.objs.size ≤ a) (new : ObjOk X.prog X.w (upd H a o) h' a o) :
    Inv X pins σ (upd H a o) { s with heap := h', toks := t' } := I.un (Un.laid k hp (I.hok.fresh hp)) (I.hok.laid k hp new)
theorem Inv.write {x e : Addr} {o : HO} {t' : Nat} (I : Inv X pins σ H s) (mu : Mut (H x)) (he : e = x ∨ H e = some (.own x)) (k : ∀ b u, b ≠ e → s.heap.get? b = some u → h'.get? b = some u) (heo : ∃ u, h'.get? e = some u)
    (new : ObjOk X.prog X.w (upd H x o) h' x o) : Inv X pins σ (upd H x o) { s with heap := h', toks := t' } := I.un (Un.write mu he k heo) (I.hok.write mu he k heo new)
theorem Inv.pins_of {pins' : List (Addr × Obj)} (I : Inv X pins σ H s) (h : ∀ p ∈ pins', s.heap.get? p.1 = some p.2 ∧ H p.1 = none ∧ p.1 ≠ X.env.locals ∧ p.1 ∉ X.fs ∧ ∀ v, p.2.data ≠ .cell v) : Inv X pins' σ H s :=
  ⟨I.ok, I.os, I.bare, I.base, I.loc, I.cell, I.free, I.freeC, fun p hp => (List.mem_append.mp hp).elim (fun z => I.pin p (List.mem_append_left _ z)) (h p), I.hok, I.len⟩
theorem nodup_ix {N : List Str} (hN : N.Nodup) {i j : Nat} {x : Str} (a : N[i]? = some x) (b : N[j]? = some x) : i = j := by
  obtain ⟨h1, e1⟩ := List.getElem?_eq_some_iff.mp a
  obtain ⟨h2, e2⟩ := List.getElem?_eq_some_iff.mp b
  exact (List.getElem_inj hN).mp (e1.trans e2.symm)
theorem store_ok2 {M : Model} {A : Around} {E : Value → Shared → Prop} {i : Nat} {x : Str} {v : V} {u : Value} {Q : Unit → Shared → Prop} (I : Inv X pins σ H s) (hN : X.N.Nodup) (hi : X.N[i]? = some x) (hx : Loc X.env.scope x) (r : RelV v u)
    (h : ∀ s', Inv X pins (σ.set i (some v)) H s' → (∃ a, Heap.SameBut a s.heap s'.heap ∧ (a = X.env.locals ∨ X.env.cells.lookup x = some a)) → Q () s') (hf : X.fn x = true ∨ X.env.scope.names.lookup x = some .local := by first | exact .inl rfl | exact .inr rfl | assumption) : wpAny M A (storeName X.env x u) Q E s := by
  obtain ⟨m, hn, hl⟩ := id I.loc
  have hcls : (X.env.scope.kind == .class || (X.env.scope.kind == .module && X.env.locals != X.env.globals)) = false := by rw [I.ok.kind]; rfl
  have hiσ : i < σ.length := by rw [I.len]; exact (List.getElem?_eq_some_iff.mp hi).1
  have cne := I.cne
  have tracked : ∀ {a : Addr} {h' : Heap}, (∃ o, s.heap.get? a = some o ∧ H a = none) → Heap.SameBut a s.heap h' → HOk X.prog X.w H h' := fun {a h'} ha hs b ob e => by
    obtain ⟨_, _, hfree⟩ := ha
    refine (I.hok b ob e).stay (fun c w' hc q => (hs.2 c ?_).trans q) (fun _ q => q) fun _ _ q => q
    rintro rfl
    rcases hc with rfl | hc
    · rw [hfree] at e; cases e
    · rw [hfree] at hc; cases hc
  rcases hx with hk | hk
  · refine wpAny_storeName_local hk hn (fun h' hn' hs => ?_) hcls
    obtain ⟨oL, _, _, hoL, _⟩ := id hn
    refine h _ ⟨I.ok, I.os, I.bare, ⟨fun b o e n hb hx => ?_, fun b o e n hb hx => ?_, I.base.free, fun b o e hx => ?_, I.base.tups, I.base.frzs, I.base.tbls⟩, ⟨_, hn', fun j y v' e1 e2 e3 => ?_⟩, fun y c e => ?_, I.free, I.freeC, fun p hp => ?_, tracked ⟨oL, hoL, I.free⟩ hs, by simpa using I.len⟩ ⟨_, hs, .inl rfl⟩
    · exact (hs.2 b (Nat.ne_of_lt (Nat.lt_of_lt_of_le (Heap.lt_size e) I.ok.above))).trans (I.base.keep b o e n hb hx)
    · obtain ⟨sl, e1⟩ := I.base.slot b o e n hb hx
      exact ⟨sl, (hs.2 b (Nat.ne_of_lt (Nat.lt_of_lt_of_le (Heap.lt_size e) I.ok.above))).trans e1⟩
    · obtain ⟨o', e1⟩ := I.base.there b o e hx
      exact ⟨o', (hs.2 b (Nat.ne_of_lt (Nat.lt_of_lt_of_le (Heap.lt_size e) I.ok.above))).trans e1⟩
    · by_cases hj : j = i
      · subst hj
        rw [hi] at e1; cases e1
        rw [List.getElem?_set_self hiσ] at e2
        cases e2
        exact ⟨u, r, .inl ⟨hk, by simp⟩⟩
      · rw [List.getElem?_set_ne (Ne.symm hj)] at e2
        obtain ⟨u', r', q⟩ := hl j y v' e1 e2 e3
        refine ⟨u', r', ?_⟩
        rcases q with ⟨k, e⟩ | ⟨k, c, e, z⟩
        · refine .inl ⟨k, ?_⟩
          have : y ≠ x := fun e => hj (nodup_ix hN e1 (e ▸ hi))
          simp [this, e]
        · exact .inr ⟨k, c, e, z.sameBut hs (cne y c e)⟩
    · obtain ⟨w', z⟩ := I.cell y c e
      exact ⟨w', z.sameBut hs (cne y c e)⟩
    · obtain ⟨e, n, ne, nf, d⟩ := I.pin p hp
      exact ⟨(hs.2 p.1 ne).trans e, n, ne, nf, d⟩
  · have hfn : X.fn x = true := by
      rcases hf with z | z
      · exact z
      · rw [z] at hk; cases hk
    obtain ⟨c, hc⟩ := I.ok.has x (.inl hk)
    obtain ⟨w', z⟩ := I.cell x c hc
    refine wpAny_storeName_cell I.ok.kind hk hc z (fun h' hc' hs => ?_)
    obtain ⟨oc, hoc, hocd⟩ := id z
    refine h { s with heap := h' } ⟨I.ok, I.os, I.bare, ⟨fun b o e n hb hx => ?_, fun b o e n hb hx => ?_, I.base.free, fun b o e hx => ?_, I.base.tups, I.base.frzs, I.base.tbls⟩, ⟨m, hn.sameBut hs (Ne.symm (cne x c hc)), fun j y v' e1 e2 e3 => ?_⟩, fun y c' e => ?_, I.free, I.freeC, fun p hp => ?_, tracked ⟨oc, hoc, I.freeC x c hc⟩ hs, by simpa using I.len⟩ ⟨c, hs, .inr hc⟩
    · exact (hs.2 b (Nat.ne_of_lt (Nat.lt_of_lt_of_le (Heap.lt_size e) (I.ok.cab x c hfn hc)))).trans (I.base.keep b o e n hb hx)
    · obtain ⟨sl, e1⟩ := I.base.slot b o e n hb hx
      exact ⟨sl, (hs.2 b (Nat.ne_of_lt (Nat.lt_of_lt_of_le (Heap.lt_size e) (I.ok.cab x c hfn hc)))).trans e1⟩
    · obtain ⟨o', e1⟩ := I.base.there b o e hx
      exact ⟨o', (hs.2 b (Nat.ne_of_lt (Nat.lt_of_lt_of_le (Heap.lt_size e) (I.ok.cab x c hfn hc)))).trans e1⟩
    · by_cases hj : j = i
      · subst hj
        rw [hi] at e1; cases e1
        rw [List.getElem?_set_self hiσ] at e2
        cases e2
        exact ⟨u, r, .inr ⟨.inl hk, c, hc, hc'⟩⟩
      · rw [List.getElem?_set_ne (Ne.symm hj)] at e2
        obtain ⟨u', r', q⟩ := hl j y v' e1 e2 e3
        refine ⟨u', r', ?_⟩
        rcases q with q | ⟨k, c', e, z'⟩
        · exact .inl q
        · refine .inr ⟨k, c', e, z'.sameBut hs ?_⟩
          rintro rfl
          exact hj (nodup_ix hN e1 (I.ok.inj _ _ _ e hc ▸ hi))
    · by_cases hcc : c' = c
      · subst hcc; exact ⟨_, hc'⟩
      · obtain ⟨w2, z2⟩ := I.cell y c' e
        exact ⟨w2, z2.sameBut hs hcc⟩
    · obtain ⟨e, n, ne, nf, d⟩ := I.pin p hp
      refine ⟨(hs.2 p.1 ?_).trans e, n, ne, nf, d⟩
      intro q
      rw [q, hoc] at e
      have q' : oc = p.2 := Option.some.inj e
      exact d w' (by rw [← q']; exact hocd)
theorem store_ok {M : Model} {A : Around} {E : Value → Shared → Prop} {i : Nat} {x : Str} {v : V} {u : Value} {Q : Unit → Shared → Prop} (I : Inv X pins σ H s) (hN : X.N.Nodup) (hi : X.N[i]? = some x) (hx : Loc X.env.scope x) (r : RelV v u)
    (h : ∀ s', Inv X pins (σ.set i (some v)) H s' → Q () s') (hf : X.fn x = true ∨ X.env.scope.names.lookup x = some .local := by first | exact .inl rfl | exact .inr rfl | assumption) : wpAny M A (storeName X.env x u) Q E s :=
  store_ok2 I hN hi hx r (fun s' I' _ => h s' I') hf
theorem Inv.call' {s' : Shared} {ch : List Addr} (I : Inv X pins σ H s) (ho : s'.os = s.os) (u : Un (frs X.stack) ch H H' s.heap s'.heap) (hok : HOk X.prog X.w H' s'.heap) (hg : AllBare s'.gens)
    (hch : ∀ b ∈ ch, (b ∈ X.ex ∨ X.s₀.heap.objs.size ≤ b) ∧ b ≠ X.env.locals ∧ (∀ x c, X.env.cells.lookup x = some c → c ≠ b) ∧ ∀ p ∈ X.pn ++ pins, p.1 ≠ b) : Inv X pins σ H' s' := by
  obtain ⟨h', g', d', t', o'⟩ := s'
  have e : o' = s.os := ho
  subst e
  exact I.call (g' := g') (t' := t') (d' := d') u hok hg hch
end
abbrev XK := Value → Option Addr → Hp → Prop
abbrev St := List (Option V)
abbrev VK := V → Hp → Prop
abbrev TE := St → Hp → VK → Prop
abbrev TT := St → Hp → (Bool → Hp → Prop) → Prop
abbrev TA := St → Hp → (List V → Hp → Prop) → Prop
structure Ends where
  nx : St → Hp → Prop
  rt : VK
  bk : St → Hp → Prop := fun _ _ => False
  ct : St → Hp → Prop := fun _ _ => False
abbrev TS := Ends → St → Hp → Prop
def EP (X : Cx) (pins : List (Addr × Obj)) (σ : St) (Q : VK) (u : Value) (s' : Shared) : Prop := ∃ v H', Inv X pins σ H' s' ∧ RelV v u ∧ Q v H'
def TP (X : Cx) (pins : List (Addr × Obj)) (σ : St) (Q : Bool → Hp → Prop) (b : Bool) (s' : Shared) : Prop := ∃ H', Inv X pins σ H' s' ∧ Q b H'
def AP (X : Cx) (pins : List (Addr × Obj)) (σ : St) (Q : List V → Hp → Prop) (us : List Value) (s' : Shared) : Prop := ∃ vs H', Inv X pins σ H' s' ∧ Vals vs us ∧ Q vs H'
def SP (X : Cx) (pins : List (Addr × Obj)) (D : Ends) (f : Flow) (s' : Shared) : Prop :=
  match f with
  | .next => ∃ σ' H', Inv X pins σ' H' s' ∧ D.nx σ' H'
  | .brk => ∃ σ' H', Inv X pins σ' H' s' ∧ D.bk σ' H'
  | .cont => ∃ σ' H', Inv X pins σ' H' s' ∧ D.ct σ' H'
  | .ret u => ∃ v σ' H', Inv X pins σ' H' s' ∧ RelV v u ∧ D.rt v H'
def PE (X : Cx) (e : Expr) (t : TE) : Prop :=
  ∀ (pins : List (Addr × Obj)) (s : Shared) (σ : St) (H : Hp) (Q : VK), Inv X pins σ H s → t σ H Q → wpAny (model X.prog X.w) X.A (eval e X.env) (EP X pins σ Q) X.xe s
def PT (X : Cx) (e : Expr) (t : TT) : Prop :=
  ∀ (pins : List (Addr × Obj)) (s : Shared) (σ : St) (H : Hp) (Q : Bool → Hp → Prop), Inv X pins σ H s → t σ H Q → wpAny (model X.prog X.w) X.A (isTrue e X.env (eval e X.env)) (TP X pins σ Q) X.xe s
def PW (X : Cx) (e : Expr) (t : TT) : Prop :=
  ∀ (whole : Sem Value) (pins : List (Addr × Obj)) (s : Shared) (σ : St) (H : Hp) (Q : Bool → Hp → Prop), Inv X pins σ H s → t σ H Q → wpAny (model X.prog X.w) X.A (isTrue e X.env whole) (TP X pins σ Q) X.xe s
theorem PW.pt {X : Cx} {e : Expr} {t : TT} (h : PW X e t) : PT X e t := h _
def PA (X : Cx) (es : List Expr) (t : TA) : Prop :=
  ∀ (pos : Pos) (pins : List (Addr × Obj)) (s : Shared) (σ : St) (H : Hp) (Q : List V → Hp → Prop), Inv X pins σ H s → t σ H Q → wpAny (model X.prog X.w) X.A (spliced (backTo pos (starEach es X.env))) (AP X pins σ Q) X.xe s
def PS (X : Cx) (st : Stmt) (t : TS) : Prop :=
  ∀ (pins : List (Addr × Obj)) (s : Shared) (σ : St) (H : Hp) (D : Ends), Inv X pins σ H s → t D σ H → wpAny (model X.prog X.w) X.A (exec st X.env) (SP X pins D) X.xe s
def PSs (X : Cx) (st : List Stmt) (t : TS) : Prop :=
  ∀ (pins : List (Addr × Obj)) (s : Shared) (σ : St) (H : Hp) (D : Ends), Inv X pins σ H s → t D σ H → wpAny (model X.prog X.w) X.A (execs st X.env) (SP X pins D) X.xe s
theorem thn {α : Type} {t : Sem α} {Q Q' : α → Shared → Prop} {M : Model} {A : Around} {E : Value → Shared → Prop} {s : Shared} (h : wpAny M A t Q E s) (hQ : ∀ a s, Q a s → Q' a s) : wpAny M A t Q' E s := wpAny_mono h hQ fun _ _ x => x
end L2
namespace L2
open PySem PySem.Spec PyProof.Rows
section
variable {X : Cx}
def tVar (i : Nat) : TE := fun σ H Q => ∃ v, σ[i]? = some (some v) ∧ Q v H
def tC (v : V) : TE := fun _ H Q => Q v H
theorem pe_var {i : Nat} {x : Str} {pos : Pos} (hN : X.N[i]? = some x) (hv : Vis X.env.scope x) (hd : (x == ("__debug__" : Str)) = false := by decide) (hcd : (x == ("__classdict__" : Str)) = false := by decide) : PE X (.Name x pos) (tVar i) := by
  intro pins s σ H Q I h
  obtain ⟨v, e, h⟩ := h
  obtain ⟨m, hn, hl⟩ := I.loc
  obtain ⟨u, r, l⟩ := hl i x v hN e hv
  have fin : EP X pins σ Q u s := ⟨v, H, I, r, h⟩
  rcases l with ⟨hk, hm⟩ | ⟨hk, c, hc, hcell⟩
  · exact wpAny_Name (wpAny_loadName_local I.ok.kind hk hn hm fin) hd
  · rcases hk with hk | hk
    · exact wpAny_Name (wpAny_loadName_cell I.ok.kind hk hc hcell fin) hd
    · exact wpAny_Name (wpAny_loadName_free I.ok.kind hk hc hcell fin hcd) hd
theorem zc {i j pos} : PE X (.Constant (.int i) j pos) (tC (.int i)) := fun _ _ _ H _ I h => wpAny_Constant_int ⟨.int i, H, I.tok _, ⟨_, rfl⟩, h⟩
theorem pe_bl {b j pos} : PE X (.Constant (.bool b) j pos) (tC (.bl b)) := fun _ _ _ H _ I h => Constant_bool ⟨.bl b, H, I, rfl, h⟩
theorem yZ {j pos} : PE X (.Constant .none j pos) (tC .non) := fun _ _ _ H _ I h => Constant_none ⟨.non, H, I, rfl, h⟩
theorem yY {x j pos} : PE X (.Constant (.str x) j pos) (tC (.str x)) := fun _ _ _ H _ I h => Calls.Constant_str ⟨.str x, H, I.tok _, ⟨_, rfl⟩, h⟩
def Gl (X : Cx) (x : Str) : Prop := X.env.kindOf x = some .globalImplicit
theorem ld_glob {E : Value → Shared → Prop} {pins : List (Addr × Obj)} {s : Shared} {σ : St} {H : Hp} {x : Str} {u : Value} {pos : Pos} {Q : Value → Shared → Prop} (I : Inv X pins σ H s) (hg : Gl X x) (hm : X.mg x = some u) (h : Q u s)
    (hd : (x == ("__debug__" : Str)) = false := by decide) : wpAny (model X.prog X.w) X.A (eval (.Name x pos) X.env) Q E s :=
  Calls.Name_function_global I.ok.kind hg (Calls.loadGlobal_global (by rw [I.ok.glob]; exact I.mod.glob.keeps I.bk) hm h) hd
theorem ld_blt {E : Value → Shared → Prop} {pins : List (Addr × Obj)} {s : Shared} {σ : St} {H : Hp} {x : Str} {u : Value} {pos : Pos} {Q : Value → Shared → Prop} (I : Inv X pins σ H s) (hg : Gl X x) (hm : X.mg x = none) (hv : bootBuiltins x = some u) (h : Q u s)
    (hn : x ≠ "__name__" := by decide) (hd : (x == ("__debug__" : Str)) = false := by decide) : wpAny (model X.prog X.w) X.A (eval (.Name x pos) X.env) Q E s := by
  obtain ⟨mb, h1, h2⟩ := I.mod.blt
  exact Calls.Name_function_global I.ok.kind hg (Calls.loadGlobal_builtin (by rw [I.ok.glob]; exact I.mod.glob.keeps I.bk) hm (by rw [I.ok.blt]; exact h1.keeps I.bk) ((h2 x hn).trans hv) h) hd
theorem pe_glob {x : Str} {v : V} {u : Value} {pos : Pos} (hg : Gl X x) (hm : X.mg x = some u) (r : RelV v u) (hd : (x == ("__debug__" : Str)) = false := by decide) : PE X (.Name x pos) (tC v) :=
  fun _ _ _ H _ I h => ld_glob I hg hm ⟨v, H, I, r, h⟩ hd
theorem pe_bltn {x : Str} {v : V} {u : Value} {pos : Pos} (hg : Gl X x) (hm : X.mg x = none) (hv : bootBuiltins x = some u) (r : RelV v u) (hn : x ≠ "__name__" := by decide) (hd : (x == ("__debug__" : Str)) = false := by decide) : PE X (.Name x pos) (tC v) :=
  fun _ _ _ H _ I h => ld_blt I hg hm hv ⟨v, H, I, r, h⟩ hn hd
variable {a b : Expr} {ta tb : TE} {pos : Pos}
def PC (X : Cx) (op : CmpOp) (a b : Expr) (t : TE) : Prop :=
  ∀ (pins : List (Addr × Obj)) (s : Shared) (σ : St) (H : Hp) (Q : VK), Inv X pins σ H s → t σ H Q →
    wpAny (model X.prog X.w) X.A (eval a X.env) (fun v s₁ => wpAny (model X.prog X.w) X.A (eval b X.env) (fun u s₂ => wpAny (model X.prog X.w) X.A (compareOp op v u) (EP X pins σ Q) X.xe s₂) X.xe s₁) X.xe s
theorem nobehind (b : Expr) {op : CmpOp} (h : op ≠ .In) (h2 : op ≠ .NotIn) : behindInMarks op b = false := by
  have e1 : (op == CmpOp.In) = false := by cases op <;> first | rfl | exact absurd rfl h
  have e2 : (op == CmpOp.NotIn) = false := by cases op <;> first | rfl | exact absurd rfl h2
  cases b <;> simp [behindInMarks, e1, e2]
def tB (t : TE) : TT := fun σ H Q => t σ H fun x H1 => ∃ c, x = .bl c ∧ Q c H1
theorem pt_cmp {op : CmpOp} {t : TE} (h : PC X op a b t) (h1 : behindInMarks op b = false := by first | exact nobehind _ (by decide) (by decide) | rfl) : PT X (.Compare a [op] [b] pos) (tB t) := by
  intro pins s σ H Q I hw
  refine wpAny_isTrue_Compare1 (thn (h pins s σ H _ I hw) fun v s1 h1 => thn h1 fun u s2 h2 => thn h2 fun c s3 ⟨x, H1, I1, r1, q1⟩ => ?_) h1
  obtain ⟨d, rfl, q⟩ := q1
  cases r1
  exact wpAny_truthy_bool ⟨H1, I1, q⟩
theorem yA {e : Expr} {t : TE} (h : PE X e t) (he : ∀ whole, isTrue e X.env whole = (do let v ← whole; standAt e.pos; holding [v] (truthy v)) := by intro _; rfl) : PT X e (tB t) := by
  intro pins s σ H Q I hw
  refine isTrue_plain (thn (h pins s σ H _ I hw) fun v s1 ⟨x, H1, I1, r1, q1⟩ => ?_) (he _)
  obtain ⟨d, rfl, q⟩ := q1
  cases r1
  exact wpAny_truthy_bool ⟨H1, I1, q⟩
variable {tA tB' : TT} {rest : List Expr}
def tAnd (t u : TT) : TT := fun σ H Q => t σ H fun c H1 => if c = true then u σ H1 Q else Q false H1
def tNot (t : TT) : TT := fun σ H Q => t σ H fun c H1 => Q (!c) H1
theorem xg (ha : PT X a tA) : PW X (.BoolOp .And [a] pos) tA := by
  intro wh pins s σ H Q I h
  refine isTrue_and (thn (ha pins s σ H Q I h) fun c s1 e => ?_)
  cases c with
  | true => exact isTrue_and_nil e
  | false => exact e
theorem pw_and (ha : PT X a tA) (hb : PW X (.BoolOp .And (b :: rest) pos) tB') : PW X (.BoolOp .And (a :: b :: rest) pos) (tAnd tA tB') := by
  intro wh pins s σ H Q I h
  refine isTrue_and (thn (ha pins s σ H _ I h) fun c s1 ⟨H1, I1, q1⟩ => ?_)
  cases c with
  | true => exact hb wh pins s1 σ H1 Q I1 q1
  | false => exact ⟨H1, I1, q1⟩
theorem pt_not (ha : PT X a tA) : PT X (.UnaryOp .Not a pos) (tNot tA) := by
  intro pins s σ H Q I h
  exact isTrue_not (ha pins s σ H (fun c H1 => Q (!c) H1) I h)
def tAndV (ta tb : TE) : TE := fun σ H Q => ta σ H fun x H1 => ∃ c, x = .bl c ∧ if c = true then tb σ H1 Q else Q (.bl false) H1
def tNotV (ta : TE) : TE := fun σ H Q => ta σ H fun x H1 => ∃ c, x = .bl c ∧ Q (.bl (!c)) H1
theorem pe_one {op} {t : TE} (h : PE X a t) : PE X (.BoolOp op [a] pos) t := fun pins s σ H Q I hw => BoolOp_one (h pins s σ H Q I hw)
theorem pe_and (ha : PE X a ta) (hb : PE X (.BoolOp .And (b :: rest) pos) tb) : PE X (.BoolOp .And (a :: b :: rest) pos) (tAndV ta tb) := by
  intro pins s σ H Q I h
  refine BoolOp_and (thn (ha pins s σ H _ I h) fun v s1 ⟨x, H1, I1, r1, q1⟩ => ?_)
  obtain ⟨c, rfl, q1⟩ := q1
  cases r1
  refine wpAny_truthy_bool ?_
  cases c with
  | true => exact hb pins s1 σ H1 Q I1 q1
  | false => exact ⟨.bl false, H1, I1, rfl, q1⟩
theorem pe_not (ha : PE X a ta) : PE X (.UnaryOp .Not a pos) (tNotV ta) := by
  intro pins s σ H Q I h
  refine UnaryOp_ (thn (ha pins s σ H _ I h) fun v s1 ⟨x, H1, I1, r1, q1⟩ => ?_)
  obtain ⟨c, rfl, q1⟩ := q1
  cases r1
  exact not_of (wpAny_truthy_bool ⟨.bl (!c), H1, I1, rfl, q1⟩)
end
end L2
namespace L2
open PySem PySem.Spec PyProof.Rows
def SqL (K : PySem.W.Frag) (H : Hp) (a : Addr) (xs : List V) : Prop :=
  Rd H a (.lst xs) ∨
    ∃ (o : Obj) (its : Array Value) (n : Nat), K.lookup a = some o ∧ o.cls = .type "list" ∧ o.dict = none ∧ o.data = .seq its n ∧ its.size ≤ sizeLine ∧ Vals xs its.toList
def SqT (K : PySem.W.Frag) (H : Hp) (a : Addr) (xs : List V) : Prop :=
  Rd H a (.tup xs) ∨
    ∃ (o : Obj) (its : Array Value) (n : Nat), K.lookup a = some o ∧ o.cls = .type "tuple" ∧ o.data = .seq its n ∧ its.size ≤ sizeLine ∧ Vals xs its.toList
def absV : Value → Option V
  | .none => some .non
  | .bool b => some (.bl b)
  | .int i _ => some (.int i)
  | .str x _ => some (.str x)
  | .bytes b _ => some (.byt b)
  | .float b _ => some (.flt b)
  | .ref a => some (.ref a)
  | .type n => some (.ty n)
  | _ => none
theorem RelV.abs {x : V} {u : Value} (r : RelV x u) : absV u = some x := by
  cases x with
  | non => cases r; rfl
  | bl _ => cases r; rfl
  | int _ => obtain ⟨t, rfl⟩ := r; rfl
  | str _ => obtain ⟨t, rfl⟩ := r; rfl
  | byt _ => obtain ⟨t, rfl⟩ := r; rfl
  | flt _ => obtain ⟨t, rfl⟩ := r; rfl
  | ref _ => cases r; rfl
  | ty _ => cases r; rfl
theorem RelV.inj {x y : V} {u : Value} (r : RelV x u) (q : RelV y u) : x = y := Option.some.inj (r.abs.symm.trans q.abs)
theorem Vals.inj : ∀ {xs ys : List V} {us : List Value}, Vals xs us → Vals ys us → xs = ys
  | _, _, _, .nil, .nil => rfl
  | _, _, _, .cons r t, .cons r' t' => by rw [r.inj r', Vals.inj t t']
section
variable {X : Cx} {pins : List (Addr × Obj)} {σ : St} {H : Hp} {s : Shared} {a : Addr} {xs ys : List V}
theorem SqL.of {K : PySem.W.Frag} (h : H a = some (.lst xs)) : SqL K H a xs := .inl (.inl h)
theorem SqT.of {K : PySem.W.Frag} (h : H a = some (.tup xs)) : SqT K H a xs := .inl (.inl h)
theorem Inv.list (I : Inv X pins σ H s) (h : SqL X.K H a xs) : ∃ its : List Value, Vals xs its ∧ PlainL s.heap a its.toArray ∧ xs.length ≤ sizeLine := by
  rcases h with h | ⟨o, its, n, hk, hc, hd, hs, hz, r⟩
  · obtain ⟨z, its, n, r, e⟩ := h.ok I.hok
    exact ⟨its, r, ⟨_, n, e, rfl, rfl, rfl⟩, z⟩
  · refine ⟨its.toList, r, ⟨o, n, I.kIn a o hk, hc, hd, by simpa using hs⟩, ?_⟩
    have e := r.length
    simp only [Array.length_toList] at e
    omega
theorem Inv.tuple (I : Inv X pins σ H s) (h : SqT X.K H a xs) : ∃ its : List Value, Vals xs its ∧ IsTup s.heap a its.toArray ∧ xs.length ≤ sizeLine := by
  rcases h with h | ⟨o, its, n, hk, hc, hs, hz, r⟩
  · obtain ⟨z, its, r, p⟩ := h.ok I.hok
    exact ⟨its, r, p, z⟩
  · refine ⟨its.toList, r, ⟨o, I.kIn a o hk, hc, n, by simpa using hs⟩, ?_⟩
    have e := r.length
    simp only [Array.length_toList] at e
    omega
theorem Inv.list_inj (I : Inv X pins σ H s) (h : SqL X.K H a xs) (h' : SqL X.K H a ys) : xs = ys := by
  obtain ⟨its, r, ⟨o, n, e, _, _, d⟩, _⟩ := I.list h
  obtain ⟨its', r', ⟨o', n', e', _, _, d'⟩, _⟩ := I.list h'
  rw [e] at e'; cases e'
  rw [d] at d'
  injection d' with d1 _
  have : its = its' := by simpa using congrArg Array.toList d1
  subst this
  exact r.inj r'
theorem Inv.tuple_inj (I : Inv X pins σ H s) (h : SqT X.K H a xs) (h' : SqT X.K H a ys) : xs = ys := by
  obtain ⟨its, r, ⟨o, e, _, n, d⟩, _⟩ := I.tuple h
  obtain ⟨its', r', ⟨o', e', _, n', d'⟩, _⟩ := I.tuple h'
  rw [e] at e'; cases e'
  rw [d] at d'
  injection d' with d1 _
  have : its = its' := by simpa using congrArg Array.toList d1
  subst this
  exact r.inj r'
end
abbrev Cx.wish (X : Cx) (E : Value → Shared → Prop) : Cx := { X with xe := E }
abbrev Cx.nox (X : Cx) : Cx := X.wish fun _ _ => False
theorem Cx.Ok.wish {X : Cx} (ok : X.Ok) (E : Value → Shared → Prop) : (X.wish E).Ok :=
  ⟨ok.mod, ok.kind, ok.glob, ok.blt, ok.above, ok.inj, ok.has, ok.cab, ok.hd, ok.frames, ok.stk, ok.exf, ok.bs, ok.bsz, ok.noex, ok.exfs, ok.funs, ok.frf⟩
theorem Cx.Ok.unwish {X : Cx} {E : Value → Shared → Prop} (ok : (X.wish E).Ok) : X.Ok :=
  ⟨ok.mod, ok.kind, ok.glob, ok.blt, ok.above, ok.inj, ok.has, ok.cab, ok.hd, ok.frames, ok.stk, ok.exf, ok.bs, ok.bsz, ok.noex, ok.exfs, ok.funs, ok.frf⟩
section
variable {X : Cx} {pins : List (Addr × Obj)} {σ : St} {H : Hp} {s : Shared} {E : Value → Shared → Prop}
theorem Inv.wish (I : Inv X pins σ H s) (E : Value → Shared → Prop) : Inv (X.wish E) pins σ H s := ⟨I.ok.wish E, I.os, I.bare, I.base, I.loc, I.cell, I.free, I.freeC, I.pin, I.hok, I.len⟩
theorem Inv.unwish (I : Inv (X.wish E) pins σ H s) : Inv X pins σ H s := ⟨I.ok.unwish, I.os, I.bare, I.base, I.loc, I.cell, I.free, I.freeC, I.pin, I.hok, I.len⟩
theorem SP.unwish {D : Ends} {f : Flow} {s' : Shared} (h : SP (X.wish E) pins D f s') : SP X pins D f s' := by
  cases f with
  | next => obtain ⟨σ', H', I, q⟩ := h; exact ⟨σ', H', I.unwish, q⟩
  | brk => obtain ⟨σ', H', I, q⟩ := h; exact ⟨σ', H', I.unwish, q⟩
  | cont => obtain ⟨σ', H', I, q⟩ := h; exact ⟨σ', H', I.unwish, q⟩
  | ret u => obtain ⟨v, σ', H', I, r, q⟩ := h; exact ⟨v, σ', H', I.unwish, r, q⟩
theorem PSs.nox {st : List Stmt} {t : TS} (h : PSs X.nox st t) : PSs X st t := fun pins s σ H D I hw =>
  wpAny_mono (h pins s σ H D (I.wish _) hw) (fun _ _ q => q.unwish) fun _ _ z => False.elim z
end
section
variable {X : Cx} {st : Stmt} {rest : List Stmt} {t u : TS} {e : Expr} {te : TE} {pos : Pos}
def tNext : TS := fun D σ H => D.nx σ H
def tSeq (t u : TS) : TS := fun D σ H => t { D with nx := u D } σ H
theorem zK : PSs X [] tNext := fun _ _ σ H _ I h => wpAny_execs_nil ⟨σ, H, I, h⟩
theorem zb (h1 : PS X st t) (h2 : PSs X rest u) : PSs X (st :: rest) (tSeq t u) := by
  intro pins s σ H D I h
  refine wpAny_execs_cons (thn (h1 pins s σ H { D with nx := u D } I h) fun f s1 q => ?_)
  cases f with
  | next =>
    obtain ⟨σ', H', I', q⟩ := q
    exact h2 pins s1 σ' H' D I' q
  | ret v => exact q
  | brk => exact q
  | cont => exact q
theorem zh (h1 : PS X st t) : PSs X [st] t := by
  intro pins s σ H D I h
  refine wpAny_execs_cons (thn (h1 pins s σ H D I h) fun f s1 q => ?_)
  cases f with
  | next => exact wpAny_execs_nil q
  | ret v => exact q
  | brk => exact q
  | cont => exact q
def tBreak : TS := fun D σ H => D.bk σ H
theorem ps_break : PS X (.Break pos) tBreak := fun _ _ σ H _ I h => wpAny_Break ⟨σ, H, I, h⟩
theorem Inv.quiet {pins : List (Addr × Obj)} {σ : St} {H : Hp} {s : Shared} (I : Inv X pins σ H s) : interactive X.env = false := by simp [interactive, I.ok.kind]
def tDrop (te : TE) : TS := fun D σ H => te σ H fun _ H1 => D.nx σ H1
theorem yo (he : PE X e te) (hs : swapsWith e none pos.line X.env = pure false := by rfl) : PS X (.Expr e pos) (tDrop te) := by
  intro pins s σ H D I h
  exact wpAny_Expr_any (thn (he pins s σ H _ I h) fun v s1 ⟨x, H1, I1, r1, q1⟩ => ⟨σ, H1, I1, q1⟩) I.quiet hs
def tRet (te : TE) : TS := fun D σ H => te σ H D.rt
theorem zu (he : PE X e te) : PS X (.Return (some e) pos) (tRet te) := by
  intro pins s σ H D I h
  exact wpAny_Return_some (thn (he pins s σ H _ I h) fun v s1 ⟨x, H1, I1, r1, q1⟩ => ⟨x, σ, H1, I1, r1, q1⟩)
def tIfS (c : TT) (t u : TS) : TS := fun D σ H => c σ H fun b H1 => if b = true then t D σ H1 else u D σ H1
theorem yr {c : Expr} {a b : List Stmt} {tc : TT} (hc : PT X c tc) (ha : PSs X a t) (hb : PSs X b u) : PS X (.If c a b pos) (tIfS tc t u) := by
  intro pins s σ H D I h
  refine wpAny_If (thn (hc pins s σ H _ I h) fun d s1 ⟨H1, I1, q1⟩ => ?_)
  cases d with
  | true => exact ha pins s1 σ H1 D I1 q1
  | false => exact hb pins s1 σ H1 D I1 q1
end
abbrev TG := V → St → Hp → (St → Hp → Prop) → Prop
abbrev TGs := List V → St → Hp → (St → Hp → Prop) → Prop
def PG (X : Cx) (target : Expr) (t : TG) : Prop :=
  ∀ (pins : List (Addr × Obj)) (s : Shared) (σ : St) (H : Hp) (v : V) (u : Value) (Q : St → Hp → Prop), Inv X pins σ H s → RelV v u → t v σ H Q →
    wpAny (model X.prog X.w) X.A (assign target X.env u) (fun _ s' => ∃ σ' H', Inv X pins σ' H' s' ∧ Q σ' H') X.xe s
def PGs (X : Cx) (ts : List Expr) (t : TGs) : Prop :=
  ∀ (pins : List (Addr × Obj)) (s : Shared) (σ : St) (H : Hp) (vs : List V) (us : List Value) (Q : St → Hp → Prop), Inv X pins σ H s → Vals vs us → t vs σ H Q →
    wpAny (model X.prog X.w) X.A (assignInOrder ((assignEach ts X.env).map (·.2)) us) (fun _ s' => ∃ σ' H', Inv X pins σ' H' s' ∧ Q σ' H') X.xe s
abbrev TSet := V → V → V → Hp → (Hp → Prop) → Prop
def PSet (X : Cx) (t : TSet) : Prop :=
  ∀ (pins : List (Addr × Obj)) (s : Shared) (σ : St) (H : Hp) (o i v : V) (ov iv u : Value) (Q : Hp → Prop), Inv X pins σ H s → RelV o ov → RelV i iv → RelV v u → t o i v H Q →
    wpAny (model X.prog X.w) X.A (setItem ov iv u) (fun _ s' => ∃ H', Inv X pins σ H' s' ∧ Q H') X.xe s
section
variable {X : Cx} {pos : Pos}
def gName (i : Nat) : TG := fun v σ H Q => Q (σ.set i (some v)) H
theorem zI {i : Nat} {x : Str} (hN : X.N.Nodup) (hi : X.N[i]? = some x) (hx : Loc X.env.scope x) (hf : X.fn x = true ∨ X.env.scope.names.lookup x = some .local := by first | exact .inl rfl | exact .inr rfl | assumption) : PG X (.Name x pos) (gName i) := by
  intro pins s σ H v u Q I r h
  exact wpAny_assign_Name (store_ok I hN hi hx r (fun s' I' => ⟨_, H, I', h⟩) hf)
def gNil : TGs := fun vs σ H Q => vs = [] ∧ Q σ H
def gCons (t : TG) (u : TGs) : TGs := fun vs σ H Q => ∃ v r, vs = v :: r ∧ t v σ H fun σ' H' => u r σ' H' Q
theorem pgs_nil : PGs X [] gNil := by
  intro pins s σ H vs us Q I r h
  obtain ⟨e, h⟩ := h
  subst e
  cases r
  exact assignInOrder_nil ⟨σ, H, I, h⟩
theorem pgs_cons {e : Expr} {es : List Expr} {t : TG} {u : TGs} (h1 : PG X e t) (h2 : PGs X es u)
    (hs : (assignEach (e :: es) X.env).map (·.2) = assign e X.env :: (assignEach es X.env).map (·.2) := by rfl) : PGs X (e :: es) (gCons t u) := by
  intro pins s σ H vs us Q I r h
  obtain ⟨v, vr, e1, h⟩ := h
  subst e1
  cases r with
  | cons r rr =>
    rw [hs]
    refine assignInOrder_cons (thn (h1 pins s σ H _ _ _ I r h) fun _ s1 ⟨σ1, H1, I1, q1⟩ => ?_)
    exact h2 pins s1 σ1 H1 _ _ Q I1 rr q1
def gTup (K : PySem.W.Frag) (n : Nat) (t : TGs) : TG := fun v σ H Q => ∃ a xs, v = .ref a ∧ SqT K H a xs ∧ xs.length = n ∧ t xs σ H Q
theorem pg_tup {es : List Expr} {k : Nat} {t : TGs} {n : Nat} (hc : X.calm = true) (h : PGs X es t)
    (hn : (assignEach es X.env).length = n := by rfl) (hst : (assignEach es X.env).findIdx? (·.1) = none := by rfl) : PG X (.Tuple es k pos) (gTup X.K n t) := by
  intro pins s σ H v u Q I r hw
  obtain ⟨a, xs, e1, hq, hl, hw⟩ := hw
  subst e1
  cases r
  obtain ⟨its, rv, ht, hz⟩ := I.tuple hq
  refine assign_Tuple_tuple (I.ok.hd hc) ht (by simp [hn, ← hl, rv.length]) hst fun h' hx => ?_
  have I1 : Inv X pins σ H { s with heap := h' } := I.kept (t' := s.toks) fun b o e => hx b o (Nat.ne_of_lt (Heap.lt_size e)) e
  exact h pins _ σ H xs _ Q I1 (by simpa using rv) hw
def gSub (to ti : TE) (t : TSet) : TG := fun v σ H Q => to σ H fun o H1 => ti σ H1 fun i H2 => t o i v H2 fun H3 => Q σ H3
theorem pg_sub {o i : Expr} {to ti : TE} {t : TSet} (ho : PE X o to) (hi : PE X i ti) (hs : PSet X t)
    (ha : ∀ v, assign (.Subscript o i pos) X.env v = (do
      let ov ← holding [v] (eval o X.env)
      let iv ← holding [v, ov] (eval i X.env)
      standAt pos
      holding [v, ov, iv] (setItem ov iv v)
      release [v, ov, iv] []) := by intro _; rfl) : PG X (.Subscript o i pos) (gSub to ti t) := by
  intro pins s σ H v u Q I r h
  rw [ha]
  refine wpAny_bind (wpAny_holding (thn (ho pins s σ H _ I h) fun ov s1 ⟨x, H1, I1, r1, q1⟩ => ?_))
  refine wpAny_bind (wpAny_holding (thn (hi pins s1 σ H1 _ I1 q1) fun iv s2 ⟨y, H2, I2, r2, q2⟩ => ?_))
  refine wpAny_bind (wpAny_standAt (wpAny_bind (wpAny_holding (thn (hs pins s2 σ H2 x y v ov iv u _ I2 r1 r2 r q2) fun _ s3 ⟨H3, I3, q3⟩ => ?_))))
  exact wpAny_release ⟨σ, H3, I3, q3⟩
def tAsg (te : TE) (g : TG) : TS := fun D σ H => te σ H fun x H1 => g x σ H1 D.nx
theorem ps_asg {tg e : Expr} {te : TE} {g : TG} (he : PE X e te) (hg : PG X tg g) (hs : swapsWithSole [tg] e pos.line X.env = pure false := by rfl) (hw : swappedStores [tg] e X.env = pure none := by rfl)
    (h1 : (assignEach [tg] X.env).map (·.2) = [assign tg X.env] := by rfl) : PS X (.Assign [tg] e pos) (tAsg te g) := by
  intro pins s σ H D I h
  refine wpAny_Assign_stores (thn (he pins s σ H _ I h) fun v s1 ⟨x, H1, I1, r1, q1⟩ => ?_) hs hw
  rw [h1]
  exact thn (hg pins s1 σ H1 x v _ I1 r1 q1) fun _ s2 q => q
theorem zt {i : Nat} {x : Str} {e : Expr} {te : TE} {pos' : Pos} (hN : X.N.Nodup) (hi : X.N[i]? = some x) (hx : Loc X.env.scope x) (he : PE X e te) (hs : swapsWith e (some (.Name x pos')) pos.line X.env = pure false := by rfl) (hf : X.fn x = true ∨ X.env.scope.names.lookup x = some .local := by first | exact .inl rfl | exact .inr rfl | assumption) :
    PS X (.Assign [.Name x pos'] e pos) (tAsg te (gName i)) := by
  intro pins s σ H D I h
  refine wpAny_Assign_Name (thn (he pins s σ H _ I h) fun v s1 ⟨y, H1, I1, r1, q1⟩ => ?_) hs
  exact store_ok I1 hN hi hx r1 (fun s2 I2 => ⟨_, H1, I2, q1⟩) hf
end
section
variable {X : Cx} {pos : Pos}
def tWhile (c : TT) (tb : TS) : TS := fun D σ H => ∃ W : Nat → St → Hp → Prop, (∃ m, W m σ H) ∧ ∀ m σ H, W m σ H →
  c σ H fun b H1 => if b = true then ∃ N : St → Hp → Prop, (∀ σ' H', N σ' H' → ∃ m', m' < m ∧ W m' σ' H') ∧ tb { D with nx := N, ct := N, bk := D.nx } σ H1 else D.nx σ H1
theorem ps_while {c : Expr} {body : List Stmt} {tc : TT} {tb : TS} (hp : PassesOwn (model X.prog X.w) X.A X.env X.xe) (hc : PT X c tc) (hb : PSs X body tb) : PS X (.While c body [] pos) (tWhile tc tb) := by
  intro pins s σ H D I h
  obtain ⟨W, ⟨m0, w0⟩, turn⟩ := h
  refine wpAny_While (codeAny_whileLoop (fun n s' => ∃ σ' H', Inv X pins σ' H' s' ∧ W n σ' H') ?_ m0 ⟨σ, H, I, w0⟩)
  rintro n s1 ⟨σ1, H1, I1, w1⟩
  refine wpAny_passesOwn hp (thn (hc pins s1 σ1 H1 _ I1 (turn n σ1 H1 w1)) fun b s2 ⟨H2, I2, q2⟩ => ?_)
  cases b with
  | true =>
    obtain ⟨N, hN, q2⟩ := q2
    rw [if_pos rfl]
    refine wpAny_passesOwn hp (thn (hb pins s2 σ1 H2 _ I2 q2) fun f s3 q3 => ?_)
    cases f with
    | next =>
      obtain ⟨σ3, H3, I3, n3⟩ := q3
      obtain ⟨m', hm, w3⟩ := hN σ3 H3 n3
      exact ⟨m', hm, σ3, H3, I3, w3⟩
    | cont =>
      obtain ⟨σ3, H3, I3, n3⟩ := q3
      obtain ⟨m', hm, w3⟩ := hN σ3 H3 n3
      exact ⟨m', hm, σ3, H3, I3, w3⟩
    | brk => exact q3
    | ret v => exact q3
  | false =>
    rw [if_neg Bool.false_ne_true]
    exact wpAny_execs_nil ⟨σ1, H2, I2, q2⟩
end
structure It where
  go : Nat → Hp → Prop
  yld : Nat → Hp → V → Hp → Prop
  stop : Nat → Hp → Prop
def FpOk (X : Cx) (pins : List (Addr × Obj)) (H : Hp) (b : Addr) : Prop :=
  H b = none ∧ b ≠ X.env.locals ∧ b ∉ X.fs ∧ (b ∈ X.ex ∨ X.s₀.heap.objs.size ≤ b) ∧ (∀ x c, X.env.cells.lookup x = some c → c ≠ b) ∧ ∀ p ∈ X.pn ++ pins, p.1 ≠ b
theorem Inv.fpOk {X : Cx} {pins : List (Addr × Obj)} {σ : St} {H H' : Hp} {s : Shared} {b : Addr} (I : Inv X pins σ H s) (hb : s.heap.objs.size ≤ b) (hn : H' b = none) : FpOk X pins H' b := by
  refine ⟨hn, Nat.ne_of_gt (Nat.lt_of_lt_of_le I.lt hb), I.nofs hb, .inr (Nat.le_trans I.sz hb), fun x c e z => ?_, fun p hp z => ?_⟩
  · obtain ⟨v, q⟩ := I.cell x c e
    exact absurd (Nat.lt_of_lt_of_le q.lt (by rw [z]; exact hb)) (Nat.lt_irrefl _)
  · exact absurd (Nat.lt_of_lt_of_le (Heap.lt_size (I.pin p hp).1) (by rw [z]; exact hb)) (Nat.lt_irrefl _)
structure Turn (P : Program) (w : World) (K : PySem.W.Frag) (tg : Expr) (J : It) (fp : List Addr) (it : Addr) (tn : Nat → Heap → Prop) : Prop where
  mem : it ∈ fp
  obj : ∀ i h, tn i h → ∀ b ∈ fp, ∃ o, h.get? b = some o ∧ ∀ v, o.data ≠ .cell v
  keep : ∀ i h h', tn i h → (∀ b ∈ fp, ∀ o, h.get? b = some o → h'.get? b = some o) → tn i h'
  item : ∀ (X : Cx), X.prog = P → X.w = w → X.K = K → X.calm = true → ∀ (i : Nat) (pins : List (Addr × Obj)) (s : Shared) (σ : St) (H : Hp) (E : Value → Shared → Prop), Inv X pins σ H s → (∀ b ∈ fp, FpOk X pins H b) → tn i s.heap → J.go i H →
    wpAny (model P w) X.A (pyNext (.ref it)) (fun r s1 => ∃ u, r = some u ∧
      wpAny (model P w) X.A (letOwnedTupleGo tg (.ref it) u) (fun _ s2 => ∃ x H', Inv X pins σ H' s2 ∧ RelV x u ∧ J.yld i H x H' ∧ tn (i + 1) s2.heap ∧ ∀ b ∈ fp, H' b = none) E s1) E s
  done : ∀ (X : Cx), X.prog = P → X.w = w → X.K = K → X.calm = true → ∀ (i : Nat) (pins : List (Addr × Obj)) (s : Shared) (σ : St) (H : Hp) (E : Value → Shared → Prop), Inv X pins σ H s → (∀ b ∈ fp, FpOk X pins H b) → tn i s.heap → J.stop i H →
    wpAny (model P w) X.A (pyNext (.ref it)) (fun r s1 => r = none ∧ Inv X pins σ H s1) E s
  self : ∀ (A : Around) (i : Nat) (s : Shared) (Q : Value → Shared → Prop) (E : Value → Shared → Prop), tn i s.heap → Q (.ref it) s → wpAny (model P w) A (pyIter (.ref it)) Q E s
abbrev TI := St → Hp → (It → Hp → Prop) → Prop
def PIE (X : Cx) (pins : List (Addr × Obj)) (σ : St) (tg : Expr) (R : It → Hp → Prop) (itv : Value) (s2 : Shared) : Prop :=
  ∃ (it : Addr) (fp : List Addr) (tn : Nat → Heap → Prop) (J : It) (H' : Hp), itv = .ref it ∧ Inv X pins σ H' s2 ∧ Turn X.prog X.w X.K tg J fp it tn ∧ tn 0 s2.heap ∧ (∀ b ∈ fp, FpOk X pins H' b) ∧ R J H'
def PI (X : Cx) (tg iter : Expr) (wi : TI) : Prop :=
  ∀ (pins : List (Addr × Obj)) (s : Shared) (σ : St) (H : Hp) (R : It → Hp → Prop), Inv X pins σ H s → wi σ H R →
    wpAny (model X.prog X.w) X.A (eval iter X.env) (fun v s1 => wpAny (model X.prog X.w) X.A (pyIter v) (PIE X pins σ tg R) X.xe s1) X.xe s
theorem go_of {M : Model} {A : Around} {E : Value → Shared → Prop} {s : Shared} {tg : Expr} {it : Addr} {u : Value} {o : Obj} {n : String} {vs : Array Value} {Q : Unit → Shared → Prop} (ho : s.heap.get? it = some o) (hc : o.cls = .type n) (hd : o.data = .fields vs)
    (hn : ["enumerate", "zip", "dict_itemiterator", "dict_reverseitemiterator", "odict_iterator", "itertools.zip_longest", "itertools.pairwise"].contains n = false) (hQ : Q () s) : wpAny M A (letOwnedTupleGo tg (.ref it) u) Q E s := by
  unfold letOwnedTupleGo
  cases tg <;> first
    | exact wpAny_pure hQ
    | (cases u <;> first
        | exact wpAny_pure hQ
        | (refine wpAny_bind (wpAny_load ho ?_)
           rw [hc, hd]
           show wpAny M A (if (["enumerate", "zip", "dict_itemiterator", "dict_reverseitemiterator", "odict_iterator", "itertools.zip_longest", "itertools.pairwise"].contains n && vs[0]? == some (rawInt _)) = true then _ else _) Q E s
           rw [if_neg (by intro h; rw [hn, Bool.false_and] at h; cases h)]
           exact wpAny_pure hQ))
def Itl (K : PySem.W.Frag) (a : Addr) : It :=
  ⟨fun i H => ∃ xs x, SqL K H a xs ∧ xs[i]? = some x, fun i H x H' => H' = H ∧ ∀ xs, SqL K H a xs → xs[i]? = some x, fun i H => ∃ xs, SqL K H a xs ∧ xs.length ≤ i⟩
def Itr (lo : Int) (n : Nat) : It := ⟨fun i _ => i < n, fun i H x H' => H' = H ∧ x = .int (lo + i), fun i _ => n ≤ i⟩
theorem turn_list {P : Program} {w : World} {K : PySem.W.Frag} {tg : Expr} (a it : Addr) : Turn P w K tg (Itl K a) [it] it (fun i h => h.IsListIter it a i) where
  mem := by simp
  obj := fun i h st b hb => by
    have e : b = it := by simpa using hb
    subst e
    obtain ⟨o, e, c, d⟩ := st
    exact ⟨o, e, fun v z => by rw [d] at z; cases z⟩
  keep := fun i h h' st k => st.at fun o e => k it (by simp) o e
  item := by
    intro X hP hw hK hc i pins s σ H E I hf st hg
    subst hP hw hK
    obtain ⟨xs, x, hq, hx⟩ := hg
    obtain ⟨its, rv, p, hz⟩ := I.list hq
    obtain ⟨u, hu, ru⟩ := rv.get hx
    obtain ⟨f0, f1, f2, f3, f4, f5⟩ := hf it (by simp)
    refine wpAny_pyNext_list_item st p.isList (x := u) (by simpa using hu) fun h' st' sb => ?_
    have I1 : Inv X pins σ H { s with heap := h' } := I.turned (t' := s.toks) (fun b o hb e => (sb.2 b hb).trans e) f0 f1 f3 f4 f5
    obtain ⟨o, e, c, d⟩ := id st'
    exact ⟨u, rfl, go_of (s := { s with heap := h' }) e c d (by decide) ⟨x, H, I1, ru, ⟨rfl, fun ys hy => by rw [I.list_inj hy hq]; exact hx⟩, st', fun b hb => (hf b hb).1⟩⟩
  done := by
    intro X hP hw hK hc i pins s σ H E I hf st hg
    subst hP hw hK
    obtain ⟨xs, hq, hx⟩ := hg
    obtain ⟨its, rv, p, hz⟩ := I.list hq
    obtain ⟨f0, f1, f2, f3, f4, f5⟩ := hf it (by simp)
    have hl := rv.length
    exact wpAny_pyNext_list_end (I.ok.hd hc) st p.isList (by simp; omega) fun h' eb => ⟨rfl, I.turned (t' := s.toks) (fun b o hb e => eb b o hb e) f0 f1 f3 f4 f5⟩
  self := fun _ _ _ _ _ st h => wpAny_pyIter_listiter st h
theorem turn_range {P : Program} {w : World} {K : PySem.W.Frag} {tg : Expr} (it : Addr) (lo : Int) (n : Nat) : Turn P w K tg (Itr lo n) [it] it (fun i h => IsRangeIter h it (lo + (i : Nat) * 1) ((n : Int) - (i : Nat)) 1) where
  mem := by simp
  obj := fun i h st b hb => by
    have e : b = it := by simpa using hb
    subst e
    exact ⟨_, st, fun v z => by
      have z' : Data.fields _ = Data.cell v := z
      cases z'⟩
  keep := fun i h h' st k => k it (by simp) _ st
  item := by
    intro X hP hw hK hc i pins s σ H E I hf st hg
    subst hP hw hK
    obtain ⟨f0, f1, f2, f3, f4, f5⟩ := hf it (by simp)
    have W := Walks.range (prog := X.prog) (w := X.w) (I.ok.hd hc) it lo 1 n
    refine W.item i s _ _ hg st fun v h' tk hv st' kk => ?_
    obtain ⟨t, rfl⟩ := hv
    have I1 : Inv X pins σ H { s with heap := h', toks := tk } := I.turned (fun b o hb e => kk b o (by simpa using hb) e) f0 f1 f3 f4 f5
    refine ⟨_, rfl, go_of (s := { s with heap := h', toks := tk }) (n := "range_iterator") st' rfl rfl (by decide) ⟨.int (lo + i), H, I1, ⟨t, ?_⟩, ⟨rfl, rfl⟩, st', fun b hb => (hf b hb).1⟩⟩
    rw [Int.mul_one]
  done := by
    intro X hP hw hK hc i pins s σ H E I hf st hg
    subst hP hw hK
    obtain ⟨f0, f1, f2, f3, f4, f5⟩ := hf it (by simp)
    exact wpAny_pyNext_range_end (I.ok.hd hc) st (by have : n ≤ i := hg; omega) fun h' eb => ⟨rfl, I.turned (t' := s.toks) (fun b o hb e => eb b o hb e) f0 f1 f3 f4 f5⟩
  self := fun _ _ _ _ _ st h => wpAny_pyIter_rangeiter st h
end L2
namespace L2
open PySem PySem.Spec PyProof.Rows
section
variable {X : Cx} {tg : Expr}
def iList (K : PySem.W.Frag) (tl : TE) : TI := fun σ H R => tl σ H fun x H1 => ∃ a, x = .ref a ∧ (∃ xs, SqL K H1 a xs) ∧ R (Itl K a) H1
theorem pi_list {l : Expr} {tl : TE} (hl : PE X l tl) : PI X tg l (iList X.K tl) := by
  intro pins s σ H R I h
  refine thn (hl pins s σ H _ I h) fun v s1 ⟨x, H1, I1, r1, q1⟩ => ?_
  obtain ⟨a, e, ⟨xs, hq⟩, q⟩ := q1
  subst e
  cases r1
  obtain ⟨its, rv, p, hz⟩ := I1.list hq
  refine wpAny_pyIter_list p.isList ?_
  refine ⟨s1.heap.objs.size, [s1.heap.objs.size], _, _, H1, rfl, I1.kept (t' := s1.toks) fun b o e => Heap.get?_push_of_some _ e, turn_list a _, ⟨_, Heap.get?_push_size _ rfl, rfl, rfl⟩, fun b hb => ?_, q⟩
  have e : b = s1.heap.objs.size := by simpa using hb
  subst e
  exact I1.fpOk (Nat.le_refl _) (I1.hok.fresh (Nat.le_refl _))
theorem range_it {pins : List (Addr × Obj)} {σ : St} {H : Hp} {s : Shared} {R : It → Hp → Prop} {E : Value → Shared → Prop} {lo hi : Int} {t u v : Tok} {tk : Nat} (I : Inv X pins σ H s) (h1 : -(2 ^ 62) ≤ lo) (h2 : lo < 2 ^ 62) (h3 : -(2 ^ 62) ≤ hi) (h4 : hi < 2 ^ 62)
    (q : R (Itr lo (hi - lo).toNat) H) : wpAny (model X.prog X.w) X.A (pyIter (.ref s.heap.objs.size)) (PIE X pins σ tg R) E { s with heap := s.heap.push { cls := .type "range", data := .fields #[.int lo t, .int hi u, .int 1 v] }, toks := tk } := by
  refine wpAny_pyIter_range (IsRange.new ..) (small_one h1 h2 h3 h4) ?_
  have I1 : Inv X pins σ H { s with heap := s.heap.push { cls := .type "range", data := .fields #[.int lo t, .int hi u, .int 1 v] }, toks := tk } := I.kept fun b o e => Heap.get?_push_of_some _ e
  refine ⟨(s.heap.push { cls := .type "range", data := .fields #[.int lo t, .int hi u, .int 1 v] }).objs.size, [(s.heap.push { cls := .type "range", data := .fields #[.int lo t, .int hi u, .int 1 v] }).objs.size], _, _, H, rfl,
    I1.kept (t' := tk) fun b o e => Heap.get?_push_of_some _ e, turn_range _ lo (hi - lo).toNat, ?_, fun b hb => ?_, q⟩
  · have e1 : lo + ((0 : Nat) : Int) * 1 = lo := by simp
    have e2 : (((hi - lo).toNat : Nat) : Int) - ((0 : Nat) : Int) = Builtin.Range.rangeSize lo hi 1 := by rw [rangeSize_one]; split <;> omega
    show IsRangeIter _ _ (lo + ((0 : Nat) : Int) * 1) ((((hi - lo).toNat : Nat) : Int) - ((0 : Nat) : Int)) 1
    rw [e1, e2]
    exact Heap.get?_push_size _ rfl
  · have e : b = (s.heap.push { cls := .type "range", data := .fields #[.int lo t, .int hi u, .int 1 v] }).objs.size := by simpa using hb
    subst e
    exact I1.fpOk (Nat.le_refl _) (I1.hok.fresh (Nat.le_refl _))
def iRng1 (ta : TA) : TI := fun σ H R => ta σ H fun vs H1 => ∃ j : Int, vs = [.int j] ∧ -(2 ^ 62) ≤ j ∧ j < 2 ^ 62 ∧ R (Itr 0 j.toNat) H1
def iRng2 (ta : TA) : TI := fun σ H R => ta σ H fun vs H1 => ∃ i j : Int, vs = [.int i, .int j] ∧ (-(2 ^ 62) ≤ i ∧ i < 2 ^ 62 ∧ -(2 ^ 62) ≤ j ∧ j < 2 ^ 62) ∧ R (Itr i (j - i).toNat) H1
theorem yk {a : Expr} {ta : TA} {p pos : Pos} (hg : Gl X "range") (hm : X.mg "range" = none) (ha : PA X [a] ta) (hs : starEach [a] X.env = [(false, eval a X.env)] := by rfl) : PI X tg (.Call (.Name "range" p) [a] [] pos) (iRng1 ta) := by
  intro pins s σ H R I h
  refine Call_ (ld_blt I hg hm boot_range (PyProof.Rows.callWith_type1 (thn (ha pos pins s σ H _ I h) fun us s1 ⟨vs, H1, I1, r1, q1⟩ => ?_) hs rfl))
  obtain ⟨j, e, q1, q2, q⟩ := q1
  subst e
  cases r1 with
  | cons r rr =>
    cases rr
    obtain ⟨t, rfl⟩ := r
    exact call_range_1 (range_it I1 (by omega) (by omega) q1 q2 (by simpa using q))
theorem pi_range2 {a b : Expr} {ta : TA} {p pos : Pos} (hg : Gl X "range") (hm : X.mg "range" = none) (ha : PA X [a, b] ta) (hs : starEach [a, b] X.env = [(false, eval a X.env), (false, eval b X.env)] := by rfl) (hs2 : starEach [b] X.env = [(false, eval b X.env)] := by rfl) :
    PI X tg (.Call (.Name "range" p) [a, b] [] pos) (iRng2 ta) := by
  intro pins s σ H R I h
  refine Call_ (ld_blt I hg hm boot_range (PyProof.Rows.callWith_type1 (thn (ha pos pins s σ H _ I h) fun us s1 ⟨vs, H1, I1, r1, q1⟩ => ?_) (by rw [hs, hs2]) (by rw [hs2]; rfl)))
  obtain ⟨i, j, e, ⟨q1, q2, q3, q4⟩, q⟩ := q1
  subst e
  cases r1 with
  | cons r rr =>
    cases rr with
    | cons r' rr =>
      cases rr
      obtain ⟨t, rfl⟩ := r
      obtain ⟨t', rfl⟩ := r'
      exact call_range_2 (range_it I1 q1 q2 q3 q4 q)
def tFor (wi : TI) (g : TG) (tb : TS) : TS := fun D σ H => wi σ H fun J H1 => ∃ W : Nat → Nat → St → Hp → Prop, (∃ m, W 0 m σ H1) ∧ ∀ i m σ H, W i m σ H →
  (J.stop i H ∧ D.nx σ H) ∨ (J.go i H ∧ ∃ N : St → Hp → Prop, (∀ σ' H', N σ' H' → ∃ m', m' < m ∧ W (i + 1) m' σ' H') ∧ ∀ x H', J.yld i H x H' → g x σ H' fun σ2 H2 => tb { D with nx := N, ct := N, bk := D.nx } σ2 H2)
def pinsAt (fp : List Addr) (h : Heap) : List (Addr × Obj) := fp.filterMap fun b => (h.get? b).map fun o => (b, o)
theorem yC {fp : List Addr} {h : Heap} {b : Addr} {o : Obj} (hb : b ∈ fp) (e : h.get? b = some o) : (b, o) ∈ pinsAt fp h := List.mem_filterMap.mpr ⟨b, hb, by rw [e]; rfl⟩
theorem of_pinsAt {fp : List Addr} {h : Heap} {p : Addr × Obj} (hp : p ∈ pinsAt fp h) : p.1 ∈ fp ∧ h.get? p.1 = some p.2 := by
  obtain ⟨b, hb, e⟩ := List.mem_filterMap.mp hp
  cases q : h.get? b with
  | none => rw [q] at e; cases e
  | some o =>
    rw [q] at e
    have e' : (b, o) = p := Option.some.inj e
    subst e'
    exact ⟨hb, q⟩
theorem Inv.pinned {pins : List (Addr × Obj)} {σ : St} {H : Hp} {s : Shared} {fp : List Addr} (I : Inv X pins σ H s) (hf : ∀ b ∈ fp, FpOk X pins H b) (ho : ∀ b ∈ fp, ∃ o, s.heap.get? b = some o ∧ ∀ v, o.data ≠ .cell v) : Inv X (pins ++ pinsAt fp s.heap) σ H s :=
  I.pins_of fun p hp => (List.mem_append.mp hp).elim (fun z => I.pin p (List.mem_append_right _ z)) fun z => by
    obtain ⟨hb, e⟩ := of_pinsAt z
    obtain ⟨f0, f1, f2, _⟩ := hf p.1 hb
    obtain ⟨o, e', d⟩ := ho p.1 hb
    rw [e] at e'; cases e'
    exact ⟨e, f0, f1, f2, d⟩
theorem Inv.unpinned {pins pl : List (Addr × Obj)} {σ : St} {H : Hp} {s : Shared} (I : Inv X (pins ++ pl) σ H s) : Inv X pins σ H s := I.pins_of fun p hp => I.pin p (List.mem_append_right _ (List.mem_append_left _ hp))
theorem ps_for {iter : Expr} {body : List Stmt} {wi : TI} {g : TG} {tb : TS} {pos : Pos} (hp : PassesOwn (model X.prog X.w) X.A X.env X.xe) (hc : X.calm = true) (hi : PI X tg iter wi) (hg : PG X tg g) (hb : PSs X body tb)
    (hs : ∀ x, foldedSetIterable iter X.env x = pure x := by intro _; rfl) : PS X (.For tg iter body [] pos) (tFor wi g tb) := by
  intro pins s σ H D I h
  refine wpAny_For (thn (hi pins s σ H _ I h) fun v s1 h1 => thn h1 fun itv s2 h2 => ?_) hs
  obtain ⟨it, fp, tn, J, H2, e, I2, T, st2, f2, W, ⟨m0, w0⟩, turn⟩ := h2
  subst e
  have stat : ∀ {H' : Hp}, (∀ b ∈ fp, H' b = none) → ∀ b ∈ fp, FpOk X pins H' b := fun hn b hb => ⟨hn b hb, (f2 b hb).2⟩
  refine codeAny_forLoop_any (fun n s' => ∃ i σ' H', Inv X pins σ' H' s' ∧ tn i s'.heap ∧ (∀ b ∈ fp, H' b = none) ∧ W i n σ' H') ?_ m0 ⟨0, σ, H2, I2, st2, fun b hb => (f2 b hb).1, w0⟩
  rintro n s3 ⟨i, σ3, H3, I3, st3, fr3, w3⟩
  rcases turn i n σ3 H3 w3 with ⟨stop, qn⟩ | ⟨go, N, hN, step⟩
  · refine wpAny_passesOwn hp (thn (T.done X rfl rfl rfl hc i pins s3 σ3 H3 X.xe I3 (stat fr3) st3 stop) fun r s4 ⟨hr, I4⟩ => ?_)
    subst hr
    exact wpAny_execs_nil ⟨σ3, H3, I4, qn⟩
  · refine wpAny_passesOwn hp (thn (T.item X rfl rfl rfl hc i pins s3 σ3 H3 X.xe I3 (stat fr3) st3 go) fun r s4 ⟨u, hr, h4⟩ => ?_)
    subst hr
    refine wpAny_passesOwn hp (thn h4 fun _ s5 ⟨x, H5, I5, r5, y5, st5, fr5⟩ => ?_)
    have I5' := I5.pinned (stat fr5) (T.obj _ _ st5)
    refine wpAny_passesOwn hp (thn (hg _ s5 σ3 H5 x u _ I5' r5 (step x H5 y5)) fun _ s6 ⟨σ6, H6, I6, q6⟩ => ?_)
    refine wpAny_passesOwn hp (thn (hb _ s6 σ6 H6 _ I6 q6) fun f s7 q7 => ?_)
    have again : ∀ {σ7 : St} {H7 : Hp}, Inv X (pins ++ pinsAt fp s5.heap) σ7 H7 s7 → N σ7 H7 → ∃ m, m < n ∧ ∃ i σ' H', Inv X pins σ' H' s7 ∧ tn i s7.heap ∧ (∀ b ∈ fp, H' b = none) ∧ W i m σ' H' := fun {σ7 H7} I7 n7 => by
      obtain ⟨m', hm, w7⟩ := hN σ7 H7 n7
      refine ⟨m', hm, i + 1, σ7, H7, I7.unpinned, T.keep _ _ _ st5 fun b hb o e => (I7.pin (b, o) (List.mem_append_right _ (List.mem_append_right _ (yC hb e)))).1, fun b hb => ?_, w7⟩
      obtain ⟨o, e, d⟩ := T.obj _ _ st5 b hb
      exact (I7.pin (b, o) (List.mem_append_right _ (List.mem_append_right _ (yC hb e)))).2.1
    cases f with
    | next => obtain ⟨σ7, H7, I7, n7⟩ := q7; exact again I7 n7
    | cont => obtain ⟨σ7, H7, I7, n7⟩ := q7; exact again I7 n7
    | brk => obtain ⟨σ7, H7, I7, q7⟩ := q7; exact ⟨σ7, H7, I7.unpinned, q7⟩
    | ret v => obtain ⟨x7, σ7, H7, I7, r7, q7⟩ := q7; exact ⟨x7, σ7, H7, I7.unpinned, r7, q7⟩
end
theorem for_list {K : PySem.W.Frag} {a : Addr} {xs : List V} {g : TG} {tb : TS} {D : Ends} {σ : St} {H : Hp} (Pv : Nat → St → Hp → Prop) (h0 : Pv 0 σ H) (hl : ∀ i σ H, i ≤ xs.length → Pv i σ H → SqL K H a xs)
    (hs : ∀ i x σ H, xs[i]? = some x → Pv i σ H → g x σ H fun σ2 H2 => tb { D with nx := Pv (i + 1), ct := Pv (i + 1), bk := D.nx } σ2 H2) (hd : ∀ σ H, Pv xs.length σ H → D.nx σ H) :
    ∃ W : Nat → Nat → St → Hp → Prop, (∃ m, W 0 m σ H) ∧ ∀ i m σ H, W i m σ H →
      ((Itl K a).stop i H ∧ D.nx σ H) ∨ ((Itl K a).go i H ∧ ∃ N : St → Hp → Prop, (∀ σ' H', N σ' H' → ∃ m', m' < m ∧ W (i + 1) m' σ' H') ∧ ∀ x H', (Itl K a).yld i H x H' → g x σ H' fun σ2 H2 => tb { D with nx := N, ct := N, bk := D.nx } σ2 H2) := by
  refine ⟨fun i m σ H => m = xs.length - i ∧ i ≤ xs.length ∧ Pv i σ H, ⟨xs.length, by simp, Nat.zero_le _, h0⟩, ?_⟩
  rintro i m σ H ⟨rfl, hi, p⟩
  have q := hl i σ H hi p
  by_cases hlt : i < xs.length
  · refine .inr ⟨⟨xs, xs[i], q, by simp [hlt]⟩, Pv (i + 1), fun σ' H' p' => ⟨xs.length - (i + 1), by omega, rfl, hlt, p'⟩, fun x H' y => ?_⟩
    obtain ⟨e, y⟩ := y
    subst e
    exact hs i x σ _ (y xs q) p
  · have e : i = xs.length := by omega
    subst e
    exact .inl ⟨⟨xs, q, Nat.le_refl _⟩, hd σ H p⟩
theorem xo {lo : Int} {n : Nat} {g : TG} {tb : TS} {D : Ends} {σ : St} {H : Hp} (Pv : Nat → St → Hp → Prop) (h0 : Pv 0 σ H)
    (hs : ∀ i σ H, i < n → Pv i σ H → g (.int (lo + i)) σ H fun σ2 H2 => tb { D with nx := Pv (i + 1), ct := Pv (i + 1), bk := D.nx } σ2 H2) (hd : ∀ σ H, Pv n σ H → D.nx σ H) :
    ∃ W : Nat → Nat → St → Hp → Prop, (∃ m, W 0 m σ H) ∧ ∀ i m σ H, W i m σ H →
      ((Itr lo n).stop i H ∧ D.nx σ H) ∨ ((Itr lo n).go i H ∧ ∃ N : St → Hp → Prop, (∀ σ' H', N σ' H' → ∃ m', m' < m ∧ W (i + 1) m' σ' H') ∧ ∀ x H', (Itr lo n).yld i H x H' → g x σ H' fun σ2 H2 => tb { D with nx := N, ct := N, bk := D.nx } σ2 H2) := by
  refine ⟨fun i m σ H => m = n - i ∧ i ≤ n ∧ Pv i σ H, ⟨n, by simp, Nat.zero_le _, h0⟩, ?_⟩
  rintro i m σ H ⟨rfl, hi, p⟩
  by_cases hlt : i < n
  · refine .inr ⟨hlt, Pv (i + 1), fun σ' H' p' => ⟨n - (i + 1), by omega, rfl, hlt, p'⟩, fun x H' y => ?_⟩
    obtain ⟨e, y⟩ := y
    subst e y
    exact hs i σ _ hlt p
  · have e : i = n := by omega
    subst e
    exact .inl ⟨Nat.le_refl _, hd σ H p⟩
end L2
namespace L2
open PySem PySem.Spec PyProof.Rows
abbrev R2 := V → V → Hp → VK → Prop
def OpR (X : Cx) (f : Value → Value → Sem Value) (r : R2) : Prop :=
  ∀ (pins : List (Addr × Obj)) (s : Shared) (σ : St) (H : Hp) (x y : V) (v u : Value) (Q : VK), Inv X pins σ H s → RelV x v → RelV y u → r x y H Q →
    wpAny (model X.prog X.w) X.A (f v u) (EP X pins σ Q) X.xe s
def UnR (X : Cx) (f : Value → Sem Value) (r : V → Hp → VK → Prop) : Prop :=
  ∀ (pins : List (Addr × Obj)) (s : Shared) (σ : St) (H : Hp) (x : V) (v : Value) (Q : VK), Inv X pins σ H s → RelV x v → r x H Q →
    wpAny (model X.prog X.w) X.A (f v) (EP X pins σ Q) X.xe s
def CallR (X : Cx) (f : Value) (r : List V → Hp → VK → Prop) : Prop :=
  ∀ (pins : List (Addr × Obj)) (s : Shared) (σ : St) (H : Hp) (xs : List V) (us : List Value) (Q : VK), Inv X pins σ H s → Vals xs us → r xs H Q →
    wpAny (model X.prog X.w) X.A (call f us) (EP X pins σ Q) X.xe s
def tOp (r : R2) (ta tb : TE) : TE := fun σ H Q => ta σ H fun x H1 => tb σ H1 fun y H2 => r x y H2 Q
def tUn (r : V → Hp → VK → Prop) (ta : TE) : TE := fun σ H Q => ta σ H fun x H1 => r x H1 Q
def rI (C : Int → Int → Prop) (g : Int → Int → V) : R2 := fun x y H Q => ∃ i j, x = .int i ∧ y = .int j ∧ C i j ∧ Q (g i j) H
def rI0 (g : Int → Int → V) : R2 := fun x y H Q => ∃ i j, x = .int i ∧ y = .int j ∧ Q (g i j) H
def rU (g : Int → V) : V → Hp → VK → Prop := fun x H Q => ∃ i, x = .int i ∧ Q (g i) H
section
variable {X : Cx} {a b c : Expr} {ta tb tc : TE} {pos : Pos}
theorem binT (ha : PE X a ta) (hb : PE X b tb) {pins : List (Addr × Obj)} {s : Shared} {σ : St} {H : Hp} {R : V → V → Hp → Prop} (I : Inv X pins σ H s)
    (h : ta σ H fun x H1 => tb σ H1 fun y H2 => R x y H2) {Q : Value → Shared → Prop} {f : Value → Value → Sem Value}
    (hf : ∀ v u s2 x y H2, Inv X pins σ H2 s2 → RelV x v → RelV y u → R x y H2 → wpAny (model X.prog X.w) X.A (f v u) Q X.xe s2) :
    wpAny (model X.prog X.w) X.A (eval a X.env) (fun v s₁ => wpAny (model X.prog X.w) X.A (eval b X.env) (fun u s₂ => wpAny (model X.prog X.w) X.A (f v u) Q X.xe s₂) X.xe s₁) X.xe s := by
  refine thn (ha pins s σ H _ I h) fun v s1 ⟨x, H1, I1, r1, q1⟩ => ?_
  refine thn (hb pins s1 σ H1 _ I1 q1) fun u s2 ⟨y, H2, I2, r2, q2⟩ => ?_
  exact hf v u s2 x y H2 I2 r1 r2 q2
theorem zi {op : Operator} {r : R2} (ho : OpR X (binaryOp op) r) (ha : PE X a ta) (hb : PE X b tb) : PE X (.BinOp a op b pos) (tOp r ta tb) := by
  intro pins s σ H Q I h
  exact wpAny_BinOp (binT ha hb I h fun v u s2 x y H2 I2 rx ry q => ho pins s2 σ H2 x y v u Q I2 rx ry q)
theorem pe_un {op : UnaryOp} {r : V → Hp → VK → Prop} (ho : UnR X (unaryOp op) r) (ha : PE X a ta) : PE X (.UnaryOp op a pos) (tUn r ta) := by
  intro pins s σ H Q I h
  exact UnaryOp_ (thn (ha pins s σ H _ I h) fun v s1 ⟨x, H1, I1, r1, q1⟩ => ho pins s1 σ H1 x v Q I1 r1 q1)
theorem opI {f : Value → Value → Sem Value} {C : Int → Int → Prop} {g : Int → Int → Int}
    (rule : ∀ (i j : Int) (t u : Tok) (s : Shared) (Q : Value → Shared → Prop) (E : Value → Shared → Prop), C i j → Q (.int (g i j) s.toks) { s with toks := s.toks + 1 } → wpAny (model X.prog X.w) X.A (f (.int i t) (.int j u)) Q E s) :
    OpR X f (rI C fun i j => .int (g i j)) := by
  intro pins s σ H x y v u Q I rx ry h
  obtain ⟨i, j, rfl, rfl, hc, q⟩ := h
  obtain ⟨t, rfl⟩ := rx
  obtain ⟨t', rfl⟩ := ry
  exact rule i j t t' s _ _ hc ⟨.int (g i j), H, I.tok _, ⟨_, rfl⟩, q⟩
theorem opI0 {f : Value → Value → Sem Value} {g : Int → Int → Int}
    (rule : ∀ (i j : Int) (t u : Tok) (s : Shared) (Q : Value → Shared → Prop) (E : Value → Shared → Prop), Q (.int (g i j) s.toks) { s with toks := s.toks + 1 } → wpAny (model X.prog X.w) X.A (f (.int i t) (.int j u)) Q E s) :
    OpR X f (rI0 fun i j => .int (g i j)) := by
  intro pins s σ H x y v u Q I rx ry h
  obtain ⟨i, j, rfl, rfl, q⟩ := h
  obtain ⟨t, rfl⟩ := rx
  obtain ⟨t', rfl⟩ := ry
  exact rule i j t t' s _ _ ⟨.int (g i j), H, I.tok _, ⟨_, rfl⟩, q⟩
theorem opB0 {f : Value → Value → Sem Value} {g : Int → Int → Bool}
    (rule : ∀ (i j : Int) (t u : Tok) (s : Shared) (Q : Value → Shared → Prop) (E : Value → Shared → Prop), Q (.bool (g i j)) s → wpAny (model X.prog X.w) X.A (f (.int i t) (.int j u)) Q E s) :
    OpR X f (rI0 fun i j => .bl (g i j)) := by
  intro pins s σ H x y v u Q I rx ry h
  obtain ⟨i, j, rfl, rfl, q⟩ := h
  obtain ⟨t, rfl⟩ := rx
  obtain ⟨t', rfl⟩ := ry
  exact rule i j t t' s _ _ ⟨.bl (g i j), H, I, rfl, q⟩
def CDiv (i j : Int) : Prop := 0 < j ∧ j < 1073741824
def CMul (i j : Int) : Prop := (-(2 ^ 64) < i ∧ i < 2 ^ 64) ∨ (-(2 ^ 64) < j ∧ j < 2 ^ 64)
theorem CMul.ok {i j : Int} (h : CMul i j) : IntMulOk i j := by
  rcases h with ⟨h1, h2⟩ | ⟨h1, h2⟩
  · exact .of_left (intBits_le_64 h1 h2)
  · exact .of_right (intBits_le_64 h1 h2)
theorem zv : OpR X (binaryOp .Add) (rI0 fun i j => .int (i + j)) := opI0 fun _ _ _ _ _ _ _ q => add_int q
theorem op_sub : OpR X (binaryOp .Sub) (rI0 fun i j => .int (i - j)) := opI0 fun _ _ _ _ _ _ _ q => sub_int q
theorem zY : OpR X (binaryOp .Mult) (rI CMul fun i j => .int (i * j)) := opI fun _ _ _ _ _ _ _ hc q => mul_int q hc.ok
theorem op_fdiv : OpR X (binaryOp .FloorDiv) (rI CDiv fun i j => .int (i / j)) := opI fun i j _ _ _ _ _ hc q => by
  have h1 : (0 : Int) < j := hc.1
  have h2 : j < 1073741824 := hc.2
  exact floordiv_int (by omega) (by rw [Int.fdiv_eq_ediv_of_nonneg i (by omega)]; exact q) (.inl (PyProof.noPylong_small (by omega)))
theorem yB : OpR X (binaryOp .Mod) (rI (fun _ j => 0 < j) fun i j => .int (i % j)) := opI fun i j _ _ _ _ _ hc q => by
  have h1 : (0 : Int) < j := hc
  exact mod_int' (by omega) (by rw [Int.fmod_eq_emod_of_nonneg i (by omega)]; exact q)
theorem unI {f : Value → Sem Value} {g : Int → Int}
    (rule : ∀ (i : Int) (t : Tok) (s : Shared) (Q : Value → Shared → Prop) (E : Value → Shared → Prop), Q (.int (g i) s.toks) { s with toks := s.toks + 1 } → wpAny (model X.prog X.w) X.A (f (.int i t)) Q E s) :
    UnR X f (rU fun i => .int (g i)) := by
  intro pins s σ H x v Q I rx h
  obtain ⟨i, rfl, q⟩ := h
  obtain ⟨t, rfl⟩ := rx
  exact rule i t s _ _ ⟨.int (g i), H, I.tok _, ⟨_, rfl⟩, q⟩
theorem un_neg : UnR X (unaryOp .USub) (rU fun i => .int (-i)) := unI fun _ _ _ _ _ q => neg_int q
end
def scal : V → V → Bool
  | .non, .non => true | .non, .int _ => true | .int _, .non => true | .non, .bl _ => true | .bl _, .non => true | .non, .str _ => true | .str _, .non => true
  | .int _, .int _ => true | .bl _, .bl _ => true | .str _, .str _ => true | .byt _, .byt _ => true
  | .int _, .str _ => true | .str _, .int _ => true | .bl _, .str _ => true | .str _, .bl _ => true
  | _, _ => false
def rEq : R2 := fun x y H Q => scal x y = true ∧ Q (.bl (decide (x = y))) H
def rNe : R2 := fun x y H Q => scal x y = true ∧ Q (.bl (!decide (x = y))) H
theorem dec_int {i j : Int} : decide (V.int i = V.int j) = (i == j) := by
  rw [Bool.eq_iff_iff]
  simp
theorem dec_bl {i j : Bool} : decide (V.bl i = V.bl j) = (i == j) := by
  rw [Bool.eq_iff_iff]
  simp
theorem dec_str {i j : Str} : decide (V.str i = V.str j) = (i == j) := by
  rw [Bool.eq_iff_iff]
  simp
theorem dec_byt {i j : Array UInt8} : decide (V.byt i = V.byt j) = (i.toList == j.toList) := by
  rw [Bool.eq_iff_iff]
  cases i
  cases j
  simp
section
variable {X : Cx} {a b c : Expr} {ta tb tc : TE} {pos : Pos}
theorem zL {pins : List (Addr × Obj)} {σ : St} {H : Hp} {s : Shared} {Q : VK} {k k' : Bool} (I : Inv X pins σ H s) (q : Q (.bl k) H) (e : k = k') : EP X pins σ Q (.bool k') s := by
  subst e
  exact ⟨.bl k, H, I, rfl, q⟩
theorem op_eq : OpR X (compareOp .Eq) rEq := by
  intro pins s σ H x y v u Q I rx ry h
  obtain ⟨hs, q⟩ := h
  cases x with
  | non =>
    cases rx
    cases y with
    | non => cases ry; exact PySem.EqNone.eq_none_none (zL I q (by simp))
    | bl j => cases ry; exact PySem.EqNone.eq_none_bool (zL I q (by simp))
    | int j => obtain ⟨t', rfl⟩ := ry; exact PySem.EqNone.eq_none_int (zL I q (by simp))
    | str j => obtain ⟨t', rfl⟩ := ry; exact PySem.EqNone.eq_none_str (zL I q (by simp))
    | _ => exact absurd (show false = true from hs) Bool.false_ne_true
  | bl i =>
    cases rx
    cases y with
    | non => cases ry; exact PySem.EqNone.eq_bool_none (zL I q (by simp))
    | bl j => cases ry; exact eq_bool (zL I q dec_bl)
    | str j => obtain ⟨t', rfl⟩ := ry; exact PySem.EqMixed.eq_bool_str (zL I q (by simp))
    | _ => exact absurd (show false = true from hs) Bool.false_ne_true
  | int i =>
    obtain ⟨t, rfl⟩ := rx
    cases y with
    | non => cases ry; exact PySem.EqNone.eq_int_none (zL I q (by simp))
    | int j => obtain ⟨t', rfl⟩ := ry; exact eq_int (zL I q dec_int)
    | str j => obtain ⟨t', rfl⟩ := ry; exact PySem.EqMixed.eq_int_str (zL I q (by simp))
    | _ => exact absurd (show false = true from hs) Bool.false_ne_true
  | str i =>
    obtain ⟨t, rfl⟩ := rx
    cases y with
    | non => cases ry; exact PySem.EqNone.eq_str_none (zL I q (by simp))
    | bl j => cases ry; exact PySem.EqMixed.eq_str_bool (zL I q (by simp))
    | int j => obtain ⟨t', rfl⟩ := ry; exact PySem.EqMixed.eq_str_int (zL I q (by simp))
    | str j => obtain ⟨t', rfl⟩ := ry; exact eq_str (zL I q dec_str)
    | _ => exact absurd (show false = true from hs) Bool.false_ne_true
  | byt i =>
    obtain ⟨t, rfl⟩ := rx
    cases y with
    | byt j => obtain ⟨t', rfl⟩ := ry; exact PySem.W.eq_bytes (zL I q dec_byt)
    | _ => exact absurd (show false = true from hs) Bool.false_ne_true
  | _ => cases y <;> exact absurd (show false = true from hs) Bool.false_ne_true
theorem op_ne : OpR X (compareOp .NotEq) rNe := by
  intro pins s σ H x y v u Q I rx ry h
  obtain ⟨hs, q⟩ := h
  cases x with
  | non =>
    cases rx
    cases y with
    | non => cases ry; exact PySem.EqNone.ne_none_none (zL I q (by simp))
    | bl j => cases ry; exact PySem.EqNone.ne_none_bool (zL I q (by simp))
    | int j => obtain ⟨t', rfl⟩ := ry; exact PySem.EqNone.ne_none_int (zL I q (by simp))
    | str j => obtain ⟨t', rfl⟩ := ry; exact PySem.EqNone.ne_none_str (zL I q (by simp))
    | _ => exact absurd (show false = true from hs) Bool.false_ne_true
  | bl i =>
    cases rx
    cases y with
    | non => cases ry; exact PySem.EqNone.ne_bool_none (zL I q (by simp))
    | bl j => cases ry; exact ne_bool (zL I q (congrArg not dec_bl))
    | str j => obtain ⟨t', rfl⟩ := ry; exact PySem.EqMixed.ne_bool_str (zL I q (by simp))
    | _ => exact absurd (show false = true from hs) Bool.false_ne_true
  | int i =>
    obtain ⟨t, rfl⟩ := rx
    cases y with
    | non => cases ry; exact PySem.EqNone.ne_int_none (zL I q (by simp))
    | int j => obtain ⟨t', rfl⟩ := ry; exact ne_int (zL I q (congrArg not dec_int))
    | str j => obtain ⟨t', rfl⟩ := ry; exact PySem.EqMixed.ne_int_str (zL I q (by simp))
    | _ => exact absurd (show false = true from hs) Bool.false_ne_true
  | str i =>
    obtain ⟨t, rfl⟩ := rx
    cases y with
    | non => cases ry; exact PySem.EqNone.ne_str_none (zL I q (by simp))
    | bl j => cases ry; exact PySem.EqMixed.ne_str_bool (zL I q (by simp))
    | int j => obtain ⟨t', rfl⟩ := ry; exact PySem.EqMixed.ne_str_int (zL I q (by simp))
    | str j => obtain ⟨t', rfl⟩ := ry; exact ne_str (zL I q (congrArg not dec_str))
    | _ => exact absurd (show false = true from hs) Bool.false_ne_true
  | byt i =>
    obtain ⟨t, rfl⟩ := rx
    cases y with
    | byt j => obtain ⟨t', rfl⟩ := ry; exact PySem.W.ne_bytes (zL I q (congrArg not dec_byt))
    | _ => exact absurd (show false = true from hs) Bool.false_ne_true
  | _ => cases y <;> exact absurd (show false = true from hs) Bool.false_ne_true
theorem op_lt : OpR X (compareOp .Lt) (rI0 fun i j => .bl (decide (i < j))) := opB0 fun _ _ _ _ _ _ _ q => lt_int q
theorem op_le : OpR X (compareOp .LtE) (rI0 fun i j => .bl (decide (i ≤ j))) := opB0 fun _ _ _ _ _ _ _ q => le_int q
theorem op_gt : OpR X (compareOp .Gt) (rI0 fun i j => .bl (decide (j < i))) := opB0 fun _ _ _ _ _ _ _ q => gt_int q
theorem op_isN : OpR X (compareOp .Is) (fun x y H Q => y = .non ∧ Q (.bl (decide (x = .non))) H) := by
  intro pins s σ H x y v u Q I rx ry h
  obtain ⟨rfl, q⟩ := h
  cases ry
  refine is_none_gen (zL I q ?_)
  cases x <;> first
    | (cases rx; rfl)
    | (obtain ⟨t, rfl⟩ := rx; rfl)
theorem op_notN : OpR X (compareOp .IsNot) (fun x y H Q => y = .non ∧ Q (.bl (!decide (x = .non))) H) := by
  intro pins s σ H x y v u Q I rx ry h
  obtain ⟨rfl, q⟩ := h
  cases ry
  refine isnot_none_gen (zL I q ?_)
  cases x <;> first
    | (cases rx; rfl)
    | (obtain ⟨t, rfl⟩ := rx; rfl)
theorem zW (b : Expr) {op : CmpOp} (h : op ≠ .In := by decide) (h2 : op ≠ .NotIn := by decide) : behindInMarks op b = false := by
  have e1 : (op == CmpOp.In) = false := by cases op <;> first | rfl | exact absurd rfl h
  have e2 : (op == CmpOp.NotIn) = false := by cases op <;> first | rfl | exact absurd rfl h2
  cases b <;> simp [behindInMarks, e1, e2]
theorem xh {op : CmpOp} {r : R2} (ho : OpR X (compareOp op) r) (ha : PE X a ta) (hb : PE X b tb) (hm : behindInMarks op b = false) : PE X (.Compare a [op] [b] pos) (tOp r ta tb) := by
  intro pins s σ H Q I h
  exact wpAny_Compare1 (binT ha hb I h fun v u s2 x y H2 I2 rx ry q => ho pins s2 σ H2 x y v u Q I2 rx ry q) hm
def tTest (t : TE) : TT := fun σ H Q => t σ H fun x H' => ∃ k, x = .bl k ∧ Q k H'
theorem zX {op : CmpOp} {r : R2} (ho : OpR X (compareOp op) r) (ha : PE X a ta) (hb : PE X b tb) (hm : behindInMarks op b = false) : PT X (.Compare a [op] [b] pos) (tTest (tOp r ta tb)) := by
  intro pins s σ H Q I h
  refine wpAny_isTrue_Compare1 (thn (ha pins s σ H _ I h) fun v s1 ⟨x, H1, I1, r1, q1⟩ => thn (hb pins s1 σ H1 _ I1 q1) fun u s2 ⟨y, H2, I2, r2, q2⟩ =>
    thn (ho pins s2 σ H2 x y v u _ I2 r1 r2 q2) fun c s3 ⟨z, H3, I3, r3, k, e, q3⟩ => ?_) hm
  subst e
  cases r3
  exact wpAny_truthy_bool ⟨H3, I3, q3⟩
def tChain (r r' : R2) (ta tb tc : TE) : TE := fun σ H Q => ta σ H fun x H1 => tb σ H1 fun y H2 => r x y H2 fun z H3 => ∃ k, z = .bl k ∧
  (if k = true then tc σ H3 fun w' H4 => r' y w' H4 Q else Q (.bl false) H3)
theorem pe_chain {op op' : CmpOp} {r r' : R2} (ho : OpR X (compareOp op) r) (ho' : OpR X (compareOp op') r') (ha : PE X a ta) (hb : PE X b tb) (hc : PE X c tc)
    (hm : lastMarks [op, op'] [b, c] = false := by with_unfolding_all rfl) : PE X (.Compare a [op, op'] [b, c] pos) (tChain r r' ta tb tc) := by
  intro pins s σ H Q I h
  refine Compare_chain (thn (ha pins s σ H _ I h) fun v s1 ⟨x, H1, I1, r1, q1⟩ => chain_link (thn (hb pins s1 σ H1 _ I1 q1) fun u s2 ⟨y, H2, I2, r2, q2⟩ =>
    thn (ho pins s2 σ H2 x y v u _ I2 r1 r2 q2) fun d s3 ⟨z, H3, I3, r3, k, e, q3⟩ => ?_)) hm
  subst e
  cases r3
  refine wpAny_truthy_bool ?_
  cases k with
  | false => exact ite_ff ⟨.bl false, H3, I3, rfl, q3⟩
  | true => exact ite_tt (chain_last (thn (hc pins s3 σ H3 _ I3 q3) fun w' s4 ⟨z', H4, I4, r4, q4⟩ => ho' pins s4 σ H4 y z' u w' Q I4 r2 r4 q4))
theorem pt_chain {op op' : CmpOp} {r r' : R2} (ho : OpR X (compareOp op) r) (ho' : OpR X (compareOp op') r') (ha : PE X a ta) (hb : PE X b tb) (hc : PE X c tc)
    (hm : lastMarks [op, op'] [b, c] = false := by with_unfolding_all rfl) : PT X (.Compare a [op, op'] [b, c] pos) (tTest (tChain r r' ta tb tc)) := by
  intro pins s σ H Q I h
  refine isTrue_chain (thn (ha pins s σ H _ I h) fun v s1 ⟨x, H1, I1, r1, q1⟩ => test_link (thn (hb pins s1 σ H1 _ I1 q1) fun u s2 ⟨y, H2, I2, r2, q2⟩ =>
    thn (ho pins s2 σ H2 x y v u _ I2 r1 r2 q2) fun d s3 ⟨z, H3, I3, r3, k, e, q3⟩ => ?_)) hm
  subst e
  cases r3
  refine wpAny_truthy_bool ?_
  cases k with
  | false =>
    obtain ⟨k', e', q'⟩ := q3
    cases e'
    exact ite_ff ⟨H3, I3, q'⟩
  | true =>
    refine ite_tt (test_last (thn (hc pins s3 σ H3 _ I3 q3) fun w' s4 ⟨z', H4, I4, r4, q4⟩ => thn (ho' pins s4 σ H4 y z' u w' _ I4 r2 r4 q4) fun d' s5 ⟨z2, H5, I5, r5, k2, e2, q5⟩ => ?_))
    subst e2
    cases r5
    exact wpAny_truthy_bool ⟨H5, I5, q5⟩
theorem line63 : (sizeLine : Nat) < 2 ^ 63 := by rw [sizeLine_eq]; decide
theorem vals1 {x : V} {us : List Value} (r : Vals [x] us) : ∃ u, us = [u] ∧ RelV x u := by
  cases r with
  | cons r1 r2 => cases r2; exact ⟨_, rfl, r1⟩
theorem vals2 {x y : V} {us : List Value} (r : Vals [x, y] us) : ∃ u w', us = [u, w'] ∧ RelV x u ∧ RelV y w' := by
  cases r with
  | cons r1 r2 =>
    cases r2 with
    | cons r3 r4 => cases r4; exact ⟨_, _, rfl, r1, r3⟩
theorem call_min2 (hc : X.calm = true) : CallR X (.builtin "min") (fun xs H Q => ∃ i j, xs = [.int i, .int j] ∧ Q (.int (if j < i then j else i)) H) := by
  intro pins s σ H xs us Q I r h
  obtain ⟨i, j, rfl, q⟩ := h
  obtain ⟨u, w', rfl, ⟨t, rfl⟩, ⟨t', rfl⟩⟩ := vals2 r
  refine min_two_ints (I.ok.hd hc) fun h' tk k => ⟨_, H, I.kept k, ?_, q⟩
  by_cases hj : j < i
  · rw [if_pos hj, if_pos hj]; exact ⟨_, rfl⟩
  · rw [if_neg hj, if_neg hj]; exact ⟨_, rfl⟩
theorem call_int1 : CallR X (.type "int") (fun xs H Q => (∃ i, xs = [.int i] ∧ Q (.int i) H) ∨ ∃ k, xs = [.bl k] ∧ Q (.int (if k then 1 else 0)) H) := by
  intro pins s σ H xs us Q I r h
  rcases h with ⟨i, rfl, q⟩ | ⟨k, rfl, q⟩
  · obtain ⟨u, rfl, t, rfl⟩ := vals1 r
    exact call_int_int ⟨.int i, H, I, ⟨_, rfl⟩, q⟩
  · obtain ⟨u, rfl, r1⟩ := vals1 r
    cases r1
    exact call_int_bool ⟨.int (if k then 1 else 0), H, I.tok _, ⟨_, rfl⟩, q⟩
end
end L2
namespace L2
open PySem PySem.Spec PyProof.Rows
structure ObjM (h : Heap) (x dx C : Addr) (mA : Str → Option Value) : Prop where
  obj : h.get? x = some (PySem.W.instObj C dx)
  ns : h.Ns1 dx mA
  ne : dx ≠ x
theorem lookIn_ns {h : Heap} {dx : Addr} {mA : Str → Option Value} (n : h.Ns1 dx mA) : ∃ od, h.get? dx = some od ∧ ∀ name, PySem.W.lookIn name od = some (mA name) := by
  obtain ⟨o, es, ep, ho, hd, hk, _, hm⟩ := n
  refine ⟨o, ho, fun name => ?_⟩
  have e := hm name
  unfold nsFind findBy at e
  rw [← Array.find?_toList] at e
  unfold PySem.W.lookIn
  rw [hd]
  dsimp only
  split
  · rename_i y q
    rw [q] at e
    exact congrArg some e
  · rename_i q
    rw [q] at e
    have a : es.toList.any (·.refKey) = false := by
      rw [List.any_eq_false]
      intro y hy
      obtain ⟨z, t, hkey⟩ := hk y (Array.mem_toList_iff.mp hy)
      simp [DictEntry.refKey, hkey]
    have a' : ¬ es.toList.any (·.refKey) = true := by rw [a]; exact Bool.false_ne_true
    rw [if_neg a']
    exact congrArg some e
theorem ObjM.look {h : Heap} {x dx C : Addr} {mA : Str → Option Value} (I : ObjM h x dx C mA) : ∃ od, PySem.W.InstAt h x (PySem.W.instObj C dx) C (some od) ∧ ∀ name, PySem.W.lookIn name od = some (mA name) :=
  let ⟨od, ho, hl⟩ := lookIn_ns I.ns
  ⟨od, ⟨I.obj, rfl, rfl, ho⟩, hl⟩
section
variable {prog : Program} {w : World} {A : Around} {E : Value → Shared → Prop} {s : Shared} {K : PySem.W.Frag} {x dx C f : Addr} {mA : Str → Option Value} {name : Str} {v : Value}
theorem get_map {expr : Bool} {Q : Value → Shared → Prop} (X : K.In s.heap) (I : ObjM s.heap x dx C mA) (hg : PySem.W.plainGet K C name = true) (hh : PySem.W.hasDictIn K C = true)
    (ha : PySem.W.findIn K (.ref C) name = some none) (hv : mA name = some v) (hv' : PySem.W.handedIn v = true) (h : Q v { s with toks := s.toks + 1 }) :
    wpAny (model prog w) A (getAttr (.ref x) name expr) Q E s := by
  obtain ⟨od, J, hl⟩ := I.look
  exact PySem.W.get_value X J (PySem.W.plainGet_of hg).1 (PySem.W.findObj_own hh ha rfl (by rw [hl, hv])) hv' h
theorem get_meth {pl : Sem Bool} {Q : Value × List Value → Shared → Prop} (X : K.In s.heap) (I : ObjM s.heap x dx C mA) (hg : PySem.W.plainGet K C name = true)
    (hf : PySem.W.findIn K (.ref C) name = some (some (.ref f))) (ht : PySem.W.isFn K (.ref f) = true) (hv : mA name = none) (h : Q (.ref f, [.ref x]) s) :
    wpAny (model prog w) A (getMethod (.ref x) name pl) Q E s := by
  obtain ⟨od, J, hl⟩ := I.look
  exact PySem.W.method_fn X J (PySem.W.plainGet_of hg).1 (PySem.W.plainGet_of hg).2 hf (beq_iff_eq.mp ht) (by show (PySem.W.lookIn name od).map (·.isSome) = some false; rw [hl, hv]; rfl) h
theorem set_map {ns : List Str} {Q : Unit → Shared → Prop} (X : K.In s.heap) (I : ObjM s.heap x dx C mA)
    (hs : PySem.W.findIn K (.ref C) "__setattr__" = some (some (.builtin "object.__setattr__"))) (hp : PySem.W.plainOver K C = true) (ht : PySem.W.takerIn K C name = some none) (hh : PySem.W.hasDictIn K C = true)
    (hw : PySem.Within mA ns) (hsz : ns.length ≤ sizeLine)
    (h : ∀ h', ObjM h' x dx C (fun y => if y = name then some v else mA y) → Heap.SameBut dx s.heap h' → Q () { s with heap := h', toks := s.toks + 2 }) :
    wpAny (model prog w) A (setAttr (.ref x) name v) Q E s := by
  obtain ⟨od, J, hl⟩ := I.look
  refine PySem.W.set_plain X J hs (PySem.W.osa_open (s := { s with toks := s.toks + 1 }) (r := none) X J hp ht fun b => ?_)
  obtain ⟨cd, hc, hd'⟩ := PySem.W.any_some hh
  have hx : s.heap.get? x = some ⟨.ref C, some dx, .plain, #[]⟩ := I.obj
  refine wpAny_bind (wpAny_pure (wpAny_bind (wpAny_bind (wpAny_loadPart hx (wpAny_bind (PySem.W.Looks.here (s := { s with toks := s.toks + 1 }) (PySem.W.looks_clsIn X hc) ?_))))))
  rw [hd']
  refine wpAny_pure (a := some dx) (wpAny_bind (wpAny_pure (wpAny_bind ?_)))
  refine wpAny_nsSet1 (s := { s with toks := s.toks + 1 }) I.ns fun h' hn2 hs2 => ?_
  obtain ⟨oD, esD, epD, hoD, hdD, hcD⟩ := hn2.count (PySem.Within.cons name v hw)
  refine wpAny_bind (wpAny_lookBehind hoD (by rw [hdD]; exact pastItsLine_dict (Nat.le_trans hcD (by rw [List.length_cons]; omega))) ?_)
  exact wpAny_pure (h _ ⟨(hs2.2 _ (Ne.symm I.ne)).trans I.obj, hn2, I.ne⟩ hs2)
theorem make_map {R : Result → Shared → Prop} {vs : List Value} {kw : List (Str × Value)} (X : K.In s.heap) (hm : PySem.W.makesIn K C = true)
    (hi : PySem.W.findIn K (.ref C) "__init__" = some (some (.ref f))) (hf : PySem.W.typeIn K (.ref f) = some (.type "function"))
    (h : codeAny (model prog w) (A.under (.builtin "type.__call__" ⟨.ref C :: vs, kw⟩)) (.call (.ref f) ⟨.ref (s.heap.objs.size + 1) :: vs, kw⟩) (PySem.W.InitBack (s.heap.objs.size + 1) R)
      { s with heap := (s.heap.push PySem.W.emptyDict).push (PySem.W.instObj C s.heap.objs.size) }) :
    codeAny (model prog w) A (.call (.ref C) ⟨vs, kw⟩) R s := by
  obtain ⟨hh, g, d, t, os⟩ := s
  exact PySem.W.make_core (PySem.W.makes_of X hm) (PySem.W.looks_findIn X hi) (fun self => PySem.W.bind_fn X self hf) (.inl rfl) h
end
def zw (f : Str) (v : V) : List (Str × V) → List (Str × V)
  | [] => [(f, v)]
  | (g, x) :: r => if g = f then (g, v) :: r else (g, x) :: zw f v r
theorem lookup_putF (f g : Str) (v : V) : ∀ fs : List (Str × V), (zw f v fs).lookup g = if g = f then some v else fs.lookup g
  | [] => by
    show List.lookup g [(f, v)] = _
    by_cases h : g = f
    · have hb : (g == f) = true := beq_iff_eq.mpr h
      simp only [List.lookup, hb, if_pos h]
    · have hb : (g == f) = false := beq_eq_false_iff_ne.mpr h
      simp only [List.lookup, hb, if_neg h]
  | (k, x) :: r => by
    have ih := lookup_putF f g v r
    rw [show zw f v ((k, x) :: r) = (if k = f then (k, v) :: r else (k, x) :: zw f v r) from rfl]
    by_cases hk : k = f
    · rw [if_pos hk]
      by_cases h : g = k
      · have hb : (g == k) = true := beq_iff_eq.mpr h
        simp only [List.lookup, hb, if_pos (h.trans hk)]
      · have hb : (g == k) = false := beq_eq_false_iff_ne.mpr h
        simp only [List.lookup, hb, if_neg (fun e : g = f => h (e.trans hk.symm))]
    · rw [if_neg hk]
      by_cases h : g = k
      · have hb : (g == k) = true := beq_iff_eq.mpr h
        simp only [List.lookup, hb, if_neg (fun e : g = f => hk (h.symm.trans e))]
      · have hb : (g == k) = false := beq_eq_false_iff_ne.mpr h
        simp only [List.lookup, hb]
        exact ih
theorem keys_putF (f : Str) (v : V) : ∀ fs : List (Str × V), f ∈ (zw f v fs).map (·.1) ∧ ∀ g, g ∈ fs.map (·.1) → g ∈ (zw f v fs).map (·.1)
  | [] => ⟨by simp [zw], fun g h => by simp at h⟩
  | (k, x) :: r => by
    obtain ⟨i1, i2⟩ := keys_putF f v r
    rw [show zw f v ((k, x) :: r) = (if k = f then (k, v) :: r else (k, x) :: zw f v r) from rfl]
    by_cases hk : k = f
    · rw [if_pos hk]
      subst hk
      exact ⟨by simp, fun g h => by simpa using h⟩
    · rw [if_neg hk]
      refine ⟨?_, fun g h => ?_⟩
      · rw [List.map_cons]
        exact List.mem_cons_of_mem _ i1
      · rw [List.map_cons] at h ⊢
        rcases List.mem_cons.mp h with e | e
        · exact List.mem_cons.mpr (.inl e)
        · exact List.mem_cons_of_mem _ (i2 g e)
theorem length_putF (f : Str) (v : V) : ∀ fs : List (Str × V), (zw f v fs).length ≤ fs.length + 1
  | [] => by simp [zw]
  | (k, x) :: r => by
    have ih := length_putF f v r
    rw [show zw f v ((k, x) :: r) = (if k = f then (k, v) :: r else (k, x) :: zw f v r) from rfl]
    by_cases hk : k = f
    · rw [if_pos hk, List.length_cons, List.length_cons]; omega
    · rw [if_neg hk, List.length_cons, List.length_cons]; omega
theorem RelO.some_of {v : V} {o : Option Value} (r : RelO (some v) o) : ∃ u, o = some u ∧ RelV v u := by
  cases o with
  | none => exact (show False from r).elim
  | some u => exact ⟨u, rfl, r⟩
theorem RelO.none_of {o : Option Value} (r : RelO none o) : o = none := by
  cases o with
  | none => rfl
  | some u => exact (show False from r).elim
theorem handed_of {v : V} {u : Value} (r : RelV v u) : PySem.W.handedIn u = true := by
  cases v with
  | non => cases (show u = Value.none from r); rfl
  | bl b => cases (show u = Value.bool b from r); rfl
  | int i => obtain ⟨t, e⟩ := (show ∃ t, u = Value.int i t from r); cases e; rfl
  | str x => obtain ⟨t, e⟩ := (show ∃ t, u = Value.str x t from r); cases e; rfl
  | byt b => obtain ⟨t, e⟩ := (show ∃ t, u = Value.bytes b t from r); cases e; rfl
  | flt b => obtain ⟨t, e⟩ := (show ∃ t, u = Value.float b t from r); cases e; rfl
  | ref a => cases (show u = Value.ref a from r); rfl
  | ty n => cases (show u = Value.type n from r); rfl
section
variable {P : Program} {w : World} {H H' : Hp} {h h' : Heap} {a C dx : Addr} {fs fs' : List (Str × V)}
theorem ins_get (hok : HOk P w H h) (e : H a = some (.ins C dx fs)) : ∃ mA, ObjM h a dx C mA ∧ (∀ f, RelO (fs.lookup f) (mA f)) ∧ PySem.Within mA (fs.map (·.1)) ∧ fs.length ≤ 1000 ∧ H dx = some (.own a) := by
  obtain ⟨d, z, ne, ob, mA, n, r, q⟩ := (show ObjOk P w H h a (.ins C dx fs) from hok a _ e)
  exact ⟨mA, ⟨ob, n, ne⟩, r, q, z, d⟩
end
structure Cls (K : PySem.W.Frag) (C : Addr) : Prop where
  pg : PySem.W.plainGet K C Str.empty = true
  hd : PySem.W.hasDictIn K C = true
  po : PySem.W.plainOver K C = true
  sa : PySem.W.findIn K (.ref C) "__setattr__" = some (some (.builtin "object.__setattr__"))
theorem Cls.get {K : PySem.W.Frag} {C : Addr} (c : Cls K C) (f : Str) : PySem.W.plainGet K C f = true := c.pg
def NoAttr (K : PySem.W.Frag) (C : Addr) (f : Str) : Prop := PySem.W.findIn K (.ref C) f = some none
theorem NoAttr.taker {K : PySem.W.Frag} {C : Addr} {f : Str} (n : NoAttr K C f) : PySem.W.takerIn K C f = some none := by
  unfold PySem.W.takerIn
  rw [show PySem.W.findIn K (.ref C) f = some none from n]
  rfl
structure Meth (K : PySem.W.Frag) (C : Addr) (m : Str) (f : Addr) : Prop where
  at_ : PySem.W.findIn K (.ref C) m = some (some (.ref f))
  fn : PySem.W.isFn K (.ref f) = true
  kp : PySem.W.keepIn K (.ref f) = true
section
variable {X : Cx} {pins : List (Addr × Obj)} {σ : St} {H : Hp} {s : Shared} {a C dx : Addr} {fs : List (Str × V)} {f : Str} {v : V} {A : Around} {E : Value → Shared → Prop}
theorem getattr_ok {b : Bool} {Q : Value → Shared → Prop} (I : Inv X pins σ H s) (e : H a = some (.ins C dx fs)) (c : Cls X.K C) (n : NoAttr X.K C f) (l : fs.lookup f = some v)
    (h : ∀ u s', Inv X pins σ H s' → RelV v u → Q u s') : wpAny (model X.prog X.w) A (getAttr (.ref a) f b) Q E s := by
  obtain ⟨mA, O, r, _, _, _⟩ := ins_get I.hok e
  obtain ⟨u, hu, ru⟩ := RelO.some_of (v := v) (o := mA f) (by rw [← l]; exact r f)
  exact get_map I.kIn O (c.get f) c.hd n hu (handed_of ru) (h u _ (I.tok _) ru)
theorem getmeth_ok {m : Str} {g : Addr} {pl : Sem Bool} {Q : Value × List Value → Shared → Prop} (I : Inv X pins σ H s) (e : H a = some (.ins C dx fs)) (c : Cls X.K C) (k : Meth X.K C m g) (l : fs.lookup m = none)
    (h : Q (.ref g, [.ref a]) s) : wpAny (model X.prog X.w) A (getMethod (.ref a) m pl) Q E s := by
  obtain ⟨mA, O, r, _, _, _⟩ := ins_get I.hok e
  have hn : mA m = none := RelO.none_of (by rw [← l]; exact r m)
  exact get_meth I.kIn O (c.get m) k.at_ k.fn hn h
theorem setattr_ok {y : V} {u : Value} {Q : Unit → Shared → Prop} (I : Inv X pins σ H s) (e : H a = some (.ins C dx fs)) (c : Cls X.K C) (n : NoAttr X.K C f) (hl : fs.length < 1000) (ry : RelV y u)
    (h : ∀ s', Inv X pins σ (upd H a (.ins C dx (zw f y fs))) s' → Q () s') : wpAny (model X.prog X.w) A (setAttr (.ref a) f u) Q E s := by
  obtain ⟨mA, O, r, wi, _, ho⟩ := ins_get I.hok e
  have hz : (fs.map (·.1)).length ≤ sizeLine := by rw [List.length_map, sizeLine_eq]; omega
  refine set_map I.kIn O c.sa c.po n.taker c.hd wi hz fun h' O' sb => h _ ?_
  have hd : ∃ o, h'.get? dx = some o := let ⟨o, _, _, e', _⟩ := O'.ns; ⟨o, e'⟩
  refine I.write (x := a) (e := dx) (by rw [e]; exact True.intro) (.inr ho) (fun b q hb z => (sb.2 b hb).trans z) hd ?_
  refine ⟨by rw [zj O.ne]; exact ho, ?_, O.ne, O'.obj, _, O'.ns, fun g => ?_, fun g hg => ?_⟩
  · have := length_putF f y fs; omega
  · show RelO ((zw f y fs).lookup g) (if g = f then some u else mA g)
    rw [lookup_putF]
    by_cases q : g = f
    · rw [if_pos q, if_pos q]; exact ry
    · rw [if_neg q, if_neg q]; exact r g
  · by_cases q : g = f
    · rw [q]; exact (keys_putF f y fs).1
    · refine (keys_putF f y fs).2 g (wi g fun z => hg ?_)
      show (if g = f then some u else mA g) = none
      rw [if_neg q]; exact z
theorem Inv.made (I : Inv X pins σ H s) : Inv X pins σ (upd (upd H s.heap.objs.size (.own (s.heap.objs.size + 1))) (s.heap.objs.size + 1) (.ins C s.heap.objs.size []))
    { s with heap := (s.heap.push PySem.W.emptyDict).push (PySem.W.instObj C s.heap.objs.size) } := by
  have e1 : (s.heap.push PySem.W.emptyDict).get? s.heap.objs.size = some PySem.W.emptyDict := Heap.get?_push_size s.heap rfl
  have e2 : ((s.heap.push PySem.W.emptyDict).push (PySem.W.instObj C s.heap.objs.size)).get? (s.heap.objs.size + 1) = some (PySem.W.instObj C s.heap.objs.size) := by
    have := Heap.get?_push_size (s.heap.push PySem.W.emptyDict) (o := PySem.W.instObj C s.heap.objs.size) rfl
    rwa [Heap.size_push] at this
  have e3 : (s.heap.push PySem.W.emptyDict).Ns s.heap.objs.size (fun _ => none) := ⟨PySem.W.emptyDict, #[], _, e1, rfl, (fun e he => absurd he (by simp)), fun _ => rfl⟩
  have I1 := I.laid (a := s.heap.objs.size) (o := .own (s.heap.objs.size + 1)) (h' := s.heap.push PySem.W.emptyDict) (t' := s.toks) (fun b u q => Heap.get?_push_of_some _ q) (Nat.le_refl _) ⟨_, e1⟩
  refine I1.laid (a := s.heap.objs.size + 1) (o := .ins C s.heap.objs.size []) (t' := s.toks) (fun b u q => Heap.get?_push_of_some _ q) (Nat.le_of_eq (Heap.size_push _ _)) ?_
  have ne : s.heap.objs.size ≠ s.heap.objs.size + 1 := Nat.ne_of_lt (Nat.lt_succ_self _)
  refine ⟨by rw [zj ne, zf], Nat.zero_le _, ne, e2, fun _ => none, (Heap.Ns1.of_empty e3).at fun o q => Heap.get?_push_of_some _ q, fun _ => True.intro, fun y hy => absurd rfl hy⟩
theorem attr_of {prog : Program} {w : World} {env : Env} {e : Expr} {f : Str} {pos : Pos} {s : Shared} {Q : Value → Shared → Prop} (hb : attributeBase e f env (eval e env) = eval e env)
    (h : wpAny (model prog w) A (eval e env) (fun o s₁ => wpAny (model prog w) A (getAttr o f true) Q E s₁) E s) : wpAny (model prog w) A (eval (.Attribute e f pos) env) Q E s :=
  Attribute_any_ h (by rw [arm_eval_Attribute, hb])
end
def tFld (K : PySem.W.Frag) (ta : TE) (f : Str) : TE := fun σ H Q => ta σ H fun x H1 => ∃ a C dx fs v, x = .ref a ∧ H1 a = some (.ins C dx fs) ∧ Cls K C ∧ NoAttr K C f ∧ fs.lookup f = some v ∧ Q v H1
def sFld (K : PySem.W.Frag) (ta tv : TE) (f : Str) : TS := fun D σ H => tv σ H fun y H1 => ta σ H1 fun x H2 => ∃ a C dx fs, x = .ref a ∧ H2 a = some (.ins C dx fs) ∧ Cls K C ∧ NoAttr K C f ∧ fs.length < 1000 ∧
  D.nx σ (upd H2 a (.ins C dx (zw f y fs)))
section
variable {X : Cx} {o e value : Expr} {f : Str} {pos pos' tpos : Pos} {ta tv : TE}
theorem zp (he : PE X e ta) (hb : attributeBase e f X.env (eval e X.env) = eval e X.env) : PE X (.Attribute e f pos) (tFld X.K ta f) := by
  intro pins s σ H Q I h
  refine attr_of hb (thn (he pins s σ H _ I h) fun u s1 ⟨x, H1, I1, rx, a, C, dx, fs, v, ex, ea, c, n, l, q⟩ => ?_)
  subst ex
  obtain rfl : u = Value.ref a := rx
  exact getattr_ok I1 ea c n l fun u' s2 I2 ru => ⟨v, H1, I2, ru, q⟩
theorem zy (ha : PE X o ta) (hv : PE X value tv) (hs : swapsWith value (some (.Attribute o f pos')) pos.line X.env = pure false) : PS X (.Assign [.Attribute o f pos'] value pos) (sFld X.K ta tv f) := by
  intro pins s σ H D I h
  refine plainObj_wpAny_Assign_Attribute (thn (hv pins s σ H _ I h) fun u s1 ⟨y, H1, I1, ry, q⟩ => thn (ha pins s1 σ H1 _ I1 q) fun ov s2 ⟨x, H2, I2, rx, a, C, dx, fs, ex, ea, c, n, l, q2⟩ => ?_) hs
  subst ex
  obtain rfl : ov = Value.ref a := rx
  exact setattr_ok I2 ea c n l ry fun s3 I3 => ⟨σ, _, I3, q2⟩
end
section
variable {X : Cx} {pins : List (Addr × Obj)} {σ : St} {H : Hp} {s : Shared} {A : Around} {E : Value → Shared → Prop} {Q : Value → Shared → Prop} {c : Value} {b : Bool}
inductive TyOf (K : PySem.W.Frag) (H : Hp) : V → Value → Prop where
  | non : TyOf K H .non (.type "NoneType")
  | bl (x : Bool) : TyOf K H (.bl x) (.type "bool")
  | int (i : Int) : TyOf K H (.int i) (.type "int")
  | str (x : Str) : TyOf K H (.str x) (.type "str")
  | flt (x : UInt64) : TyOf K H (.flt x) (.type "float")
  | lst {a : Addr} {xs : List V} (e : H a = some (.lst xs)) : TyOf K H (.ref a) (.type "list")
  | frz {a : Addr} {o : Obj} {xs : List V} (e : H a = some (.frz o (.lst xs))) : TyOf K H (.ref a) (.type "list")
  | tup {a : Addr} {xs : List V} (e : H a = some (.tup xs)) : TyOf K H (.ref a) (.type "tuple")
  | dK {a : Addr} {kvs : List (Key × V)} (e : H a = some (.dK kvs)) : TyOf K H (.ref a) (.type "dict")
  | dT {a : Addr} {kvs : List (List Key × V)} (e : H a = some (.dT kvs)) : TyOf K H (.ref a) (.type "dict")
  | ins {a C dx : Addr} {fs : List (Str × V)} (e : H a = some (.ins C dx fs)) (cl : Cls K C) (ha : PySem.W.findIn K (.ref C) "__class__" = some (some (.builtin "object.__class__")))
      (hn : PySem.W.specialIn K (.builtin "object.__class__") "__get__" = some (some (.builtin "getset_descriptor.__get__"))) (htk : PySem.W.takesIn K (.builtin "object.__class__") = some true)
      (hm : PySem.W.mroIn K C (.type "object") = some true) : TyOf K H (.ref a) (.ref C)
theorem isinst_ok {x : V} {u t : Value} (I : Inv X pins σ H s) (rx : RelV x u) (ty : TyOf X.K H x t) (e : PySem.W.kitOne X.K t c = some b) (h : ∀ tk, Q (.bool b) { s with toks := tk }) :
    wpAny (model X.prog X.w) A (call (.builtin "isinstance") [u, c]) Q E s := by
  cases ty with
  | non => cases (show u = Value.none from rx); exact PySem.W.kia_one PySem.W.kitx_none I.kIn True.intro e (fun z => nomatch z) h
  | bl y => cases (show u = Value.bool y from rx); exact PySem.W.kia_one PySem.W.kitx_bool I.kIn True.intro e (fun z => nomatch z) h
  | int i => obtain ⟨t, q⟩ := (show ∃ t, u = Value.int i t from rx); cases q; exact PySem.W.kia_one PySem.W.kitx_int I.kIn True.intro e (fun z => nomatch z) h
  | str y => obtain ⟨t, q⟩ := (show ∃ t, u = Value.str y t from rx); cases q; exact PySem.W.kia_one PySem.W.kitx_str I.kIn True.intro e (fun z => nomatch z) h
  | flt y => obtain ⟨t, q⟩ := (show ∃ t, u = Value.float y t from rx); cases q; exact PySem.W.kia_one PySem.W.kitx_float I.kIn True.intro e (fun z => nomatch z) h
  | @lst a xs ea =>
    cases (show u = Value.ref a from rx)
    obtain ⟨_, _, n, _, h1⟩ := (show ObjOk X.prog X.w H s.heap a (.lst xs) from I.hok a _ ea)
    exact PySem.W.kia_one PySem.W.kitx_list I.kIn ⟨_, h1, rfl⟩ e (fun z => nomatch z) h
  | @frz a ob xs ea =>
    cases (show u = Value.ref a from rx)
    obtain ⟨_, _, _, n, _, h1⟩ := (show ObjOk X.prog X.w H s.heap a (.frz ob (.lst xs)) from I.hok a _ ea)
    exact PySem.W.kia_one PySem.W.kitx_list I.kIn ⟨_, h1, rfl⟩ e (fun z => nomatch z) h
  | @tup a xs ea =>
    cases (show u = Value.ref a from rx)
    obtain ⟨_, _, _, p⟩ := (show ObjOk X.prog X.w H s.heap a (.tup xs) from I.hok a _ ea)
    obtain ⟨o, h1, h2, _⟩ := p
    exact PySem.W.kia_one PySem.W.kitx_tuple I.kIn ⟨o, h1, h2⟩ e (fun z => nomatch z) h
  | @dK a kvs ea =>
    cases (show u = Value.ref a from rx)
    obtain ⟨_, _, vs, _, p⟩ := (show ObjOk X.prog X.w H s.heap a (.dK kvs) from I.hok a _ ea)
    obtain ⟨o, es, ep, h1, h2, _⟩ := p
    exact PySem.W.kia_one PySem.W.kitx_dict I.kIn ⟨o, h1, h2.1⟩ e (fun z => nomatch z) h
  | @dT a kvs ea =>
    cases (show u = Value.ref a from rx)
    obtain ⟨_, _, xs, _, o, es, ep, h1, h2, _⟩ := (show ObjOk X.prog X.w H s.heap a (.dT kvs) from I.hok a _ ea)
    exact PySem.W.kia_one PySem.W.kitx_dict I.kIn ⟨o, h1, h2.1⟩ e (fun z => nomatch z) h
  | @ins a C dx fs ea cl ha hn htk hm =>
    cases (show u = Value.ref a from rx)
    obtain ⟨mA, O, _⟩ := ins_get I.hok ea
    obtain ⟨od, J, _⟩ := O.look
    exact PySem.W.kia_one (PySem.W.kitx_own (cl.get _) cl.hd ha hn htk hm) I.kIn J e (fun z => nomatch z) h
end
end L2
namespace L2
open PySem PySem.Spec PyProof.Rows
structure Room (k : Nat) (A : Around) : Prop where
  hd : A.handled = none
  dp : A.depth + 3 * k + 5 < recursionLimit
  un : A.units + 16 * k + 200 < cLine
theorem Room.mono {j k : Nat} {A : Around} (r : Room k A) (h : j ≤ k) : Room j A := ⟨r.hd, by have := r.dp; omega, by have := r.un; omega⟩
theorem Room.deeper {k : Nat} {A : Around} (r : Room (k + 1) A) (env : Env) : Room k (A.deeper env) :=
  ⟨r.hd, by have := r.dp; show A.depth + 1 + 3 * k + 5 < _; omega, by have := r.un; show A.units + 3 + 16 * k + 200 < _; omega⟩
theorem make_depth {A : Around} {C : Addr} {us : List Value} {kw : List (Str × Value)} : (A.under (.builtin "type.__call__" ⟨.ref C :: us, kw⟩)).depth = A.depth + 1 := by
  first | rfl | simp [Around.under, Code.weight, Code.isCreation, Code.isGuard, Code.isCaller, Code.frames, Code.isFrame, guardIds]
theorem make_units {A : Around} {C : Addr} {us : List Value} {kw : List (Str × Value)} : (A.under (.builtin "type.__call__" ⟨.ref C :: us, kw⟩)).units = A.units + 1 := by
  first | rfl | simp [Around.under, Code.cUnits, Code.frames, Code.isFrame]
theorem Room.make {k : Nat} {A : Around} (r : Room (k + 1) A) (C : Addr) (us : List Value) (kw : List (Str × Value)) : Room k (A.under (.builtin "type.__call__" ⟨.ref C :: us, kw⟩)) :=
  ⟨r.hd, by have := r.dp; rw [make_depth]; omega, by have := r.un; rw [make_units]; omega⟩
theorem Room.depth {k : Nat} {A : Around} (r : Room k A) : A.depth < recursionLimit := by have := r.dp; omega
theorem Room.units {k : Nat} {A : Around} (r : Room k A) : A.units + 64 < cLine := by have := r.un; omega
def tNil : TA := fun _ H Q => Q [] H
def tCons (ta : TE) (tr : TA) : TA := fun σ H Q => ta σ H fun x H1 => tr σ H1 fun xs H2 => Q (x :: xs) H2
section
variable {X : Cx} {e : Expr} {es : List Expr} {te : TE} {t : TA} {pos : Pos}
theorem zd : PA X [] tNil := fun _ _ _ _ H Q I h => Calls.spliced_nil ⟨[], H, I, .nil, h⟩
theorem za (ha : PE X e te) (hr : PA X es t) (hs : starEach (e :: es) X.env = (false, eval e X.env) :: starEach es X.env := by rfl) : PA X (e :: es) (tCons te t) := by
  intro pos pins s σ H Q I h
  rw [hs]
  show wpAny _ _ (spliced ((false, eval e X.env) :: backTo pos (starEach es X.env))) _ _ s
  refine Calls.spliced_cons (thn (ha pins s σ H _ I h) fun u s1 ⟨x, H1, I1, r1, q1⟩ => ?_)
  exact thn (hr pos pins s1 σ H1 _ I1 q1) fun us s2 ⟨xs, H2, I2, r2, q2⟩ => ⟨x :: xs, H2, I2, .cons r1 r2, q2⟩
def tTup (t : TA) : TE := fun σ H Q => t σ H fun xs H1 => xs.length ≤ sizeLine ∧ ∀ p, H1 p = none → Q (.ref p) (upd H1 p (.tup xs))
def tLst (t : TA) : TE := fun σ H Q => t σ H fun xs H1 => xs.length ≤ sizeLine ∧ ∀ p, H1 p = none → Q (.ref p) (upd H1 p (.lst xs))
theorem yJ {x1} (h : PA X es t) : PE X (.Tuple es x1 pos) (tTup t) := by
  intro pins s σ H Q I hq
  refine wpAny_Tuple_spliced (thn (h pos pins s σ H _ I hq) fun us s1 ⟨xs, H1, I1, r, z, q⟩ => ⟨by rw [← r.length]; exact z, ?_⟩)
  have hf : H1 s1.heap.objs.size = none := I1.hok.fresh (Nat.le_refl _)
  refine ⟨.ref s1.heap.objs.size, upd H1 s1.heap.objs.size (.tup xs), I1.laid (t' := s1.toks) (fun b u e => Heap.get?_push_of_some _ e) (Nat.le_refl _) ?_, rfl, q _ hf⟩
  exact ⟨z, us, r, ⟨_, Heap.get?_push_size _ rfl, rfl, _, rfl⟩⟩
theorem yL (h : PA X es t) : PE X (.List es pos) (tLst t) := by
  intro pins s σ H Q I hq
  refine wpAny_List_spliced (thn (h pos pins s σ H _ I hq) fun us s1 ⟨xs, H1, I1, r, z, q⟩ => ⟨by rw [← r.length]; exact z, ?_⟩)
  have hf : H1 s1.heap.objs.size = none := I1.hok.fresh (Nat.le_refl _)
  refine ⟨.ref s1.heap.objs.size, upd H1 s1.heap.objs.size (.lst xs), I1.laid (t' := s1.toks) (fun b u e => Heap.get?_push_of_some _ e) (Nat.le_refl _) ?_, rfl, q _ hf⟩
  exact ⟨z, us, 0, r, Heap.get?_push_size _ rfl⟩
end
abbrev Sp := List V → Hp → VK → XK → Prop
abbrev CXT := List Env → Hp → Shared → XK → Value → Shared → Prop
structure Env0 (P : Program) (w : World) (K : PySem.W.Frag) (mg : Str → Option Value) (base : Heap) (A : Around) (outer : List Env) (s : Shared) (H : Hp) : Prop where
  frames : A.frames = some outer
  mod : Mod K mg base
  bs : ∀ b o, base.get? b = some o → s.heap.get? b = some o ∧ H b = none
  bsz : base.objs.size ≤ s.heap.objs.size
  funs : s.heap.FunFrames base outer
  frf : ∀ b ∈ frs outer, H b = none
  hok : HOk P w H s.heap
  bare : AllBare s.gens
def CE (outer : List Env) (P : Program) (w : World) (H : Hp) (s : Shared) (Q : VK) (u : Value) (s' : Shared) : Prop :=
  ∃ v H', s'.os = s.os ∧ AllBare s'.gens ∧ Un (frs outer) [] H H' s.heap s'.heap ∧ HOk P w H' s'.heap ∧ RelV v u ∧ Q v H'
def CR (CX : CXT) (outer : List Env) (P : Program) (w : World) (H : Hp) (s : Shared) (Q : VK) (E : XK) (r : Result) (s' : Shared) : Prop :=
  match r with
  | .ok (.ret u) => CE outer P w H s Q u s'
  | .ok _ => False
  | .error e => CX outer H s E e s'
structure FnOk (P : Program) (w : World) (K : PySem.W.Frag) (mg : Str → Option Value) (base : Heap) (CX : CXT) (k : Nat) (f : Addr) (fd : FuncData) (ps : List Str) (sp : Sp) : Prop where
  len : ∀ vs H Q E, sp vs H Q E → vs.length = ps.length
  run : ∀ (A : Around) (outer : List Env) (s : Shared) (H : Hp) (args : Args) (us : List Value) (vs : List V) (Q : VK) (E : XK), Room k A → Env0 P w K mg base A outer s H → BindsTo s fd args (ps.zip us) → Vals vs us → sp vs H Q E →
    codeAny (model P w) A (.call (.ref f) args) (CR CX outer P w H s Q E) s
theorem FnOk.mono {P : Program} {w : World} {K : PySem.W.Frag} {mg : Str → Option Value} {base : Heap} {CX : CXT} {j k : Nat} {f : Addr} {fd : FuncData} {ps : List Str} {sp : Sp} (F : FnOk P w K mg base CX j f fd ps sp) (h : j ≤ k) :
    FnOk P w K mg base CX k f fd ps sp := ⟨F.len, fun A outer s H args us vs Q E hr => F.run A outer s H args us vs Q E (hr.mono h)⟩
theorem Env0.make {P : Program} {w : World} {K : PySem.W.Frag} {mg : Str → Option Value} {base : Heap} {A : Around} {outer : List Env} {s : Shared} {H : Hp} (e : Env0 P w K mg base A outer s H) (C : Addr) (us : List Value) (kw : List (Str × Value)) :
    Env0 P w K mg base (A.under (.builtin "type.__call__" ⟨.ref C :: us, kw⟩)) outer s H := ⟨by first | exact e.frames | (simpa [Around.under, Code.envs, Code.isFrame, pushEnvs] using e.frames), e.mod, e.bs, e.bsz, e.funs, e.frf, e.hok, e.bare⟩
section
variable {X : Cx} {pins : List (Addr × Obj)} {σ : St} {H : Hp} {s s' : Shared}
theorem Inv.env0 (I : Inv X pins σ H s) : Env0 X.prog X.w X.K X.mg X.base X.A X.stack s H :=
  ⟨I.ok.frames, I.ok.mod, I.bs, Nat.le_trans I.ok.bsz I.sz, I.stack, I.stkFree, I.hok, I.bare⟩
theorem Inv.after {Q : VK} {u : Value} (I : Inv X pins σ H s) (h : CE X.stack X.prog X.w H s Q u s') : EP X pins σ Q u s' := by
  obtain ⟨v, H', os, bare, un, hok, r, q⟩ := h
  obtain ⟨hh, g, d, t, os'⟩ := s'
  obtain rfl : os' = s.os := os
  exact ⟨v, H', I.call (h' := hh) (g' := g) (d' := d) (t' := t) (ch := []) un hok bare (fun b z => absurd z (by simp)), r, q⟩
end
def tCall (sp : Sp) (dvs : List V) (E : XK) (t : TA) : TE := fun σ H Q => t σ H fun vs H1 => sp (vs ++ dvs) H1 Q E
def tMeth (C : Addr) (m : Str) (sp : Sp) (dvs : List V) (E : XK) (ta : TE) (t : TA) : TE := fun σ H Q => ta σ H fun x H1 => ∃ a dx fs, x = .ref a ∧ H1 a = some (.ins C dx fs) ∧ fs.lookup m = none ∧
  t σ H1 fun vs H2 => sp (x :: (vs ++ dvs)) H2 Q E
def tMake (C : Addr) (sp : Sp) (dvs : List V) (E : XK) (t : TA) : TE := fun σ H Q => t σ H fun vs H1 => ∀ x dx, H1 x = none → H1 dx = none → dx ≠ x →
  sp (.ref x :: (vs ++ dvs)) (upd (upd H1 dx (.own x)) x (.ins C dx [])) (fun v H2 => v = .non ∧ Q (.ref x) H2) E
def Binds (K : PySem.W.Frag) (fd : FuncData) (ps : List Str) (ds : List Value) : Prop :=
  ∀ (s : Shared) (us : List Value), K.In s.heap → (us ++ ds).length = ps.length → BindsTo s fd ⟨us, []⟩ (ps.zip (us ++ ds))
theorem Binds.all {K : PySem.W.Frag} {fd : FuncData} {ps : List Str} (h : ∀ us : List Value, us.length = ps.length → bindArgs fd ⟨us, []⟩ = pure (ps.zip us)) : Binds K fd ps [] := fun s us _ hl => by
  rw [List.append_nil] at hl ⊢
  exact .of_eq (h us hl)
def Passes (CX : CXT) (X : Cx) (E : XK) : Prop := ∀ (pins : List (Addr × Obj)) (σ : St) (H : Hp) (s : Shared) (e : Value) (s' : Shared), Inv X pins σ H s → CX X.stack H s E e s' → X.xe e s'
section
variable {X : Cx} {CX : CXT} {k : Nat} {f C : Addr} {fd : FuncData} {ps : List Str} {sp : Sp} {dvs : List V} {ds : List Value} {E : XK} {x m : Str} {p pos apos : Pos} {e o : Expr} {es : List Expr} {ta : TE} {t : TA}
theorem run_fn {pins : List (Addr × Obj)} {σ : St} {H : Hp} {s : Shared} {Q : VK} {us : List Value} {vs : List V} (F : FnOk X.prog X.w X.K X.mg X.base CX k f fd ps sp) (hr : Room k X.A) (hb : Binds X.K fd ps ds) (hd : Vals dvs ds) (hx : Passes CX X E)
    (I : Inv X pins σ H s) (r : Vals vs us) (h : sp (vs ++ dvs) H Q E) : wpAny (model X.prog X.w) X.A (call (.ref f) us) (EP X pins σ Q) X.xe s := by
  have r2 : Vals (vs ++ dvs) (us ++ ds) := r.append hd
  have hl : (us ++ ds).length = ps.length := by rw [← r2.length]; exact F.len _ _ _ _ h
  refine wpAny_call (codeAny_mono (F.run X.A X.stack s H ⟨us, []⟩ (us ++ ds) (vs ++ dvs) Q E hr I.env0 (hb s us I.kIn hl) r2 h) fun r s' hq => ?_)
  cases r with
  | error e => exact hx pins σ H s e s' I hq
  | ok fl =>
    cases fl with
    | ret u => exact I.after hq
    | next => exact False.elim hq
    | brk => exact False.elim hq
    | cont => exact False.elim hq
theorem pe_call (F : FnOk X.prog X.w X.K X.mg X.base CX k f fd ps sp) (hr : Room k X.A) (hg : Gl X x) (hm : X.mg x = some (.ref f)) (hk : PySem.W.keepIn X.K (.ref f) = true) (hb : Binds X.K fd ps ds) (hd : Vals dvs ds) (hx : Passes CX X E)
    (ha : PA X (e :: es) t) (hdb : (x == ("__debug__" : Str)) = false := by decide) (he : starEach (e :: es) X.env = (false, eval e X.env) :: starEach es X.env := by rfl) (hpl : (backTo pos (starEach es X.env)).any (·.1) = false := by rfl) :
    PE X (.Call (.Name x p) (e :: es) [] pos) (tCall sp dvs E t) := by
  intro pins s σ H Q I h
  refine wpAny_Call_Name_kw (ld_glob I hg hm ?_ hdb)
  refine PySem.W.callWith_K (h₀ := X.base) I.ok.mod.kin hk (thn (ha pos pins s σ H _ I h) fun us s1 ⟨vs, H1, I1, r, q⟩ => ⟨I1.kIn, ?_⟩) he hpl
  exact run_fn F hr hb hd hx I1 r q
theorem pe_meth {pl : Sem Bool} (he : PE X o ta) (c : Cls X.K C) (hm : Meth X.K C m f) (F : FnOk X.prog X.w X.K X.mg X.base CX k f fd ps sp) (hr : Room k X.A) (hb : Binds X.K fd ps ds) (hd : Vals dvs ds) (hx : Passes CX X E) (ha : PA X (e :: es) t)
    (hst : starEach (e :: es) X.env = (false, eval e X.env) :: starEach es X.env := by rfl) (hpl : (backTo pos (starEach es X.env)).any (·.1) = false := by rfl)
    (ht : eval (.Call (.Attribute o m apos) (e :: es) [] pos) X.env = (do
      let ov ← eval o X.env
      standAt apos.atName
      let (f, first) ← holding [ov] (getMethod ov m pl)
      callWith pos f first (backTo pos (starEach (e :: es) X.env)) (backToKw pos (keywordEach [] X.env))) := by rfl) :
    PE X (.Call (.Attribute o m apos) (e :: es) [] pos) (tMeth C m sp dvs E ta t) := by
  intro pins s σ H Q I h
  refine PySem.W.methodCall_KW (pl := pl) (thn (he pins s σ H _ I h) fun u s1 ⟨x, H1, I1, rx, a, dx, fs, ex, ea, l, q⟩ => ?_) ht
  subst ex
  obtain rfl : u = Value.ref a := rx
  refine getmeth_ok I1 ea c hm l ?_
  refine PySem.W.callWith_K (first := [.ref a]) (h₀ := X.base) I.ok.mod.kin hm.kp (thn (ha pos pins s1 σ H1 _ I1 q) fun us s2 ⟨vs, H2, I2, r, q2⟩ => ⟨I2.kIn, ?_⟩) hst hpl
  exact run_fn (us := .ref a :: us) (vs := .ref a :: vs) F hr hb hd hx I2 (.cons rfl r) q2
theorem pe_meth0 {pl : Sem Bool} (he : PE X o ta) (c : Cls X.K C) (hm : Meth X.K C m f) (F : FnOk X.prog X.w X.K X.mg X.base CX k f fd ps sp) (hr : Room k X.A) (hb : Binds X.K fd ps ds) (hd : Vals dvs ds) (hx : Passes CX X E)
    (ht : eval (.Call (.Attribute o m apos) [] [] pos) X.env = (do
      let ov ← eval o X.env
      standAt apos.atName
      let (f, first) ← holding [ov] (getMethod ov m pl)
      callWith pos f first (backTo pos (starEach [] X.env)) (backToKw pos (keywordEach [] X.env))) := by rfl) :
    PE X (.Call (.Attribute o m apos) [] [] pos) (tMeth C m sp dvs E ta tNil) := by
  intro pins s σ H Q I h
  refine PySem.W.methodCall_KW (pl := pl) (thn (he pins s σ H _ I h) fun u s1 ⟨x, H1, I1, rx, a, dx, fs, ex, ea, l, q⟩ => ?_) ht
  subst ex
  obtain rfl : u = Value.ref a := rx
  refine getmeth_ok I1 ea c hm l ?_
  exact PySem.W.callWith_K0 (first := [.ref a]) I1.kIn hm.kp (run_fn (us := [.ref a]) (vs := [.ref a]) F hr hb hd hx I1 (.cons rfl .nil) q)
structure Mk (K : PySem.W.Frag) (C f : Addr) : Prop where
  makes : PySem.W.makesIn K C = true
  init : PySem.W.findIn K (.ref C) "__init__" = some (some (.ref f))
  fn : PySem.W.isFn K (.ref f) = true
  kp : PySem.W.keepIn K (.ref C) = true
theorem run_make {pins : List (Addr × Obj)} {σ : St} {H : Hp} {s : Shared} {Q : VK} {us : List Value} {vs : List V} (M : Mk X.K C f) (F : FnOk X.prog X.w X.K X.mg X.base CX k f fd ps sp) (hr : Room (k + 1) X.A) (hb : Binds X.K fd ps ds) (hd : Vals dvs ds)
    (hx : Passes CX X E) (I : Inv X pins σ H s) (r : Vals vs us)
    (h : ∀ x dx, H x = none → H dx = none → dx ≠ x → sp (.ref x :: (vs ++ dvs)) (upd (upd H dx (.own x)) x (.ins C dx [])) (fun v H2 => v = .non ∧ Q (.ref x) H2) E) :
    wpAny (model X.prog X.w) X.A (call (.ref C) us) (EP X pins σ Q) X.xe s := by
  have hq := h (s.heap.objs.size + 1) s.heap.objs.size (I.hok.fresh (Nat.le_succ _)) (I.hok.fresh (Nat.le_refl _)) (Nat.ne_of_lt (Nat.lt_succ_self _))
  have I2 := Inv.made (C := C) I
  have r2 : Vals (V.ref (s.heap.objs.size + 1) :: (vs ++ dvs)) (Value.ref (s.heap.objs.size + 1) :: (us ++ ds)) := .cons rfl (r.append hd)
  have hl : (Value.ref (s.heap.objs.size + 1) :: us ++ ds).length = ps.length := by
    have e := r2.length
    rw [F.len _ _ _ _ hq] at e
    exact e.symm
  refine wpAny_call (make_map (f := f) I.kIn M.makes M.init (beq_iff_eq.mp M.fn) (codeAny_mono (F.run _ X.stack _ _ ⟨Value.ref (s.heap.objs.size + 1) :: us, []⟩ (Value.ref (s.heap.objs.size + 1) :: (us ++ ds)) _ _ E (hr.make C us [])
    (I2.env0.make C us []) (hb _ (Value.ref (s.heap.objs.size + 1) :: us) I2.kIn hl) r2 hq) fun r s' hq' => ?_))
  cases r with
  | error e => exact hx pins σ _ _ e s' I2 hq'
  | ok fl =>
    cases fl with
    | ret u =>
      obtain ⟨v, H', I3, rv, ev, q3⟩ := I2.after hq'
      subst ev
      exact ⟨rv, ⟨V.ref (s.heap.objs.size + 1), H', I3, rfl, q3⟩⟩
    | next => exact False.elim hq'
    | brk => exact False.elim hq'
    | cont => exact False.elim hq'
theorem pe_make (M : Mk X.K C f) (F : FnOk X.prog X.w X.K X.mg X.base CX k f fd ps sp) (hr : Room (k + 1) X.A) (hg : Gl X x) (hm : X.mg x = some (.ref C)) (hb : Binds X.K fd ps ds) (hd : Vals dvs ds) (hx : Passes CX X E)
    (ha : PA X (e :: es) t) (hdb : (x == ("__debug__" : Str)) = false := by decide) (he : starEach (e :: es) X.env = (false, eval e X.env) :: starEach es X.env := by rfl) (hpl : (backTo pos (starEach es X.env)).any (·.1) = false := by rfl) :
    PE X (.Call (.Name x p) (e :: es) [] pos) (tMake C sp dvs E t) := by
  intro pins s σ H Q I h
  refine wpAny_Call_Name_kw (ld_glob I hg hm ?_ hdb)
  refine PySem.W.callWith_K (h₀ := X.base) I.ok.mod.kin M.kp (thn (ha pos pins s σ H _ I h) fun us s1 ⟨vs, H1, I1, r, q⟩ => ⟨I1.kIn, ?_⟩) he hpl
  exact run_make M F hr hb hd hx I1 r q
end
section
variable {X : Cx} {CX : CXT} {k : Nat} {f C : Addr} {fd : FuncData} {ps ks : List Str} {sp : Sp} {E : XK} {x m : Str} {p pos apos kpos : Pos} {e o : Expr} {es : List Expr} {kws : List Keyword} {te ta : TE} {t tk : TA} {nm : Option Str}
variable {g : List Value → List Value → List Value} {gV : List V → List V → List V}
end
structure FnScope (N P : List Str) (sc : Scope) : Prop where
  kind : sc.kind = .function
  co : sc.isCoroutine = false
  gen : sc.isGenerator = false
  nd : N.Nodup
  pre : N.take P.length = P
  par : ∀ x ∈ P, sc.names.lookup x = some .local ∨ sc.names.lookup x = some .cell
  nofree : ∀ y ∈ sc.names, y.2 ≠ .free
theorem bindL_out {kindOf : Str → Option NameKind} {x : Str} : ∀ {binds : List (Str × Value)} {m : Str → Option Value}, (∀ v, (x, v) ∉ binds) → bindL kindOf binds m x = m x
  | [], _, _ => rfl
  | (n, v) :: r, m, h => by
    unfold bindL
    rw [bindL_out fun w hw => h w (List.mem_cons_of_mem _ hw)]
    split
    · have : x ≠ n := by rintro rfl; exact h v List.mem_cons_self
      simp [this]
    · rfl
theorem bindC_out {kindOf : Str → Option NameKind} {x : Str} : ∀ {binds : List (Str × Value)} {m : Str → Option Value}, (∀ v, (x, v) ∉ binds) → bindC kindOf binds m x = m x
  | [], _, _ => rfl
  | (n, v) :: r, m, h => by
    unfold bindC
    rw [bindC_out fun w hw => h w (List.mem_cons_of_mem _ hw)]
    split
    · rfl
    · have : x ≠ n := by rintro rfl; exact h v List.mem_cons_self
      simp [this]
theorem bindL_get {kindOf : Str → Option NameKind} {x : Str} {v : Value} : ∀ {P : List Str} {vs : List Value} {i : Nat} {m : Str → Option Value}, P.Nodup → P[i]? = some x → vs[i]? = some v → kindOf x = some .local →
    bindL kindOf (P.zip vs) m x = some v
  | [], _, _, _, _, h, _, _ => by simp at h
  | _ :: _, [], _, _, _, _, h, _ => by simp at h
  | p :: P, w :: vs, 0, m, nd, h1, h2, hk => by
    simp at h1 h2; subst h1; subst h2
    show bindL kindOf ((p, w) :: P.zip vs) m p = _
    unfold bindL
    rw [bindL_out fun v hv => (List.nodup_cons.mp nd).1 (List.of_mem_zip hv).1, if_pos hk]
    simp
  | p :: P, w :: vs, i + 1, m, nd, h1, h2, hk => by
    show bindL kindOf ((p, w) :: P.zip vs) m x = _
    unfold bindL
    exact bindL_get (i := i) (List.nodup_cons.mp nd).2 (by simpa using h1) (by simpa using h2) hk
theorem bindC_get {kindOf : Str → Option NameKind} {x : Str} {v : Value} : ∀ {P : List Str} {vs : List Value} {i : Nat} {m : Str → Option Value}, P.Nodup → P[i]? = some x → vs[i]? = some v → kindOf x ≠ some .local →
    bindC kindOf (P.zip vs) m x = some v
  | [], _, _, _, _, h, _, _ => by simp at h
  | _ :: _, [], _, _, _, _, h, _ => by simp at h
  | p :: P, w :: vs, 0, m, nd, h1, h2, hk => by
    simp at h1 h2; subst h1; subst h2
    show bindC kindOf ((p, w) :: P.zip vs) m p = _
    unfold bindC
    rw [bindC_out fun v hv => (List.nodup_cons.mp nd).1 (List.of_mem_zip hv).1, if_neg hk]
    simp
  | p :: P, w :: vs, i + 1, m, nd, h1, h2, hk => by
    show bindC kindOf ((p, w) :: P.zip vs) m x = _
    unfold bindC
    exact bindC_get (i := i) (List.nodup_cons.mp nd).2 (by simpa using h1) (by simpa using h2) hk
def start (N : List Str) (vs : List V) : St := vs.map some ++ List.replicate (N.length - vs.length) none
def cxOf (CX : CXT) (P : Program) (w : World) (K : PySem.W.Frag) (mg : Str → Option Value) (base : Heap) (N : List Str) (qual : Str) (scope : Scope) (f : Addr) (cd : Value) (A : Around) (outer : List Env) (s : Shared) (H : Hp) (E : XK) : Cx where
  prog := P
  w := w
  K := K
  mg := mg
  base := base
  A := A.deeper (envOfC qual scope s.heap.objs.size f cd)
  N := N
  s₀ := s
  H₀ := H
  env := envOfC qual scope s.heap.objs.size f cd
  outer := outer
  stack := envOfC qual scope s.heap.objs.size f cd :: outer
  ex := []
  calm := true
  fn := fun _ => true
  pn := []
  xe := fun e s' => wpAny (model P w) (A.deeper (envOfC qual scope s.heap.objs.size f cd)) (leaving (envOfC qual scope s.heap.objs.size f cd) e) (fun _ s'' => CX outer H s E e s'') (fun e' s'' => CX outer H s E e' s'') s'
theorem cell_has {sc : Scope} {n : Nat} {x : Str} (h : sc.names.lookup x = some .cell) : ∃ c, (cellsFrom n sc.names []).lookup x = some c := by
  have q := PySem.W.cellsFrom_some sc.names n [] (.inl h)
  exact Option.isSome_iff_exists.mp q
theorem inv_start {CX : CXT} {P : Program} {w : World} {K : PySem.W.Frag} {mg : Str → Option Value} {base : Heap} {N ps : List Str} {qual : Str} {scope : Scope} {f : Addr} {cd : Value} {A : Around} {outer : List Env} {s s1 : Shared} {H : Hp} {E : XK} {us : List Value} {vs : List V}
    (S : FnScope N ps scope) (hd : A.handled = none) (e0 : Env0 P w K mg base A outer s H) (hl : vs.length = ps.length) (r : Vals vs us)
    (x : InCallC s s.heap.objs.size (bindL (envOfC qual scope s.heap.objs.size f cd).kindOf (ps.zip us) fun _ => none) (cellsFrom (s.heap.objs.size + 1) scope.names []) (bindC (envOfC qual scope s.heap.objs.size f cd).kindOf (ps.zip us) fun _ => none) s1) :
    Inv (cxOf CX P w K mg base N qual scope f cd A outer s H E) [] (start N vs) H s1 := by
  have hpl : ps.length ≤ N.length := by have := congrArg List.length S.pre; rw [List.length_take] at this; omega
  obtain ⟨h1, tk, rfl, hk⟩ := x.done
  have noA : ∀ b : Addr, b ∉ (cxOf CX P w K mg base N qual scope f cd A outer s H E).ex := fun b z => absurd (show b ∈ ([] : List Addr) from z) (by simp)
  refine ⟨⟨e0.mod, S.kind, rfl, rfl, Nat.le_refl _, fun y z c h1 h2 => ?_, fun y hy => ?_, fun y c _ h => ?_, fun _ => hd, Around.frames_deeper e0.frames, .inr ⟨rfl, rfl⟩, fun b z => absurd z (noA b), e0.bs, e0.bsz, fun b _ _ => noA b, fun b z => absurd z (noA b), e0.funs, e0.frf⟩,
    rfl, e0.bare, Un.kept hk, ⟨_, x.toInCall.ns, fun i y v h1 h2 h3 => ?_⟩, fun y c h => ⟨_, x.cell y c h⟩, e0.hok.fresh (Nat.le_refl _), fun y c h => ?_, fun p hp => absurd (show p ∈ ([] : List (Addr × Obj)) from hp) (by simp), e0.hok.kept hk, ?_⟩
  · exact name_of_addr x.apart (PySem.mem_of_lookup h1) (PySem.mem_of_lookup h2)
  · have hy : scope.names.lookup y = some .cell ∨ scope.names.lookup y = some .free := hy
    rcases hy with hy | hy
    · exact cell_has hy
    · exact absurd rfl (S.nofree _ (PySem.mem_of_lookup hy))
  · exact Nat.le_of_lt (x.above y c (PySem.mem_of_lookup h))
  · have hi : i < vs.length := by
      unfold start at h2
      by_cases hi : i < vs.length
      · exact hi
      · rw [List.getElem?_append_right (by simpa using hi)] at h2
        rw [List.getElem?_replicate] at h2
        split at h2 <;> cases h2
    have ha : vs[i]? = some v := by
      unfold start at h2
      rw [List.getElem?_append_left (by simpa using hi), List.getElem?_map] at h2
      cases e : vs[i]? with
      | none => rw [e] at h2; cases h2
      | some a => rw [e] at h2; cases h2; rfl
    obtain ⟨u, hu, rv⟩ := r.get ha
    have hp : ps[i]? = some y := by
      rw [← S.pre, List.getElem?_take_of_lt (by omega)]; exact h1
    have ndP : ps.Nodup := by rw [← S.pre]; exact S.nd.sublist (List.take_sublist _ _)
    refine ⟨u, rv, ?_⟩
    rcases S.par y (List.mem_of_getElem? hp) with k | k
    · exact .inl ⟨k, bindL_get ndP hp hu k⟩
    · obtain ⟨c, e⟩ := cell_has (n := s.heap.objs.size + 1) k
      refine .inr ⟨.inl k, c, e, ?_⟩
      have q := x.cell y c e
      rw [bindC_get ndP hp hu (by show scope.names.lookup y ≠ _; rw [k]; decide)] at q
      exact q
  · exact e0.hok.fresh (Nat.le_of_lt (x.above y c (PySem.mem_of_lookup h)))
  · unfold start
    show _ = N.length
    rw [List.length_append, List.length_map, List.length_replicate]
    omega
theorem fn_of {CX : CXT} {P : Program} {w : World} {K : PySem.W.Frag} {mg : Str → Option Value} {base : Heap} {k : Nat} {f : Addr} {name qual : Str} {params : Arguments} {body : List Stmt} {scope : Scope} {dV kV doc pm cdv ct oc : Value} {an od : Option Addr}
    {osl : Array (Option Value)} {N ps : List Str} {sp : Sp} (lk : K.lookup f = some ⟨oc, od, .func (PySem.W.fnOf name qual params body scope dV kV doc pm an cdv ct), osl⟩) (hcd : PySem.W.codeIn K cdv qual = true) (S : FnScope N ps scope)
    (len : ∀ vs H Q E, sp vs H Q E → vs.length = ps.length)
    (hbody : ∀ (A : Around) (outer : List Env) (s : Shared) (H : Hp) (vs : List V) (Q : VK) (E : XK), Room k (A.deeper (envOfC qual scope s.heap.objs.size f cdv)) → sp vs H Q E →
      ∃ t, PSs (cxOf CX P w K mg base N qual scope f cdv A outer s H E) body t ∧ t { nx := fun _ H' => Q .non H', rt := Q } (start N vs) H) :
    FnOk P w K mg base CX (k + 1) f (PySem.W.fnOf name qual params body scope dV kV doc pm an cdv ct) ps sp := by
  refine ⟨len, fun A outer s H args us vs Q E hr e0 hb r hsp => ?_⟩
  have hl := len _ _ _ _ hsp
  have KX : K.In s.heap := e0.mod.kin.keeps fun b o e => (e0.bs b o e).1
  have lim : s.heap.NoLimit := e0.mod.nolimit.keeps fun b o e => (e0.bs b o e).1
  have hkind : ∀ y ∈ ps.zip us, scope.names.lookup y.1 = some .local ∨ (scope.names.lookup y.1 = some .cell ∧ ((cellsFrom (s.heap.objs.size + 1) scope.names []).lookup y.1).isSome = true) := fun ⟨n, v⟩ hy => by
    rcases S.par n (List.of_mem_zip hy).1 with q | q
    · exact .inl q
    · exact .inr ⟨q, PySem.W.cellsFrom_some _ _ _ (.inl q)⟩
  refine codeAny_call_function hr.depth (KX _ _ lk) rfl S.co S.gen rfl (PySem.W.codeRec_of KX hcd) (hb _ _ _ _ ?_)
  refine wpAny_newFunctionEnv_cells S.kind hkind fun env he s1 x => ?_
  subst he
  refine ⟨lim.keeps x.toInCall.keep, codeAny_func ?_⟩
  obtain ⟨t, ht, hq⟩ := hbody A outer s H vs Q E (hr.deeper _) hsp
  have I : Inv (cxOf CX P w K mg base N qual scope f cdv A outer s H E) [] (start N vs) H s1 := inv_start S hr.hd e0 hl r x
  refine wpAny_mono (ht [] s1 (start N vs) H _ I hq) (fun fl s' hs => ?_) fun e s' hs => hs
  have fin : ∀ {σ' : St} {H' : Hp} {v : V} {u : Value}, Inv (cxOf CX P w K mg base N qual scope f cdv A outer s H E) [] σ' H' s' → RelV v u → Q v H' → CE outer P w H s Q u s' :=
    fun {σ' H' v u} J rv q => ⟨v, H', J.os, J.bare, J.base, J.hok, rv, q⟩
  cases fl with
  | ret u =>
    obtain ⟨v, σ', H', J, rv, q⟩ := hs
    exact fin J rv q
  | next =>
    obtain ⟨σ', H', J, q⟩ := hs
    exact fin (v := V.non) (u := Value.none) J rfl q
  | brk =>
    obtain ⟨_, _, _, q⟩ := hs
    exact False.elim q
  | cont =>
    obtain ⟨_, _, _, q⟩ := hs
    exact False.elim q
end L2
namespace L2
open PySem PySem.Spec PyProof.Rows
section
variable {X : Cx} {x : Str} {p pos : Pos} {e : Expr} {es : List Expr} {t : TA} {id T : String} {r : List V → Hp → VK → Prop}
def tCB (r : List V → Hp → VK → Prop) (t : TA) : TE := fun σ H Q => t σ H fun vs H1 => r vs H1 Q
theorem zF (hc : CallR X (.builtin id) r) (hg : Gl X x) (hm : X.mg x = none) (hv : bootBuiltins x = some (.builtin id)) (ha : PA X (e :: es) t) (hn : x ≠ "__name__" := by decide) (hdb : (x == ("__debug__" : Str)) = false := by decide)
    (he : starEach (e :: es) X.env = (false, eval e X.env) :: starEach es X.env := by rfl) (hpl : (backTo pos (starEach es X.env)).any (·.1) = false := by rfl) : PE X (.Call (.Name x p) (e :: es) [] pos) (tCB r t) := by
  intro pins s σ H Q I h
  refine wpAny_Call_Name_kw (ld_blt I hg hm hv ?_ hn hdb)
  exact PyProof.Rows.callWith_builtin1 (thn (ha pos pins s σ H _ I h) fun us s1 ⟨vs, H1, I1, r1, q1⟩ => hc pins s1 σ H1 vs us Q I1 r1 q1) he hpl
theorem yc (hc : CallR X (.type T) r) (hg : Gl X x) (hm : X.mg x = none) (hv : bootBuiltins x = some (.type T)) (ha : PA X (e :: es) t) (hn : x ≠ "__name__" := by decide) (hdb : (x == ("__debug__" : Str)) = false := by decide)
    (he : starEach (e :: es) X.env = (false, eval e X.env) :: starEach es X.env := by rfl) (hpl : (backTo pos (starEach es X.env)).any (·.1) = false := by rfl) : PE X (.Call (.Name x p) (e :: es) [] pos) (tCB r t) := by
  intro pins s σ H Q I h
  refine wpAny_Call_Name_kw (ld_blt I hg hm hv ?_ hn hdb)
  exact PyProof.Rows.callWith_type1 (thn (ha pos pins s σ H _ I h) fun us s1 ⟨vs, H1, I1, r1, q1⟩ => hc pins s1 σ H1 vs us Q I1 r1 q1) he hpl
end
end L2
namespace HT
open PySem PyProof.Rows
section
open PySem.SeqAt
open PySem.AutoSeq1 (wpAny_loadPart')
open PySem.MeetsSeq PySem.MeetsSeq2 PySem.MeetsSeq3
end
section
variable {prog : Program} {w : World} {A : Around} {E : Value → Shared → Prop} {s : Shared}
def sIx (n d : Nat) : Option Int → Nat
  | none => d
  | some v => if v < 0 then (v + (n : Int)).toNat else min v.toNat n
theorem sIx_none (n d : Nat) : sIx n d none = d := rfl
end
end HT
namespace L2
open PySem PySem.Spec PyProof.Rows
abbrev TO := St → Hp → (Option Int → Hp → Prop) → Prop
def PO (X : Cx) (e : Option Expr) (t : TO) : Prop :=
  ∀ (pins : List (Addr × Obj)) (s : Shared) (σ : St) (H : Hp) (Q : Option Int → Hp → Prop), Inv X pins σ H s → t σ H Q →
    wpAny (model X.prog X.w) X.A (evalPart e X.env) (fun u s' => ∃ o H', Inv X pins σ H' s' ∧ IsPart u o ∧ Q o H') X.xe s
def tNoPart : TO := fun _ H Q => Q none H
def tPart (t : TE) : TO := fun σ H Q => t σ H fun x H1 => ∃ i, x = .int i ∧ Q (some i) H1
section
variable {X : Cx} {e : Expr} {te : TE} {lo hi : Option Expr} {tl th : TO} {pos p2 : Pos}
theorem po_none : PO X none tNoPart := by
  intro pins s σ H Q I h
  rw [evalPart_none]
  exact wpAny_pure ⟨none, H, I, .none, h⟩
theorem po_some (h : PE X e te) : PO X (some e) (tPart te) := by
  intro pins s σ H Q I hw
  rw [evalPart_some]
  refine thn (h pins s σ H _ I hw) fun u s1 ⟨x, H1, I1, r1, q1⟩ => ?_
  obtain ⟨i, rfl, q⟩ := q1
  obtain ⟨t, rfl⟩ := r1
  exact ⟨some i, H1, I1, .int i t, q⟩
def SlR (X : Cx) (r : V → Option Int → Option Int → Hp → VK → Prop) : Prop :=
  ∀ (pins : List (Addr × Obj)) (s : Shared) (σ : St) (H : Hp) (x : V) (v vl vu : Value) (lo hi : Option Int) (sl : Addr) (Q : VK), Inv X pins σ H s → RelV x v → s.heap.IsSliceOf sl vl vu .none → IsPart vl lo → IsPart vu hi → r x lo hi H Q →
    ∃ T id, typeLookup (.type T) "__getitem__" = pure (some (.builtin id)) ∧ s.TypeIs v T ∧ wpAny (model X.prog X.w) X.A (getItem v (.ref sl)) (EP X pins σ Q) X.xe s
def tSl (r : V → Option Int → Option Int → Hp → VK → Prop) (te : TE) (tl th : TO) : TE := fun σ H Q => te σ H fun x H1 => tl σ H1 fun l H2 => th σ H2 fun u H3 => r x l u H3 Q
theorem pe_slice {r : V → Option Int → Option Int → Hp → VK → Prop} (hr : SlR X r) (he : PE X e te) (hl : PO X lo tl) (hu : PO X hi th) : PE X (.Subscript e (.Slice lo hi none p2) pos) (tSl r te tl th) := by
  intro pins s σ H Q I h
  refine Subscript_ (thn (he pins s σ H _ I h) fun v s1 ⟨x, H1, I1, r1, q1⟩ => ?_)
  refine wpAny_Slice (thn (hl pins s1 σ H1 _ I1 q1) fun vl s2 ⟨l, H2, I2, pl, q2⟩ => thn (hu pins s2 σ H2 _ I2 q2) fun vu s3 ⟨u, H3, I3, pu, q3⟩ => ?_)
  rw [evalPart_none]
  refine wpAny_pure ?_
  have I4 : Inv X pins σ H3 { s3 with heap := s3.heap.push { cls := .type "slice", data := .fields #[vl, vu, .none] } } := I3.kept (t' := s3.toks) fun b ob q => Heap.get?_push_of_some _ q
  obtain ⟨T, id, hT, ht, hg⟩ := hr pins { s3 with heap := s3.heap.push { cls := .type "slice", data := .fields #[vl, vu, .none] } } σ H3 x v vl vu l u s3.heap.objs.size Q I4 r1 (Heap.IsSliceOf.new ..) pl pu q3
  show wpAny (model X.prog X.w) X.A (subscriptTail e (.Slice lo hi none p2) v (.ref s3.heap.objs.size)) (EP X pins σ Q) X.xe { s3 with heap := s3.heap.push { cls := .type "slice", data := .fields #[vl, vu, .none] } }
  exact tail_any (ops := [.ref s3.heap.objs.size, v]) ht hT hg (by with_unfolding_all rfl)
def cutV (xs : List V) (lo hi : Option Int) : List V := (xs.drop (HT.sIx xs.length 0 lo)).take (HT.sIx xs.length xs.length hi - HT.sIx xs.length 0 lo)
theorem cutV_length (xs : List V) (lo hi : Option Int) : (cutV xs lo hi).length ≤ xs.length := by
  unfold cutV
  rw [List.length_take, List.length_drop]
  omega
end
end L2
namespace L2
open PySem PySem.Spec PyProof.Rows
def ixN (n : Nat) (i : Int) : Option Nat := if 0 ≤ i then (if i < n then some i.toNat else none) else if -(n : Int) ≤ i then some (i + n).toNat else none
def atI {α : Type} (xs : List α) (i : Int) : Option α := (ixN xs.length i).bind fun j => xs[j]?
theorem ixN_seq {n : Nat} {i : Int} {j : Nat} (h : ixN n i = some j) : seqIndex? i n = some j ∧ j < n ∧ -(n : Int) ≤ i ∧ i < n := by
  unfold ixN at h
  by_cases h0 : 0 ≤ i
  · rw [if_pos h0] at h
    by_cases h1 : i < n
    · rw [if_pos h1] at h
      have e : i.toNat = j := Option.some.inj h
      exact ⟨by rw [seqIndex_of h0 h1, e], by omega, by omega, h1⟩
    · rw [if_neg h1] at h; cases h
  · rw [if_neg h0] at h
    by_cases h1 : -(n : Int) ≤ i
    · rw [if_pos h1] at h
      have e : (i + n).toNat = j := Option.some.inj h
      exact ⟨by rw [seqIndex_neg (by omega) h1, e], by omega, h1, by omega⟩
    · rw [if_neg h1] at h; cases h
theorem atI_get {α : Type} {xs : List α} {i : Int} {v : α} (h : atI xs i = some v) : ∃ j, seqIndex? i xs.length = some j ∧ xs[j]? = some v ∧ j < xs.length ∧ -(xs.length : Int) ≤ i ∧ i < xs.length := by
  unfold atI at h
  cases e : ixN xs.length i with
  | none => rw [e] at h; cases h
  | some j =>
    rw [e] at h
    obtain ⟨h1, h2, h3, h4⟩ := ixN_seq e
    exact ⟨j, h1, h, h2, h3, h4⟩
theorem zM {α : Type} {xs : List α} {j : Nat} {v : α} (h : xs[j]? = some v) : atI xs (j : Int) = some v := by
  have hj : j < xs.length := (List.getElem?_eq_some_iff.mp h).1
  have e : ixN xs.length (j : Int) = some j := by
    unfold ixN
    rw [if_pos (by omega), if_pos (by omega)]; simp
  unfold atI; rw [e]; exact h
theorem atI_last {α : Type} (xs : List α) (v : α) : atI (xs ++ [v]) (-1) = some v := by
  have hl : (xs ++ [v]).length = xs.length + 1 := by simp
  have e : ixN (xs ++ [v]).length (-1) = some xs.length := by
    unfold ixN
    rw [hl, if_neg (by decide), if_pos (by omega)]
    congr 1
    omega
  unfold atI
  rw [e]
  show (xs ++ [v])[xs.length]? = some v
  simp
def PlainIx (b : Expr) : Prop := ∀ o i, subscripted b false o i = operate [o, i] (getItem o i)
def IxR (X : Cx) (r : R2) : Prop :=
  ∀ (value slice : Expr) (pins : List (Addr × Obj)) (s : Shared) (σ : St) (H : Hp) (x y : V) (v u : Value) (Q : VK), Inv X pins σ H s → RelV x v → RelV y u → r x y H Q →
    subscripted slice false v u = operate [v, u] (getItem v u) → wpAny (model X.prog X.w) X.A (subscriptTail value slice v u) (EP X pins σ Q) X.xe s
def MtR (X : Cx) (id : String) (r : V → List V → Hp → VK → Prop) : Prop :=
  ∀ (pins : List (Addr × Obj)) (s : Shared) (σ : St) (H : Hp) (x : V) (xs : List V) (v : Value) (us : List Value) (Q : VK), Inv X pins σ H s → RelV x v → Vals xs us → r x xs H Q →
    wpAny (model X.prog X.w) X.A (call (.builtin id) (v :: us)) (EP X pins σ Q) X.xe s
section
variable {X : Cx} {a b : Expr} {ta tb : TE} {pos : Pos}
theorem zE {r : R2} (hr : IxR X r) (ha : PE X a ta) (hb : PE X b tb) (hs : PlainIx b) : PE X (.Subscript a b pos) (tOp r ta tb) := by
  intro pins s σ H Q I h
  exact Subscript_ (binT ha hb I h fun v u s2 x y H2 I2 rx ry q => hr a b pins s2 σ H2 x y v u Q I2 rx ry q (hs _ _))
def rIxL (K : PySem.W.Frag) : R2 := fun x y H Q => ∃ p xs i v, x = .ref p ∧ y = .int i ∧ SqL K H p xs ∧ atI xs i = some v ∧ Q v H
def rIxT (K : PySem.W.Frag) : R2 := fun x y H Q => ∃ p xs i v, x = .ref p ∧ y = .int i ∧ SqT K H p xs ∧ atI xs i = some v ∧ Q v H
theorem zB : IxR X (rIxL X.K) := by
  intro value slice pins s σ H x y v u Q I rx ry h hs
  obtain ⟨p, xs, i, z, rfl, rfl, hq, he, q⟩ := h
  cases rx
  obtain ⟨t, rfl⟩ := ry
  obtain ⟨its, r, pl, hz⟩ := I.list hq
  obtain ⟨j, h1, h2, h3, h4, h5⟩ := atI_get he
  obtain ⟨w, ew, rw'⟩ := r.get h2
  have hl := r.length
  have hn := line63
  have fin : EP X pins σ Q w s := ⟨z, H, I, rw', q⟩
  by_cases h0 : 0 ≤ i
  · have hj : i.toNat = j := by
      rw [seqIndex_of h0 h5] at h1
      exact Option.some.inj h1
    exact item_listR pl.isList h0 (by omega) (by rw [hj]; simpa using ew) fin hs
  · have hj : (i + (its.toArray.size : Int)).toNat = j := by
      rw [seqIndex_neg (by omega) h4] at h1
      rw [List.size_toArray, ← hl]
      exact Option.some.inj h1
    exact subscriptTail_builtinR (x := w) pl.isList.typeIs slot_list_getitem.lookup
      (wpAny_getItem_list_neg (Q := fun r s' => r = w ∧ EP X pins σ Q r s') pl.isList (by omega) (by rw [List.size_toArray] <;> omega) (by omega) (by rw [hj]; simpa using ew) ⟨rfl, fin⟩) hs
theorem yM : IxR X (rIxT X.K) := by
  intro value slice pins s σ H x y v u Q I rx ry h hs
  obtain ⟨p, xs, i, z, rfl, rfl, hq, he, q⟩ := h
  cases rx
  obtain ⟨t, rfl⟩ := ry
  obtain ⟨its, r, pl, hz⟩ := I.tuple hq
  obtain ⟨j, h1, h2, h3, h4, h5⟩ := atI_get he
  obtain ⟨w, ew, rw'⟩ := r.get h2
  have hl := r.length
  have hn := line63
  have fin : EP X pins σ Q w s := ⟨z, H, I, rw', q⟩
  exact subscriptTail_builtinR (x := w) pl.typeIs slot_tuple_getitem.lookup
    (getItem_tuple (j := j) (Q := fun r s' => r = w ∧ EP X pins σ Q r s') pl (by omega) (by omega) (by rw [List.size_toArray, ← hl]; exact h1) (by simpa using ew) ⟨rfl, fin⟩) hs
theorem mapSeq_set (its : List Value) (n j : Nat) (u : Value) : Obj.mapSeq (·.setIfInBounds j u) { cls := .type "list", data := .seq its.toArray n } = { cls := .type "list", data := .seq (its.set j u).toArray n } := by
  simp [Obj.mapSeq]
theorem Inv.lst {pins : List (Addr × Obj)} {σ : St} {H : Hp} {s : Shared} {p : Addr} {xs : List V} (I : Inv X pins σ H s) (h : H p = some (.lst xs)) :
    ∃ (its : List Value) (n : Nat), Vals xs its ∧ s.heap.get? p = some { cls := .type "list", data := .seq its.toArray n } ∧ xs.length ≤ sizeLine := by
  obtain ⟨z, its, n, r, e⟩ := I.hok p _ h
  exact ⟨its, n, r, e, z⟩
theorem Inv.lstUpd {pins : List (Addr × Obj)} {σ : St} {H : Hp} {s : Shared} {p : Addr} {xs ys : List V} {its its' : List Value} {n n' : Nat} {f : Obj → Obj} (I : Inv X pins σ H s) (h : H p = some (.lst xs))
    (ho : s.heap.get? p = some { cls := .type "list", data := .seq its.toArray n }) (hf : f { cls := .type "list", data := .seq its.toArray n } = { cls := .type "list", data := .seq its'.toArray n' }) (r : Vals ys its') (hz : ys.length ≤ sizeLine) (t : Nat) :
    Inv X pins σ (upd H p (.lst ys)) { s with heap := s.heap.update p f, toks := t } := by
  have e : (s.heap.update p f).get? p = some { cls := .type "list", data := .seq its'.toArray n' } := by
    rw [Heap.get?_update_self f ho (by rw [hf] <;> rfl), hf]
  refine I.write (x := p) (e := p) (by rw [h]; trivial) (.inl rfl) (fun b u hb q => (Heap.get?_update_other _ _ (Ne.symm hb)).trans q) ⟨_, e⟩ ?_
  exact ⟨hz, its', n', r, e⟩
def rSetL : V → V → V → Hp → (Hp → Prop) → Prop := fun o i v H Q => ∃ p xs k j, o = .ref p ∧ i = .int k ∧ H p = some (.lst xs) ∧ ixN xs.length k = some j ∧ Q (upd H p (.lst (xs.set j v)))
theorem set_list : PSet X rSetL := by
  intro pins s σ H o i v ov iv u Q I ro ri rv h
  obtain ⟨p, xs, k, j, rfl, rfl, hp, hj, q⟩ := h
  cases ro
  obtain ⟨t, rfl⟩ := ri
  obtain ⟨its, n, r, ho, hz⟩ := I.lst hp
  obtain ⟨h1, h2, h3, h4⟩ := ixN_seq hj
  have hl := r.length
  have hn := line63
  have I' : Inv X pins σ (upd H p (.lst (xs.set j v))) { s with heap := s.heap.update p (Obj.mapSeq (·.setIfInBounds j u)) } :=
    I.lstUpd hp ho (mapSeq_set its n j u) (r.set rv j) (by rw [List.length_set]; exact hz) s.toks
  by_cases h0 : 0 ≤ k
  · have hk : k.toNat = j := by
      rw [seqIndex_of h0 h4] at h1
      exact Option.some.inj h1
    exact PySem.W.ki_setAt ho h0 (by omega) (by rw [List.size_toArray, ← hl]; exact h4) (by rw [hk]; exact ⟨_, I', q⟩)
  · have hk : (k + (its.toArray.size : Int)).toNat = j := by
      rw [seqIndex_neg (by omega) h3] at h1
      rw [List.size_toArray, ← hl]
      exact Option.some.inj h1
    exact PySem.W.ki_setBack ho (by omega) (by rw [List.size_toArray, ← hl]; exact h3) (by omega) (by rw [hk]; exact ⟨_, I', q⟩)
theorem slice_bounds (lo hi : Option Int) (n : Nat) : (sliceBounds lo hi none n).1 = ((HT.sIx n 0 lo : Nat) : Int) ∧ (sliceBounds lo hi none n).2.1 = ((HT.sIx n n hi : Nat) : Int) ∧ (sliceBounds lo hi none n).2.2 = 1 := by
  refine ⟨?_, ?_, rfl⟩
  · cases lo with
    | none => simp [sliceBounds, HT.sIx]
    | some i =>
      simp only [sliceBounds, HT.sIx, Option.getD_none, show (1 : Int) > 0 by decide, if_true]
      by_cases h : i < 0
      · simp only [h, if_true] <;> omega
      · simp only [h, if_false] <;> omega
  · cases hi with
    | none => simp [sliceBounds, HT.sIx]
    | some i =>
      simp only [sliceBounds, HT.sIx, Option.getD_none, show (1 : Int) > 0 by decide, if_true]
      by_cases h : i < 0
      · simp only [h, if_true] <;> omega
      · simp only [h, if_false] <;> omega
theorem slicePick_cut (its : List Value) (lo hi : Option Int) : slicePick its.toArray lo hi none = ((its.drop (HT.sIx its.length 0 lo)).take (HT.sIx its.length its.length hi - HT.sIx its.length 0 lo)).toArray := by
  obtain ⟨h1, h2, h3⟩ := slice_bounds lo hi its.toArray.size
  unfold slicePick
  rw [h1, h2, h3]
  simp only [sliceRange_one, pick_run, List.size_toArray] <;> rfl
def rSlL (K : PySem.W.Frag) : V → Option Int → Option Int → Hp → VK → Prop := fun x lo hi H Q => ∃ a xs, x = .ref a ∧ SqL K H a xs ∧ ∀ p, H p = none → Q (.ref p) (upd H p (.lst (cutV xs lo hi)))
theorem sl_list : SlR X (rSlL X.K) := by
  intro pins s σ H x v vl vu lo hi sl Q I rx hs pl pu h
  obtain ⟨a, xs, rfl, hx, q⟩ := h
  cases rx
  obtain ⟨its, r, ht, hz⟩ := I.list hx
  have hlen := r.length
  refine ⟨"list", _, slot_list_getitem.lookup, ht.isList.typeIs, ?_⟩
  refine wpAny_getItem_list_slice ht.isList hs pl pu .none (by simp) ?_ (by rw [List.size_toArray] <;> omega)
  rw [slicePick_cut, ← hlen]
  refine ⟨.ref s.heap.objs.size, _, I.laid (t' := s.toks) (o := .lst (cutV xs lo hi)) (fun b ob q => Heap.get?_push_of_some _ q) (Nat.le_refl _) ?_, rfl, q _ (I.hok.fresh (Nat.le_refl _))⟩
  exact ⟨Nat.le_trans (cutV_length xs lo hi) hz, _, 0, (r.drop (HT.sIx xs.length 0 lo)).take (HT.sIx xs.length xs.length hi - HT.sIx xs.length 0 lo), Heap.get?_push_size _ rfl⟩
def flatV : V → Bool
  | .non => true
  | .bl _ => true
  | .int _ => true
  | .str _ => true
  | _ => false
def eqV : V → V → Bool
  | .non, .non => true
  | .bl a, .bl b => a == b
  | .bl a, .int b => (if a then 1 else 0) == b
  | .int a, .bl b => a == (if b then 1 else 0)
  | .int a, .int b => a == b
  | .str a, .str b => a == b
  | _, _ => false
theorem eqAt_V {A : Around} {s : Shared} {y x : V} {u v : Value} (ry : RelV y u) (rx : RelV x v) (fy : flatV y = true) (fx : flatV x = true) : SeqAt.EqAt A s u v (eqV y x) := by
  cases y with
  | non =>
    cases ry
    cases x with
    | non => cases rx; exact SeqAt.EqAt.same _
    | bl b => cases rx; exact SeqAt.EqAt.none_bool b
    | int b => obtain ⟨t, rfl⟩ := rx; exact SeqAt.EqAt.none_int b t
    | str b => obtain ⟨t, rfl⟩ := rx; exact SeqAt.EqAt.none_str b t
    | _ => exact absurd (show false = true from fx) Bool.false_ne_true
  | bl a =>
    cases ry
    cases x with
    | non => cases rx; exact SeqAt.EqAt.bool_none a
    | bl b => cases rx; exact SeqAt.EqAt.bool_bool a b
    | int b => obtain ⟨t, rfl⟩ := rx; exact SeqAt.EqAt.bool_int a b t
    | str b => obtain ⟨t, rfl⟩ := rx; exact SeqAt.EqAt.bool_str a b t
    | _ => exact absurd (show false = true from fx) Bool.false_ne_true
  | int a =>
    obtain ⟨t', rfl⟩ := ry
    cases x with
    | non => cases rx; exact SeqAt.EqAt.int_none a t'
    | bl b => cases rx; exact SeqAt.EqAt.int_bool a t' b
    | int b => obtain ⟨t, rfl⟩ := rx; exact SeqAt.EqAt.int_int a t' b t
    | str b => obtain ⟨t, rfl⟩ := rx; exact SeqAt.EqAt.int_str a t' b t
    | _ => exact absurd (show false = true from fx) Bool.false_ne_true
  | str a =>
    obtain ⟨t', rfl⟩ := ry
    cases x with
    | non => cases rx; exact SeqAt.EqAt.str_none a t'
    | bl b => cases rx; exact SeqAt.EqAt.str_bool a t' b
    | int b => obtain ⟨t, rfl⟩ := rx; exact SeqAt.EqAt.str_int a t' b t
    | str b => obtain ⟨t, rfl⟩ := rx; exact SeqAt.EqAt.str_str a t' b t
    | _ => exact absurd (show false = true from fx) Bool.false_ne_true
  | _ => exact absurd (show false = true from fy) Bool.false_ne_true
def eqU (x : V) (u : Value) : Bool := match u with
  | .none => eqV .non x
  | .bool b => eqV (.bl b) x
  | .int i _ => eqV (.int i) x
  | .str z _ => eqV (.str z) x
  | _ => false
theorem eqU_of {x y : V} {u : Value} (r : RelV y u) (f : flatV y = true) : eqU x u = eqV y x := by
  cases y with
  | non => cases r; rfl
  | bl b => cases r; rfl
  | int i => obtain ⟨t, rfl⟩ := r; rfl
  | str z => obtain ⟨t, rfl⟩ := r; rfl
  | _ => exact absurd (show false = true from f) Bool.false_ne_true
theorem any_eqU {x : V} : ∀ {xs : List V} {us : List Value}, Vals xs us → xs.all flatV = true → us.any (eqU x) = xs.any fun y => eqV y x
  | _, _, .nil, _ => rfl
  | y :: xs, u :: us, .cons r t, f => by
    rw [List.all_cons, Bool.and_eq_true] at f
    rw [List.any_cons, List.any_cons, eqU_of r f.1, any_eqU t f.2]
theorem mem_eqAt {A : Around} {s : Shared} {x : V} {v : Value} (rx : RelV x v) (fx : flatV x = true) : ∀ {xs : List V} {us : List Value}, Vals xs us → xs.all flatV = true → ∀ u ∈ us, SeqAt.EqAt A s u v (eqU x u)
  | _, _, .nil, _ => fun u hu => by cases hu
  | y :: xs, u :: us, .cons r t, f => fun u' hu => by
    rw [List.all_cons, Bool.and_eq_true] at f
    rcases List.mem_cons.mp hu with rfl | hu
    · rw [eqU_of r f.1]; exact eqAt_V r rx f.1 fx
    · exact mem_eqAt rx fx t f.2 u' hu
def inV (x : V) (xs : List V) : Bool := xs.any fun y => eqV y x
def rIn (K : PySem.W.Frag) (neg : Bool) : R2 := fun x y H Q => ∃ p xs, y = .ref p ∧ (SqL K H p xs ∨ SqT K H p xs) ∧ flatV x = true ∧ xs.all flatV = true ∧ Q (.bl (if neg then !inV x xs else inV x xs)) H
theorem op_in_seq : OpR X (compareOp .In) (rIn X.K false) := by
  intro pins s σ H x y v u Q I rx ry h
  obtain ⟨p, xs, rfl, hq, fx, fs, q⟩ := h
  cases ry
  rcases hq with hq | hq
  · obtain ⟨its, r, pl, hz⟩ := I.list hq
    refine SeqAt.in_listAt (eqU x) pl.isList (fun w hw => mem_eqAt rx fx r fs w (by simpa using hw)) ⟨.bl _, H, I, rfl, ?_⟩
    rw [show its.toArray.any (eqU x) = its.any (eqU x) by simp, any_eqU r fs]
    exact q
  · obtain ⟨its, r, pl, hz⟩ := I.tuple hq
    refine SeqAt.in_tupleAt (eqU x) pl (fun w hw => mem_eqAt rx fx r fs w (by simpa using hw)) ⟨.bl _, H, I, rfl, ?_⟩
    rw [show its.toArray.any (eqU x) = its.any (eqU x) by simp, any_eqU r fs]
    exact q
theorem ye : CallR X (.builtin "len") (fun xs H Q => ∃ p ys, xs = [.ref p] ∧ (SqL X.K H p ys ∨ SqT X.K H p ys) ∧ Q (.int ys.length) H) := by
  intro pins s σ H xs us Q I r h
  obtain ⟨p, ys, rfl, hq, q⟩ := h
  obtain ⟨u, rfl, rx⟩ := vals1 r
  cases rx
  have hn := line63
  rcases hq with hq | hq
  · obtain ⟨its, r', pl, hz⟩ := I.list hq
    have hlen := r'.length
    exact Calls.call_len_list pl.isList (by simp only [List.size_toArray] <;> omega) ⟨.int ys.length, H, I.tok _, ⟨s.toks + 1, by rw [List.size_toArray, hlen]⟩, q⟩
  · obtain ⟨its, r', pl, hz⟩ := I.tuple hq
    have hlen := r'.length
    exact len_tuple pl (by simp only [List.size_toArray] <;> omega) ⟨.int ys.length, H, I.tok _, ⟨s.toks + 1, by rw [List.size_toArray, hlen]⟩, q⟩
theorem yd : CallR X (.type "list") (fun xs H Q => ∃ p ys, xs = [.ref p] ∧ (SqL X.K H p ys ∨ SqT X.K H p ys) ∧ ∀ l, H l = none → Q (.ref l) (upd H l (.lst ys))) := by
  intro pins s σ H xs us Q I r h
  obtain ⟨p, ys, rfl, hq, q⟩ := h
  obtain ⟨u, rfl, rx⟩ := vals1 r
  cases rx
  have fin : ∀ (its : List Value), Vals ys its → ys.length ≤ sizeLine → ∀ (h' : Heap) (c' : Nat), (∀ b o', s.heap.get? b = some o' → h'.get? b = some o') →
      h'.get? s.heap.objs.size = some { cls := .type "list", dict := none, data := .seq its.toArray c', slots := #[] } → EP X pins σ Q (.ref s.heap.objs.size) { s with heap := h' } := fun its r' hz h' c' kp e =>
    ⟨.ref s.heap.objs.size, _, I.laid (t' := s.toks) kp (Nat.le_refl _) (show ObjOk X.prog X.w _ h' _ (.lst ys) from ⟨hz, its, c', r', e⟩), rfl, q _ (I.hok.fresh (Nat.le_refl _))⟩
  rcases hq with hq | hq
  · obtain ⟨its, r', pl, hz⟩ := I.list hq
    have hlen := r'.length
    obtain ⟨o, ho, hc, n, hd⟩ := pl.isList
    exact call_list_seq p (.inl rfl) ho hc hd (fun h' c' kp e => fin its r' hz h' c' kp e) (by simp only [List.size_toArray] <;> omega)
  · obtain ⟨its, r', pl, hz⟩ := I.tuple hq
    have hlen := r'.length
    obtain ⟨o, ho, hc, n, hd⟩ := pl
    exact call_list_seq p (.inr rfl) ho hc hd (fun h' c' kp e => fin its r' hz h' c' kp e) (by simp only [List.size_toArray] <;> omega)
def tyV (K : PySem.W.Frag) (T : String) (x : V) (H : Hp) : Prop := match x with
  | .str _ => T = "str"
  | .int _ => T = "int"
  | .ref p => (T = "list" ∧ ∃ xs, SqL K H p xs) ∨ (T = "tuple" ∧ ∃ o, K.lookup p = some o ∧ o.cls = .type "tuple" ∧ o.dict = none) ∨
      (T = "dict" ∧ ((∃ kvs, H p = some (.dK kvs)) ∨ ∃ kvs, H p = some (.dT kvs))) ∨ (T = "set" ∧ ∃ S n, H p = some (.set S n))
  | _ => False
theorem tyV_is {pins : List (Addr × Obj)} {σ : St} {H : Hp} {s : Shared} {T : String} {x : V} {v : Value} (I : Inv X pins σ H s) (r : RelV x v) (ty : tyV X.K T x H) :
    s.TypeIs v T ∧ ∀ a, v = .ref a → ∃ ob, s.heap.get? a = some ob ∧ ob.dict = none := by
  cases x with
  | str z =>
    obtain ⟨t, rfl⟩ := r
    cases (show T = "str" from ty)
    exact ⟨typeIs_str s z t, fun _ e => nomatch e⟩
  | int i =>
    obtain ⟨t, rfl⟩ := r
    cases (show T = "int" from ty)
    exact ⟨typeIs_int s i t, fun _ e => nomatch e⟩
  | ref p =>
    cases r
    rcases ty with ⟨rfl, xs, hq⟩ | ⟨rfl, o, hk, hc, hd⟩ | ⟨rfl, hk⟩ | ⟨rfl, S, n, hk⟩
    · obtain ⟨its, _, pl, _⟩ := I.list hq
      refine ⟨pl.isList.typeIs, fun a e => ?_⟩
      cases e
      obtain ⟨o, n, e, c, hd, _⟩ := pl
      exact ⟨o, e, hd⟩
    · refine ⟨⟨o, I.kIn p o hk, hc⟩, fun a e => ?_⟩
      cases e
      exact ⟨o, I.kIn _ o hk, hd⟩
    · have z : ∃ o, s.heap.get? p = some o ∧ o.ExactDict := by
        rcases hk with ⟨kvs, hk⟩ | ⟨kvs, hk⟩
        · obtain ⟨_, _, _, _, o, _, _, e, ex, _⟩ := I.hok p _ hk
          exact ⟨o, e, ex⟩
        · obtain ⟨_, _, _, _, o, _, _, e, ex, _⟩ := I.hok p _ hk
          exact ⟨o, e, ex⟩
      obtain ⟨o, e, ex⟩ := z
      refine ⟨⟨o, e, ex.1⟩, fun a e2 => ?_⟩
      cases e2
      exact ⟨o, e, ex.2.1⟩
    · obtain ⟨o, _, _, _, e, ex, _⟩ := I.hok p _ hk
      refine ⟨⟨o, e, ex.1⟩, fun a e2 => ?_⟩
      cases e2
      exact ⟨o, e, ex.2.1⟩
  | _ => exact False.elim ty
def tBM (K : PySem.W.Frag) (T : String) (r : V → List V → Hp → VK → Prop) (to : TE) (t : TA) : TE := fun σ H Q => to σ H fun x H1 => tyV K T x H1 ∧ t σ H1 fun xs H2 => r x xs H2 Q
variable {o e : Expr} {es : List Expr} {to : TE} {t : TA} {name : Str} {apos cpos : Pos} {T id : String} {r : V → List V → Hp → VK → Prop}
theorem pe_bm (pa : PlainAttrs T) (slot : Slot T name id) (hty : typeOf (.builtin id) = pure (.type "method_descriptor")) (hm : MtR X id r) (ho : PE X o to) (ha : PA X (e :: es) t)
    (hbase : attributeBase o name X.env (eval o X.env) = eval o X.env := by rfl)
    (hfew : ((backTo cpos (starEach (e :: es) X.env)).all (fun x => !x.1) && (backToKw cpos (keywordEach [] X.env)).all (fun x => x.1.isSome)
      && decide ((e :: es).length + ([] : List Keyword).length + (if ([] : List Keyword).isEmpty then 0 else 1) < 30)) = true := by rfl)
    (hline : (apos.endLine == cpos.line) = true := by rfl) (hs : starEach (e :: es) X.env = (false, eval e X.env) :: starEach es X.env := by rfl) (hplain : (backTo cpos (starEach es X.env)).any (·.1) = false := by rfl) :
    PE X (.Call (.Attribute o name apos) (e :: es) [] cpos) (tBM X.K T r to t) := by
  intro pins s σ H Q I h
  refine wpAny_Call_method_late hbase hfew hline rfl (thn (ho pins s σ H _ I h) fun v s1 ⟨x, H1, I1, r1, ty, q1⟩ => ?_)
  obtain ⟨h1, h2⟩ := tyV_is I1 r1 ty
  refine ⟨T, id, pa, slot, hty, h1, h2, ?_⟩
  have hA := ha cpos pins s1 σ H1 _ I1 q1
  rw [hs] at hA ⊢
  refine Calls.callWith_builtin (by show (false || (backTo cpos (starEach es X.env)).any (·.1)) = false; rw [hplain] <;> rfl) (Calls.evalArgs_plain ?_)
  exact thn hA fun us s2 ⟨vs, H2, I2, r2, q2⟩ => hm pins s2 σ H2 x vs v us Q I2 r1 r2 q2
/- xs.append(e), list.index on a module's tuple .. are MtR facts of 06m -/
end
end L2
namespace L2
open PySem PySem.Spec PyProof.Rows
def MtM (X : Cx) (id : String) (r : V → List V → Hp → VK → Prop) : Prop :=
  ∀ (pins : List (Addr × Obj)) (s : Shared) (σ : St) (H : Hp) (x : V) (xs : List V) (v : Value) (us : List Value) (Q : VK), Inv X pins σ H s → RelV x v → Vals xs us → r x xs H Q →
    wpAny (model X.prog X.w) X.A (call (.builtin id) (v :: us)) (EP X pins σ Q) X.xe s
theorem Vals.one : ∀ {x : V} {us : List Value}, Vals [x] us → ∃ u, us = [u] ∧ RelV x u
  | _, _, .cons r .nil => ⟨_, rfl, r⟩
theorem Vals.rep {xs : List V} {us : List Value} (h : Vals xs us) : ∀ k : Nat, Vals (List.replicate k xs).flatten (List.replicate k us).flatten
  | 0 => .nil
  | k + 1 => by
    rw [List.replicate_succ, List.replicate_succ, List.flatten_cons, List.flatten_cons]
    exact Vals.append h (Vals.rep h k)
theorem foldl_rep (its : List Value) : ∀ (k : Nat) (acc : List Value),
    List.foldl (fun x1 x2 => x1 ++ x2) acc.toArray (List.replicate k its.toArray) = (acc ++ (List.replicate k its).flatten).toArray
  | 0, acc => by simp
  | k + 1, acc => by
    have e : acc.toArray ++ its.toArray = (acc ++ its).toArray := by simp
    have e2 : (acc ++ its) ++ (List.replicate k its).flatten = acc ++ (List.replicate (k + 1) its).flatten := by
      rw [List.replicate_succ, List.flatten_cons, List.append_assoc]
    rw [← e2, ← foldl_rep its k (acc ++ its), ← e, List.replicate_succ, List.foldl_cons]
section
variable {X : Cx} {pins : List (Addr × Obj)} {σ : St} {H : Hp} {s : Shared} {l b : Addr} {xs ys zs : List V}
theorem Inv.lset {its its' : List Value} {n : Nat} {f : Array Value → Array Value} {t' : Nat} (I : Inv X pins σ H s) (hH : H l = some (.lst xs))
    (e : s.heap.get? l = some { cls := .type "list", data := .seq its.toArray n }) (hf : f its.toArray = its'.toArray) (hv : Vals ys its') (hz : ys.length ≤ sizeLine) :
    Inv X pins σ (upd H l (.lst ys)) { s with heap := s.heap.update l (Obj.mapSeq f), toks := t' } := by
  have q := PySem.IsL.update e f
  rw [hf] at q
  refine I.write (x := l) (e := l) (by rw [hH]; exact trivial) (.inl rfl) (fun b' u hb hu => (Heap.get?_update_other s.heap (Obj.mapSeq f) (Ne.symm hb)).trans hu) ⟨_, q⟩ ?_
  exact ⟨hz, its', _, hv, q⟩
theorem Inv.lnew {its : List Value} {t' : Nat} (I : Inv X pins σ H s) (hv : Vals ys its) (hz : ys.length ≤ sizeLine) :
    Inv X pins σ (upd H s.heap.objs.size (.lst ys)) { s with heap := s.heap.push { cls := .type "list", data := .seq its.toArray }, toks := t' } :=
  I.laid (fun _ _ q => Heap.get?_push_of_some _ q) (Nat.le_refl _) ⟨hz, its, 0, hv, Heap.get?_push_size _ rfl⟩
theorem Inv.fresh (I : Inv X pins σ H s) : H s.heap.objs.size = none := I.hok.fresh (Nat.le_refl _)
theorem Inv.lstM (I : Inv X pins σ H s) (hH : H l = some (.lst xs)) : xs.length ≤ sizeLine ∧ ∃ (its : List Value) (n : Nat), Vals xs its ∧ xs.length = its.length ∧ s.heap.get? l = some { cls := .type "list", data := .seq its.toArray n } := by
  obtain ⟨z, its, n, r, e⟩ := I.hok l _ hH
  exact ⟨z, its, n, r, r.length, e⟩
theorem notLongL {n : Nat} (h : n ≤ sizeLine) : Builtin.List.listTooLong n = false := by
  unfold Builtin.List.listTooLong
  exact decide_eq_false (by omega)
end
section
variable {X : Cx}
def rAppend : V → List V → Hp → VK → Prop := fun x vs H Q => ∃ l xs y, x = .ref l ∧ vs = [y] ∧ H l = some (.lst xs) ∧ xs.length < sizeLine ∧ Q .non (upd H l (.lst (xs ++ [y])))
theorem xa : MtM X "list.append" rAppend := by
  intro pins s σ H x vs v us Q I rx rv h
  obtain ⟨l, xs, y, rfl, rfl, hH, hz, q⟩ := h
  cases rx
  obtain ⟨u, rfl, ru⟩ := rv.one
  obtain ⟨z, its, n, r, hl, e⟩ := I.lstM hH
  refine call_meets F.slot_list_append ⟨_, e, rfl⟩ F.entry_list_append (F.args_list_append_2 _ _) (PySem.list_append l its.toArray n u (by rw [List.size_toArray]; omega)) ⟨e, ?_⟩
  refine ⟨.non, _, I.lset (its' := its ++ [u]) hH e (by simp) (r.append (.cons ru .nil)) ?_, rfl, q⟩
  rw [List.length_append, List.length_singleton]
  omega
def rCat : R2 := fun x y H Q => ∃ l b xs zs, x = .ref l ∧ y = .ref b ∧ H l = some (.lst xs) ∧ H b = some (.lst zs) ∧ xs.length + zs.length ≤ sizeLine ∧ ∀ p, H p = none → Q (.ref p) (upd H p (.lst (xs ++ zs)))
theorem op_cat : OpR X (binaryOp .Add) rCat := by
  intro pins s σ H x y v u Q I rx ry h
  obtain ⟨l, b, xs, zs, rfl, rfl, hH, hB, hz, q⟩ := h
  cases rx
  cases ry
  obtain ⟨z, its, n, r, hl, e⟩ := I.lstM hH
  obtain ⟨z2, its2, n2, r2, hl2, e2⟩ := I.lstM hB
  refine PySem.P.add_list e e2 ?_ (by rw [List.size_toArray, List.size_toArray]; omega)
  have ea : its.toArray ++ its2.toArray = (its ++ its2).toArray := by simp
  rw [ea]
  exact ⟨.ref _, _, I.lnew (t' := s.toks) (r.append r2) (by rw [List.length_append]; omega), rfl, q _ I.fresh⟩
def rRep : R2 := fun x y H Q => ∃ l k xs, x = .ref l ∧ y = .int k ∧ H l = some (.lst xs) ∧ -(2 ^ 63) ≤ k ∧ k < 2 ^ 63 ∧ xs.length * k.toNat ≤ sizeLine ∧
  ∀ p, H p = none → Q (.ref p) (upd H p (.lst (List.replicate k.toNat xs).flatten))
theorem len_rep {α : Type} (xs : List α) (k : Nat) : (List.replicate k xs).flatten.length = k * xs.length := by
  induction k with
  | zero => simp
  | succ k ih => rw [List.replicate_succ, List.flatten_cons, List.length_append, ih, Nat.succ_mul, Nat.add_comm]
theorem op_rep : OpR X (binaryOp .Mult) rRep := by
  intro pins s σ H x y v u Q I rx ry h
  obtain ⟨l, k, xs, rfl, rfl, hH, h1, h2, hz, q⟩ := h
  cases rx
  obtain ⟨t, rfl⟩ := ry
  obtain ⟨z, its, n, r, hl, e⟩ := I.lstM hH
  have hlen : its.toArray.size * k.toNat ≤ sizeLine := by rw [List.size_toArray, ← hl]; exact hz
  have hcap : ¬ its.toArray.size * k.toNat > (2 ^ 63 - 1) / 8 := by
    have : (sizeLine : Nat) ≤ (2 ^ 63 - 1) / 8 := by decide
    omega
  have hfit : ¬ (!Builtin.List.listFitsIndex k) = true := by
    rw [fitsIndex_both h1 h2]
    exact Bool.false_ne_true
  have hlong : ¬ Builtin.List.listTooLong (its.toArray.size * k.toNat) = true := by
    rw [notLongL hlen]
    exact Bool.false_ne_true
  have hnew : List.foldl (fun x1 x2 => x1 ++ x2) #[] (List.replicate (if its.toArray.isEmpty = true then 0 else k.toNat) its.toArray) = (List.replicate k.toNat its).flatten.toArray := by
    have f0 : ∀ m : Nat, List.foldl (fun x1 x2 => x1 ++ x2) #[] (List.replicate m its.toArray) = (List.replicate m its).flatten.toArray := fun m => by
      have := foldl_rep its m []
      rw [List.nil_append] at this
      exact this
    rw [f0]
    cases its with
    | nil => simp
    | cons a r' => rw [if_neg (by simp)]
  refine wpAny_binaryOp_repeat_ref (T := "list") (U := "int") (by decide) ⟨_, e, rfl⟩ (fun s' => typeIs_int s' k t) noFill_list_mul F.fills_int_mul F.slot_int_rmul repeat_list F.slot_int_index.lookup
    (call_meets F.slot_int_rmul (typeIs_int s k t) F.entry_int_rmul (F.args_int_rmul_2 _ _) (int___rmul___int_list k t l its.toArray n)
      ⟨e, rfl, ⟨_, e, rfl⟩, call_meets F.slot_list_mul ⟨_, e, rfl⟩ F.entry_list_mul (F.args_list_mul_2 _ _) (AutoListH.list___mul___list_int_3 l its.toArray n k t hfit hcap hlong) ⟨e, ?_⟩⟩)
  rw [hnew]
  exact ⟨.ref _, _, I.lnew (t' := s.toks) (r.rep k.toNat) (by rw [len_rep, Nat.mul_comm]; exact hz), rfl, q _ I.fresh⟩
end
section
variable {prog : Program} {w : World} {A : Around} {E : Value → Shared → Prop} {s : Shared}
set_option maxRecDepth 100000 in
end
section
variable {X : Cx}
end
end L2
namespace Att
open PySem PySem.W PySem.Calls PyProof.Rows
theorem ints_of_wellAll {P : Params} {h : Heap} : ∀ (ns : List Int) (vs : List Value), WellAll P h vs (ns.map WData.int) → IntsAre vs ns := by
  intro ns
  induction ns with
  | nil =>
    intro vs w
    rw [List.map_nil] at w
    cases w
    exact .nil
  | cons n ns ih =>
    intro vs w
    rw [List.map_cons] at w
    cases w with
    | cons a b =>
      cases a
      exact .cons _ _ (ih _ b)
theorem script_of {l : OpenLaw} {n : Nat} (hn : l.most = some n) {P : Params} {h : Heap} {args : List WData} {vals : List Value}
    (hpre : l.row.toRowW.claim.pre args = true) (hwl : WellAll P h vals args) :
    ∃ a vs ns, vals = [Value.ref a] ∧ args = [WData.list (ns.map WData.int)] ∧ h.get? a = some { cls := .type "list", data := .seq vs.toArray } ∧ IntsAre vs ns ∧ ns.length ≤ n := by
  have hsh : WShape.hasAll [] args [.list .int] = true := (pre_splitW hpre).1
  have hc : l.pre.holds [] { args := args } = true := (pre_splitW hpre).2
  obtain ⟨d, r, rfl, h1, h2⟩ := hasAllW_cons hsh
  obtain rfl := hasAllW_nil h2
  obtain ⟨xs, rfl, h3⟩ := hasW_list h1
  obtain ⟨ns, rfl⟩ := items_int h3
  have hlen : ns.length ≤ n := by
    unfold OpenLaw.pre at hc
    have h4 : (WTm.not (.lt (.lit (.int (n : Int))) (.len (.arg 0)))).holds [] { args := [.list (ns.map .int)] } = true := by
      have h4 := (holds_andW hc).1
      rw [hn] at h4
      exact h4
    have h5 := condW_of h4 (w_not (w_lt w_lit (w_len_list (w_arg rfl))))
    rw [List.length_map] at h5
    refine Nat.le_of_not_lt fun q => ?_
    have q' : (n : Int) < ((ns.length : Nat) : Int) := by omega
    first
      | (rw [decide_eq_true q'] at h5; exact absurd h5 (by decide))
      | (simp at h5; omega)
  cases hwl with
  | cons w1 w2 =>
    cases w2
    cases w1 with
    | list ho hall => exact ⟨_, _, ns, rfl, rfl, ho, ints_of_wellAll ns _ hall, hlen⟩
theorem post_true (l : OpenLaw) (args : List WData) : l.row.toRowW.claim.post args (.bool true) args = true :=
  postW_of (r := l.row.toRowW) (X := (true == true))
    (show WShape.has [] (.bool true) .bool = true by first | rfl | decide | simp [WShape.has, WShape.arms, WShape.armsAll])
    (show (WTm.eq .res (.lit (.bool true))).value [] { args := args, res := some (.bool true), after := args } = some (.bool (true == true)) from w_eq_bool (w_res rfl) w_lit) rfl
theorem attach_call {l : OpenLaw} {n : Nat} {q : Program} {loose : List Str} {XP : (Str → Option Value) → Heap → Prop} {YP : World → Heap → Prop} {d : DefRec}
    (hn : l.most = some n) (hdf : d.params.defaults = [])
    (call : ∀ (w : World) (s₀ s₁ : Shared) (mg mb : Str → Option Value) (fa : Addr) (o : Obj) (pm cd doc : Value) (a : Addr) (vs : List Value) (ns : List Int),
      Ground q loose [] XP w s₀ mg mb s₁.heap → YP w s₁.heap →
      s₁.heap.get? fa = some o → o.data = .func (docDef d.name d.params d.body d.scope pm cd doc) → s₁.heap.CodeRec cd d.name → mg d.name = some (.ref fa) →
      s₁.heap.get? a = some { cls := .type "list", data := .seq vs.toArray } → IntsAre vs ns → ns.length ≤ n → s₁.gens = #[] →
      codeAny (model l.prog w) callerA (.call (.ref fa) ⟨[.ref a], []⟩) (fun r s' => r = .ok (.ret (.bool true)) ∧ OldK s₁.heap s'.heap ∧ s'.os = s₁.os ∧ AllBare s'.gens) s₁) :
    WalkO q loose XP YP l.row.toRowW d [] (fun f vs => PySem.call f vs) := by
  intro w s₀ s₁ mg mb G Y fa o pm cd doc dV kV ho hd hcd hD hmg hg args vals as hpre hlay hrd hwl hlo
  obtain rfl : dV = .none := Dflts.none hD hdf
  obtain rfl : kV = .none := Dflts.noKw hD
  obtain ⟨a, vs, ns, rfl, rfl, hobj, hints, hlen⟩ := script_of hn hpre hwl
  refine enter_call (codeAny_mono (call w s₀ s₁ mg mb fa o pm cd doc a vs ns G Y ho (fd_plain hd) hcd hmg hobj hints hlen hg) fun r s' hq => ?_)
  obtain ⟨rfl, h2, h3, h4⟩ := hq
  exact ⟨.inl ⟨.bool true, .bool true, [], rfl, fun _ => rfl, .bool true, post_true l _, fun _ => ⟨List.Pairwise.nil, fun _ hm => (nomatch hm)⟩⟩, h2, h3, h4⟩
section
variable {prog : Program} {w : World} {A : Around} {E : Value → Shared → Prop} {s : Shared} {K : Frag}
def noObjs (h : Heap) : Heap := { h with objs := #[] }
theorem noObjs_get (h : Heap) (b : Addr) : (noObjs h).get? b = none := by
  cases e : (noObjs h).get? b with
  | none => rfl
  | some o => exact absurd (Heap.lt_size e) (Nat.not_lt_zero _)
def ledger (h : Heap) (L d : Addr) : List (Addr × Obj) := (List.range h.objs.size).filterMap fun a => if a = L ∨ a = d then none else (h.get? a).map fun o => (a, o)
theorem fr_all {h : Heap} {L : Addr} {m : Str → Option Value} (n : h.Ns L m) : Fr (noObjs h) L h m :=
  ⟨n, fun b o e => (by rw [noObjs_get] at e; cases e), Nat.zero_le _⟩
end
end Att
namespace L2
open PySem PySem.Spec PyProof.Rows
theorem vals_ints : ∀ {vs : List Value} {ns : List Int}, IntsAre vs ns → Vals (ns.map V.int) vs
  | _, _, .nil => .nil
  | _, _, .cons n t h => .cons ⟨t, rfl⟩ (vals_ints h)
def Only (H : Hp) : Prop := ∀ b, H b = none ∨ ∃ o xs, H b = some (.frz o (.lst xs))
theorem law_call {P : Program} {w : World} {K : PySem.W.Frag} {mg mb : Str → Option Value} {CX : CXT} {k : Nat} {fa a : Addr} {fd : FuncData} {x : Str} {sp : Sp} {s₁ : Shared} {vs : List Value} {ns : List Int}
    (KX : K.In s₁.heap) (hns : s₁.heap.Ns mainGlobals mg) (hb : s₁.heap.Ns builtinsNs mb) (hbb : ∀ x : Str, x ≠ "__name__" → mb x = bootBuiltins x) (hlim : s₁.heap.NoLimit) (hg : s₁.gens = #[])
    (ha : s₁.heap.get? a = some { cls := .type "list", data := .seq vs.toArray }) (hi : IntsAre vs ns) (hl : ns.length ≤ sizeLine) (hr : Room k callerA)
    (F : ∀ base : Heap, K.In base → base.Ns mainGlobals mg → FnOk P w K mg base CX k fa fd [x] sp) (hbind : ∀ (s : Shared) (u : Value), BindsTo s fd ⟨[u], []⟩ [(x, u)])
    (hsp : ∀ H : Hp, Only H → SqL K H a (ns.map V.int) → sp [.ref a] H (fun v _ => v = .bl true) fun _ _ _ => False)
    (hCX : ∀ H e s', CX [] H s₁ (fun _ _ _ => False) e s' → False) :
    codeAny (model P w) callerA (.call (.ref fa) ⟨[.ref a], []⟩) (fun r s' => r = .ok (.ret (.bool true)) ∧ OldK s₁.heap s'.heap ∧ s'.os = s₁.os ∧ AllBare s'.gens) s₁ := by
  have rv := vals_ints hi
  have lenV := hi.length
  have core : ∀ H : Hp, Only H → SqL K H a (ns.map V.int) → HOk P w H s₁.heap → (∀ b, H b ≠ none → b = a) → (H a ≠ none → K.lookup a = none) →
      codeAny (model P w) callerA (.call (.ref fa) ⟨[.ref a], []⟩) (fun r s' => r = .ok (.ret (.bool true)) ∧ OldK s₁.heap s'.heap ∧ s'.os = s₁.os ∧ AllBare s'.gens) s₁ := by
    intro H hO hS hok hA hK
    have base_of : ∀ {b : Addr} {o : Obj}, s₁.heap.get? b = some o → H b = none → (hidT s₁.heap H).get? b = some o := fun e n => hidT_get e n
    have noA : ∀ {b : Addr} {o : Obj} {es : Array DictEntry} {ep : Nat}, s₁.heap.get? b = some o → o.data = .dict es ep → H b = none := fun {b o es ep} e d => by
      cases q : H b with
      | none => rfl
      | some u =>
        have e' : b = a := hA b (by rw [q]; simp)
        subst e'
        rw [ha] at e; cases e
        have d' : Data.seq vs.toArray _ = Data.dict es ep := d
        cases d'
    have nsK : ∀ {b : Addr} {m : Str → Option Value}, s₁.heap.Ns b m → (hidT s₁.heap H).Ns b m := fun {b m} ⟨o, es, ep, e, d, r⟩ => ⟨o, es, ep, base_of e (noA e d), d, r⟩
    have hKb : K.In (hidT s₁.heap H) := fun b o e => base_of (KX b o e) (by
      cases q : H b with
      | none => rfl
      | some u =>
        have e' : b = a := hA b (by rw [q]; simp)
        subst e'
        rw [hK (by rw [q]; simp)] at e; cases e)
    have hM : Mod K mg (hidT s₁.heap H) := ⟨hKb, nsK hns, ⟨mb, nsK hb, hbb⟩, let ⟨mc, h1, h2⟩ := hlim; ⟨mc, nsK h1, h2⟩⟩
    have e0 : Env0 P w K mg (hidT s₁.heap H) callerA [] s₁ H := ⟨rfl, hM, fun b o e => of_hidT e, Nat.le_of_eq (hidT_size _ _), trivial, fun b hb => absurd (show b ∈ ([] : List Addr) from hb) (by simp), hok, .of_eq hg⟩
    refine codeAny_mono ((F _ hKb (nsK hns)).run callerA [] s₁ H ⟨[.ref a], []⟩ [.ref a] [.ref a] _ _ hr e0 (hbind s₁ (.ref a)) (.cons rfl .nil) (hsp H hO hS)) fun r s' h => ?_
    cases r with
    | error e => exact (hCX H e s' h).elim
    | ok fl =>
      cases fl with
      | next => exact False.elim h
      | brk => exact False.elim h
      | cont => exact False.elim h
      | ret u =>
        obtain ⟨v, H', os, bare, un, hok', r', q⟩ := h
        have q' : v = .bl true := q
        subst q'
        obtain rfl : u = Value.bool true := r'
        refine ⟨rfl, OldK.of_keep fun b o e => ?_, os, bare⟩
        cases q : H b with
        | none => exact un.keep b o e q (by intro z; exact absurd (show b ∈ ([] : List Addr) from z) (by simp)) (by simp)
        | some u =>
          rcases hO b with z | ⟨ob, xs, z⟩
          · rw [q] at z; cases z
          · have z2 := un.frzs b ob _ z
            obtain ⟨e1, _⟩ := hok b _ z
            obtain ⟨e2, _⟩ := hok' b _ z2
            rw [e] at e1; cases e1
            exact e2
  cases hk : K.lookup a with
  | some o =>
    have e := KX a o hk
    rw [ha] at e
    cases e
    refine core (fun _ => none) (fun _ => .inl rfl) (.inr ⟨_, vs.toArray, _, hk, rfl, rfl, rfl, by rw [List.size_toArray, lenV]; exact hl, by simpa using rv⟩) (fun b u z => by have z' : (none : Option HO) = some u := z; cases z') (fun b z => absurd rfl z) fun z => absurd rfl z
  | none =>
    refine core (fun b => if b = a then some (.frz { cls := .type "list", data := .seq vs.toArray } (.lst (ns.map V.int))) else none) (fun b => ?_) (.inl (.inr ⟨{ cls := .type "list", data := .seq vs.toArray }, if_pos rfl⟩)) (fun b u z => ?_) (fun b z => ?_) fun _ => hk
    · by_cases hb : b = a
      · exact .inr ⟨_, _, if_pos hb⟩
      · exact .inl (if_neg hb)
    · by_cases hb : b = a
      · have z' := (if_pos hb).symm.trans z
        cases z'
        subst hb
        exact ⟨ha, by rw [List.length_map]; exact hl, vs, _, rv, ha⟩
      · have z' := (if_neg hb).symm.trans z
        cases z'
    · by_cases hb : b = a
      · exact hb
      · exact absurd (if_neg hb) z
end L2
namespace L2
open PySem PySem.Spec PyProof.Rows
theorem walk_of {l : PySem.W.OpenLaw} {n k : Nat} {q : Program} {loose : List Str} {XP : (Str → Option Value) → Heap → Prop} {YP : World → Heap → Prop} {d : DefRec} {K : Params → PySem.W.Frag} {CX : World → CXT} {sp : World → Sp} {x : Str}
    (hn : l.most = some n) (hn2 : n ≤ sizeLine) (hdf : d.params.defaults = []) (hr : Room k callerA)
    (hY : ∀ (w : World) (h : Heap), YP w h → (K w.params).In h)
    (F : ∀ (w : World) (mg : Str → Option Value) (fa : Addr) (h : Heap), (K w.params).In h → h.Ns mainGlobals mg → mg d.name = some (.ref fa) →
      ∃ fd : FuncData, (∀ (s : Shared) (u : Value), BindsTo s fd ⟨[u], []⟩ [(x, u)]) ∧
        ∀ base : Heap, (K w.params).In base → base.Ns mainGlobals mg → FnOk l.prog w (K w.params) mg base (CX w) k fa fd [x] (sp w))
    (hsp : ∀ (w : World) (H : Hp) (a : Addr) (ns : List Int), ns.length ≤ n → Only H → SqL (K w.params) H a (ns.map V.int) → sp w [.ref a] H (fun v _ => v = .bl true) fun _ _ _ => False)
    (hCX : ∀ (w : World) (H : Hp) (s : Shared) (e : Value) (s' : Shared), CX w [] H s (fun _ _ _ => False) e s' → False) :
    PySem.W.WalkO q loose XP YP l.row.toRowW d [] (fun f vs => PySem.call f vs) := by
  refine Att.attach_call hn hdf fun w s₀ s₁ mg mb fa o pm cd doc a vs ns G Y ho hd hcd hmg hobj hints hlen hg => ?_
  have KX := hY w _ Y
  obtain ⟨fd, hb, hF⟩ := F w mg fa _ KX G.T.g hmg
  exact law_call KX G.T.g G.T.b G.T.builtins G.T.nolimit hg hobj hints (Nat.le_trans hlen hn2) hr hF hb (fun H hO hS => hsp w H a ns hlen hO hS) fun H e s' => hCX w H s₁ e s'
end L2
/- THE LAST THEOREM (shape; LID, My.* are yours):
   My.Adr: a structure of the addresses that your layer names (classes, functions); My.Txt K t: a structure (Prop) of the equations over K;
   My.txt_mk : {K} {implicit addresses ..} (e1 : nsIn K mainGlobals "law" = some (some (.ref f))) (e2 : K.lookup f = some ⟨oc, od, .func (fnOf "law" "law" params body scope dV kV doc pm an cdv ct), sl⟩) (e3 : codeIn K cdv "law" = true) .. : ∃ t, My.Txt K t
set_option maxRecDepth 100000 in
set_option maxHeartbeats 0 in
(the tactic k_is has no namespace: write k_is) -/
namespace L2
open PySem PySem.Spec PyProof.Rows
def yp (s : Stmt) (j : Nat) : Stmt := match s with
  | .ClassDef _ _ _ body _ _ _ _ _ _ _ => body.getD j (.Pass ⟨0, 0, 0, 0⟩)
  | _ => .Pass ⟨0, 0, 0, 0⟩
def zn (s : Stmt) : Arguments := match s with
  | .FunctionDef _ a _ _ _ _ _ _ _ _ => a
  | _ => { posonlyargs := [], args := [], vararg := none, kwonlyargs := [], kw_defaults := [], kwarg := none, defaults := [] }
def zm (s : Stmt) : List Stmt := match s with
  | .FunctionDef _ _ b _ _ _ _ _ _ _ => b
  | _ => []
def ze (s : Stmt) : Scope := match s with
  | .FunctionDef _ _ _ _ _ _ sc _ _ _ => sc
  | _ => { kind := .function, names := [], isGenerator := false, isCoroutine := false }
abbrev CX0 : CXT := fun _ _ _ _ _ _ => False
abbrev E0 : XK := fun _ _ _ => False
theorem zr {X : Cx} : Passes CX0 X E0 := fun _ _ _ _ _ _ _ h => h.elim
structure Fun (K : PySem.W.Frag) (x qual : Str) (st : Stmt) (f : Addr) (fd : FuncData) : Prop where
  ex : ∃ (oc : Value) (od : Option Addr) (kV doc pm : Value) (an : Option Addr) (cdv ct : Value) (osl : Array (Option Value)),
    fd = PySem.W.fnOf x qual (zn st) (zm st) (ze st) .none kV doc pm an cdv ct ∧ K.lookup f = some ⟨oc, od, .func fd, osl⟩ ∧ PySem.W.codeIn K cdv qual = true
  kp : PySem.W.keepIn K (.ref f) = true
section
variable {P : Program} {w : World} {K : PySem.W.Frag} {mg : Str → Option Value} {base : Heap}
theorem Fun.ok {x qual : Str} {st : Stmt} {f : Addr} {fd : FuncData} {N ps : List Str} {k : Nat} {sp : Sp} (F : Fun K x qual st f fd) (S : FnScope N ps (ze st)) (len : ∀ vs H Q E, sp vs H Q E → vs.length = ps.length)
    (hbody : ∀ (cdv : Value) (A : Around) (outer : List Env) (s : Shared) (H : Hp) (vs : List V) (Q : VK) (E : XK), Room k (A.deeper (envOfC qual (ze st) s.heap.objs.size f cdv)) → sp vs H Q E →
      ∃ t, PSs (cxOf CX0 P w K mg base N qual (ze st) f cdv A outer s H E).nox (zm st) t ∧ t { nx := fun _ H' => Q .non H', rt := Q } (start N vs) H) : FnOk P w K mg base CX0 (k + 1) f fd ps sp := by
  obtain ⟨oc, od, kV, doc, pm, an, cdv, ct, osl, rfl, lk, hcd⟩ := F.ex
  refine fn_of lk hcd S len fun A outer s H vs Q E hr hsp => ?_
  obtain ⟨t, h, q⟩ := hbody cdv A outer s H vs Q E hr hsp
  exact ⟨t, h.nox, q⟩
theorem Fun.binds {x qual : Str} {st : Stmt} {f : Addr} {fd : FuncData} {ps : List Str} (F : Fun K x qual st f fd)
    (h : ∀ (kV doc pm : Value) (an : Option Addr) (cdv ct : Value) (us : List Value), us.length = ps.length → bindArgs (PySem.W.fnOf x qual (zn st) (zm st) (ze st) .none kV doc pm an cdv ct) ⟨us, []⟩ = pure (ps.zip us)) : Binds K fd ps [] := by
  obtain ⟨oc, od, kV, doc, pm, an, cdv, ct, osl, rfl, lk, hcd⟩ := F.ex
  exact .all (h kV doc pm an cdv ct)
theorem zJ {x qual : Str} {st : Stmt} {f : Addr} {oc : Value} {od an : Option Addr} {osl : Array (Option Value)} {kV doc pm cdv ct : Value} (l : K.lookup f = some ⟨oc, od, .func (PySem.W.fnOf x qual (zn st) (zm st) (ze st) .none kV doc pm an cdv ct), osl⟩)
    (c : PySem.W.codeIn K cdv qual = true) (k : PySem.W.keepIn K (.ref f) = true) : Fun K x qual st f (PySem.W.fnOf x qual (zn st) (zm st) (ze st) .none kV doc pm an cdv ct) := ⟨⟨oc, od, kV, doc, pm, an, cdv, ct, osl, rfl, l, c⟩, k⟩
end
section
variable {X : Cx}
theorem pv (i : Nat) {x : Str} {pos : Pos} (hN : X.N[i]? = some x := by rfl) (hv : Vis X.env.scope x := by first | exact Or.inl rfl | exact Or.inr (Or.inl rfl) | exact Or.inr (Or.inr rfl)) (hd : (x == ("__debug__" : Str)) = false := by decide)
    (hcd : (x == ("__classdict__" : Str)) = false := by decide) : PE X (.Name x pos) (tVar i) := pe_var hN hv hd hcd
end
theorem yn {A B : Prop} (h : B) : if false = true then A else B := by
  rw [if_neg Bool.false_ne_true]
  exact h
theorem iteT {A B : Prop} (h : A) : if true = true then A else B := by
  rw [if_pos rfl]
  exact h
theorem ite2 {c A B : Prop} [Decidable c] (h1 : c → A) (h2 : ¬ c → B) : if c then A else B := by
  by_cases h : c
  · rw [if_pos h]
    exact h1 h
  · rw [if_neg h]
    exact h2 h
def Same (H H' : Hp) : Prop := ∀ b o, H b = some o → H' b = some o
theorem Same.refl (H : Hp) : Same H H := fun _ _ h => h
theorem Same.trans {H H1 H2 : Hp} (a : Same H H1) (b : Same H1 H2) : Same H H2 := fun c o h => b c o (a c o h)
theorem Same.free {H H' : Hp} (e : Same H H') {l : Addr} (h : H' l = Option.none) : H l = Option.none := by
  cases q : H l with
  | none => rfl
  | some o =>
    rw [e l o q] at h
    cases h
end L2
namespace L2
open PySem PySem.Spec PyProof.Rows
section
variable {X : Cx} {pins : List (Addr × Obj)} {σ : St} {H : Hp} {s : Shared} {e : Addr} {cls : Value}
end
end L2
namespace L2
open PySem PySem.Spec PyProof.Rows
section
variable {X : Cx} {pins : List (Addr × Obj)} {σ : St} {H H' : Hp} {s s' : Shared} {e : Addr} {cls : Value}
end
section
variable {P : Program} {w : World} {K : PySem.W.Frag} {mg : Str → Option Value} {base : Heap} {N : List Str} {qual : Str} {scope : Scope} {f : Addr} {cd : Value} {A : Around} {outer : List Env} {s : Shared} {H : Hp} {E : XK}
end
end L2
namespace My
open PySem PySem.Spec PySem.Calls PySem.W PyProof.Rows PySem.Builtin PySem.Builtin.ObjectAttr PySem.Builtin.Getset_descriptor
def ClsAt (x D : Addr) (h : Heap) : Prop := ∃ o, h.get? x = some o ∧ o.cls = .ref D
theorem clsAt_ty {x D : Addr} (M : Model) (h : Heap) (p : ClsAt x D h) : Looks M h (typeOf (.ref x)) (.ref D) := by
  obtain ⟨o, a, b⟩ := p
  exact b ▸ (Looks.ld a).andThen .now
theorem find_data {K : Frag} {M : Model} {h : Heap} (X : K.In h) {x D : Addr} {name : Str} {g a : Value} (ha : findIn K (.ref D) name = some (some a)) (hn : specialIn K a "__get__" = some (some g)) (htk : takesIn K a = some true) :
    Looks M h (find (.ref x) (.ref D) name) (.bind g a) :=
  (looks_findIn X ha).andThen ((show Looks M h (getOf (some a)) (some g) from looks_specialIn X hn).andThen ((show Looks M h (dataDescriptor? (some a) (some g)) (some (g, a)) from (looks_takesIn X htk).andThen .now).andThen (Looks.tag .now)))
section
variable {prog : Program} {w : World} {A : Around} {E : Value → Shared → Prop} {s : Shared} {K : Frag} {x D : Addr} {R : Result → Shared → Prop}
theorem class_of {tp : Value} (X : K.In s.heap) (p : ClsAt x D s.heap) (hm : mroIn K D (.type "object") = some true) (h : R (.ok (.ret (.ref D))) s) :
    codeAny (model prog w) A (.call (.builtin "getset_descriptor.__get__") ⟨[.builtin "object.__class__", .ref x, tp], []⟩) R s := by
  obtain ⟨h0, g0, d0, t0, o0⟩ := s
  have T0 := clsAt_ty (model prog w) h0 p
  have T1 := looks_mroIn (M := model prog w) X hm
  refine codeAny_call_builtin KF.slot_gs.plain KF.entry_gs (KF.slot_gs.check _ _ _ _ _ _ _ _ KF.type_class (KF.args_gs _ _ _) ?_)
  unfold Builtin.«getset_descriptor.__get__» descrGet
  rw [dga_obj]
  refine wpAny_bind (wpAny_pure ?_)
  unfold descrGetter descrCheckInstance descrNameAndClass isInstance
  simp only [KF.owner_class]
  repeat lk
  refine ⟨Code.quiet_builtin _ (by decide +kernel), codeAny_builtin KF.entry_class ?_⟩
  unfold Builtin.«object.__class__» shownTypeOf
  repeat lk
  exact h
theorem ga_check {M : Model} {Q : Unit → Shared → Prop} {nameV : Value} {h0 : Heap} {g0 : Array GenState} {d0 : Drawn} {t0 : Nat} {o0 : OsState} (T0 : Looks M h0 (typeOf (.ref x)) (.ref D)) (TS : Looks M h0 (isSubtype (.ref D) (.type "BaseException")) true) (hq : Q () ⟨h0, g0, d0, t0, o0⟩) :
    wpAny M A (checkBuiltinCall "BaseException.__getattribute__" ⟨[.ref x, nameV], []⟩) Q E ⟨h0, g0, d0, t0, o0⟩ := by
  have e1 : builtinKind "BaseException.__getattribute__" = some .slot := by decide +kernel
  have e2 : splitId "BaseException.__getattribute__" = some ("BaseException", "__getattribute__") := by decide +kernel
  have e3 := F.args_bexc_ga (.ref x) nameV
  simp only [checkBuiltinCall, e1, e2]
  refine wpAny_bind ?_
  unfold isInstance
  repeat (first | lk | wp_step)
  exact hq
theorem ga_entry {Q : Fin → Shared → Prop} {tk : Tok} {h0 : Heap} {g0 : Array GenState} {d0 : Drawn} {t0 : Nat} {o0 : OsState} (X : K.In h0) (p : ClsAt x D h0) (ha : findIn K (.ref D) "__class__" = some (some (.builtin "object.__class__")))
    (hn : specialIn K (.builtin "object.__class__") "__get__" = some (some (.builtin "getset_descriptor.__get__"))) (htk : takesIn K (.builtin "object.__class__") = some true) (hm : mroIn K D (.type "object") = some true) (hq : Q (.done (.ret (.ref D))) ⟨h0, g0, d0, t0, o0⟩) :
    wpAny (model prog w) A (Builtin.«object.__getattribute__» ⟨[.ref x, .str "__class__" tk], []⟩) Q E ⟨h0, g0, d0, t0, o0⟩ := by
  have T0 := clsAt_ty (model prog w) h0 p
  have T2 := find_data (M := model prog w) X (x := x) ha hn htk
  unfold Builtin.«object.__getattribute__»
  refine wpAny_bind (wpAny_pure ?_)
  repeat (first | (with_reducible refine wpAny_bind (T0.at ?_)) | (with_reducible refine wpAny_bind (T2.at ?_)) | wp_step)
  refine class_of (s := ⟨h0, g0, d0, t0, o0⟩) X p hm ?_
  repeat (any_goals (first | assumption | wp_step))
theorem class_attr {Q : Option Value → Shared → Prop} (hg : findIn K (.ref D) "__getattribute__" = some (some (.builtin "BaseException.__getattribute__"))) (hgg : findIn K (.ref D) "__getattr__" = some none) (hsb : subIn K (.ref D) (.type "BaseException") = some true) (ha : findIn K (.ref D) "__class__" = some (some (.builtin "object.__class__")))
    (hn : specialIn K (.builtin "object.__class__") "__get__" = some (some (.builtin "getset_descriptor.__get__"))) (htk : takesIn K (.builtin "object.__class__") = some true) (hm : mroIn K D (.type "object") = some true)
    (X : K.In s.heap) (p : ClsAt x D s.heap) (h : Q (some (.ref D)) { s with toks := s.toks + 1 }) : wpAny (model prog w) A (getAttr? (.ref x) "__class__") Q E s := by
  obtain ⟨h0, g0, d0, t0, o0⟩ := s
  have T0 := clsAt_ty (model prog w) h0 p
  have T1 := looks_findIn (M := model prog w) X hg
  have T3 := looks_findIn (M := model prog w) X hgg
  have TS := looks_subIn (M := model prog w) X hsb
  have f3 := F.excAttr_ValueError.ga.bind (.ref x)
  have hx2 : (Value.builtin "BaseException.__getattribute__" == Value.builtin "object.__getattribute__") = false := by decide +kernel
  have hx1 : (onTheHeap (Value.ref D) && Value.builtin "BaseException.__getattribute__" == Value.builtin "object.__getattribute__") = false := by rw [hx2]; rfl
  unfold getAttr? getAttrBy? getAttrBy
  refine wpAny_bind (wpAny_mkText (wpAny_bind (wpAny_attempt (wpAny_holding (wpAny_bind (T0.at (wpAny_bind (T1.at ?_))))))))
  dsimp only
  rw [if_neg (by rw [hx1]; exact Bool.false_ne_true)]
  unfold getAttrByItsOwn hookBefore
  rw [if_pos (show onTheHeap (Value.ref D) = true from rfl)]
  refine wpAny_bind (T3.at ?_)
  repeat (any_goals (first | assumption | wp_step | lk))
  refine codeAny_call_builtin F.excAttr_ValueError.ga.plain F.entry_bexc_ga (ga_check T0 TS (ga_entry (K := K) X p ha hn htk hm ?_))
  repeat (any_goals (first | assumption | wp_step))
theorem kitx_exc (hg : findIn K (.ref D) "__getattribute__" = some (some (.builtin "BaseException.__getattribute__"))) (hgg : findIn K (.ref D) "__getattr__" = some none) (hsb : subIn K (.ref D) (.type "BaseException") = some true) (hd : hasDictIn K D = true) (ha : findIn K (.ref D) "__class__" = some (some (.builtin "object.__class__")))
    (hn : specialIn K (.builtin "object.__class__") "__get__" = some (some (.builtin "getset_descriptor.__get__"))) (htk : takesIn K (.builtin "object.__class__") = some true) (hm : mroIn K D (.type "object") = some true) :
    KitX K (.ref x) (.ref D) (ClsAt x D) where
  ty := fun M h _ p => clsAt_ty M h p
  it := fun M h X _ => by
    obtain ⟨c, hc, _⟩ := any_some hd
    unfold clsIn at hc
    split at hc
    · rename_i u1 u2 u3 u4 ho
      intro A' Q' E' s' k q
      unfold isType loadHead; exact wpAny_bind (wpAny_loadPart (k _ _ (X _ _ ho)) (wpAny_pure q))
    · cases hc
  ne := fun h tp dd its n sl X e => by
    obtain ⟨c, hc, _⟩ := any_some hd
    refine Bool.eq_false_iff.mpr fun q => ?_
    obtain rfl : D = tp := Value.ref.inj (beq_iff_eq.mp q)
    unfold clsIn at hc
    split at hc
    · rename_i u1 u2 u3 u4 ho
      have z := (X _ _ ho).symm.trans e; cases z
    · cases hc
  ca := fun X p k => class_attr hg hgg hsb ha hn htk hm X p k
end
end My
namespace L2
open PySem PySem.Spec PyProof.Rows
section
variable {X : Cx} {pins : List (Addr × Obj)} {σ : St} {H H' : Hp} {s s' : Shared} {e C : Addr}
end
end L2
namespace L2
open PySem PySem.Spec PyProof.Rows
section
variable {X : Cx} {pins : List (Addr × Obj)} {σ : St} {H H' : Hp} {s s' : Shared} {e C : Addr}
end
end L2
namespace L2
open PySem PySem.Spec PyProof.Rows
section
variable {X : Cx} {pins : List (Addr × Obj)} {σ : St} {H H' : Hp} {s s' : Shared} {e C : Addr}
def excO (e C : Addr) : HO := .ext (My.ClsAt e C)
end
end L2
namespace L2
open PySem PySem.Spec PyProof.Rows
section
variable {X : Cx} {pins : List (Addr × Obj)} {σ σ₀ : St} {H H' : Hp} {s s' : Shared} {R : Addr → Hp → Prop}
end
end L2
namespace L2
open PySem PySem.Spec PyProof.Rows
def TopDict (w : World) (K : PySem.W.Frag) (a : Addr) : Prop := ∃ es n, K.lookup a = some ⟨.type "dict", none, .dict es n, #[]⟩ ∧ PySem.W.KeysLit w.params es.toList
section
variable {X : Cx} {a : Addr} {ke : Expr} {tk : TE} {p pos : Pos} {D : Str}
theorem top_item {pins : List (Addr × Obj)} {σ : St} {H : Hp} {s : Shared} {x : Str} {t : Tok} {u : Value} {A : Around} {E : Value → Shared → Prop} {Q : Value → Shared → Prop} (I : Inv X pins σ H s) (T : TopDict X.w X.K a) (e : PySem.W.nsIn X.K a x = some (some u)) (h : Q u { s with toks := s.toks + 1 }) :
    wpAny (model X.prog X.w) A (getItem (.ref a) (.str x t)) Q E s := by
  obtain ⟨es, n, hl, hk⟩ := T
  exact wpAny_getItem_of (strKind_is X.prog X.w x t) (PySem.W.mapOf_K (prog := X.prog) I.kIn hl hk) (PySem.W.find_K hl e) h
theorem top_in {pins : List (Addr × Obj)} {σ : St} {H : Hp} {s : Shared} {x : Str} {t : Tok} {r : Option Value} {A : Around} {E : Value → Shared → Prop} {Q : Value → Shared → Prop} (I : Inv X pins σ H s) (T : TopDict X.w X.K a) (e : PySem.W.nsIn X.K a x = some r) (lo : (a == sysModules) = false) (h : Q (.bool r.isSome) { s with toks := s.toks + 1 }) :
    wpAny (model X.prog X.w) A (compareOp .In (.str x t) (.ref a)) Q E s := by
  obtain ⟨es, n, hl, hk⟩ := T
  exact wpAny_in_of (strKind_is X.prog X.w x t) lo (PySem.W.mapOf_K (prog := X.prog) I.kIn hl hk) (by rw [PySem.W.find_K hl e]; exact h)
def rTopIn (w : World) (K : PySem.W.Frag) : R2 := fun x y H Q => ∃ (k : Str) (a : Addr) (r : Option Value), x = .str k ∧ y = .ref a ∧ TopDict w K a ∧ (a == sysModules) = false ∧ PySem.W.nsIn K a k = some r ∧ Q (.bl r.isSome) H
theorem op_in_top : OpR X (compareOp .In) (rTopIn X.w X.K) := by
  intro pins s σ H x y v u Q I rx ry h
  obtain ⟨k, a, r, rfl, rfl, T, lo, e, q⟩ := h
  obtain ⟨t, rfl⟩ := (show ∃ t, v = Value.str k t from rx)
  cases (show u = Value.ref a from ry)
  exact top_in I T e lo ⟨.bl r.isSome, H, I.tok _, rfl, q⟩
def tCallV (P : Program) (w : World) (K : PySem.W.Frag) (mg : Str → Option Value) (base : Heap) (CX : CXT) (k : Nat) (E : XK) (tf : TE) (t : TA) : TE := fun σ H Q => tf σ H fun x H1 => ∃ (f : Addr) (fd : FuncData) (ps : List Str) (sp : Sp), x = .ref f ∧ FnOk P w K mg base CX k f fd ps sp ∧ PySem.W.keepIn K (.ref f) = true ∧ Binds K fd ps [] ∧ t σ H1 fun vs H2 => sp vs H2 Q E
theorem pe_callV {CX : CXT} {k : Nat} {E : XK} {func e : Expr} {es : List Expr} {tf : TE} {t : TA} (hf : PE X func tf) (hr : Room k X.A) (hx : Passes CX X E) (ha : PA X (e :: es) t)
    (he : starEach (e :: es) X.env = (false, eval e X.env) :: starEach es X.env := by rfl) (hpl : (backTo pos (starEach es X.env)).any (·.1) = false := by rfl)
    (hc : eval (.Call func (e :: es) [] pos) X.env = (do callWith pos (← eval func X.env) [] (backTo pos (starEach (e :: es) X.env)) (backToKw pos (keywordEach [] X.env))) := by rfl) :
    PE X (.Call func (e :: es) [] pos) (tCallV X.prog X.w X.K X.mg X.base CX k E tf t) := by
  intro pins s σ H Q I h
  refine Call_ (thn (hf pins s σ H _ I h) fun u s1 ⟨x, H1, I1, rx, f, fd, ps, sp, ex, F, hk, hb, q⟩ => ?_) hc
  subst ex
  obtain rfl : u = Value.ref f := rx
  refine PySem.W.callWith_K (h₀ := X.base) I.ok.mod.kin hk (thn (ha pos pins s1 σ H1 _ I1 q) fun us s2 ⟨vs, H2, I2, r, q2⟩ => ⟨I2.kIn, ?_⟩) he hpl
  exact run_fn (dvs := []) (ds := []) F hr hb .nil hx I2 r (by simpa using q2)
end
end L2
namespace L2
open PySem PySem.Spec PyProof.Rows
section
variable {X : Cx}
def rIxTop (w : World) (K : PySem.W.Frag) : R2 := fun x y H Q => ∃ (a : Addr) (k : Str) (u : Value) (v : V), x = .ref a ∧ y = .str k ∧ TopDict w K a ∧ PySem.W.nsIn K a k = some (some u) ∧ RelV v u ∧ Q v H
theorem ix_top : IxR X (rIxTop X.w X.K) := by
  intro value slice pins s σ H x y v u Q I rx ry h hs
  obtain ⟨a, k, u', z, rfl, rfl, T, e, r, q⟩ := h
  cases (show v = Value.ref a from rx)
  obtain ⟨t, rfl⟩ := (show ∃ t, u = Value.str k t from ry)
  have T' := T
  obtain ⟨es, n, hl, hk⟩ := T'
  exact tail_any (PySem.W.mapOf_K (prog := X.prog) I.kIn hl hk).typeIs slot_dict_getitem.lookup (top_item I T e ⟨z, H, I.tok _, r, q⟩) hs
structure ExcCls (K : PySem.W.Frag) (C : Addr) : Prop where
  hg : PySem.W.findIn K (.ref C) "__getattribute__" = some (some (.builtin "BaseException.__getattribute__"))
  hgg : PySem.W.findIn K (.ref C) "__getattr__" = some none
  hsb : PySem.W.subIn K (.ref C) (.type "BaseException") = some true
  hd : PySem.W.hasDictIn K C = true
  ha : PySem.W.findIn K (.ref C) "__class__" = some (some (.builtin "object.__class__"))
  hn : PySem.W.specialIn K (.builtin "object.__class__") "__get__" = some (some (.builtin "getset_descriptor.__get__"))
  ht : PySem.W.takesIn K (.builtin "object.__class__") = some true
  hm : PySem.W.mroIn K C (.type "object") = some true
def TyX (K : PySem.W.Frag) (H : Hp) (x : V) (t : Value) : Prop := TyOf K H x t ∨ ∃ e C, x = .ref e ∧ H e = some (excO e C) ∧ t = .ref C ∧ ExcCls K C
def rIsi (K : PySem.W.Frag) : List V → Hp → VK → Prop := fun vs H Q => ∃ (x c : V) (cv t : Value) (b : Bool), vs = [x, c] ∧ RelV c cv ∧ (∀ u, RelV c u → u = cv) ∧ TyX K H x t ∧ PySem.W.kitOne K t cv = some b ∧ Q (.bl b) H
theorem yt : CallR X (.builtin "isinstance") (rIsi X.K) := by
  intro pins s σ H xs us Q I r h
  obtain ⟨x, c, cv, t, b, rfl, rc, ic, ty, e, q⟩ := h
  obtain ⟨u, w', rfl, ru, rw'⟩ := vals2 r
  cases ic w' rw'
  rcases ty with ty | ⟨ea, C, rfl, he, rfl, ec⟩
  · exact isinst_ok I ru ty e fun tk => ⟨.bl b, H, I.tok _, rfl, q⟩
  · cases (show u = Value.ref ea from ru)
    obtain ⟨p, _⟩ := (show ObjOk X.prog X.w H s.heap ea (excO ea C) from I.hok ea _ he)
    exact PySem.W.kia_one (My.kitx_exc ec.hg ec.hgg ec.hsb ec.hd ec.ha ec.hn ec.ht ec.hm) I.kIn p e (fun z => nomatch z) fun tk => ⟨.bl b, H, I.tok _, rfl, q⟩
end
section
variable {P : Program} {w : World} {K : PySem.W.Frag} {mg : Str → Option Value} {base : Heap}
def zC (K : PySem.W.Frag) (mg : Str → Option Value) (x : Str) (st : Stmt) (ps : List Str) : Prop := ∃ (f : Addr) (fd : FuncData), mg x = some (.ref f) ∧ Fun K x x st f fd ∧ Binds K fd ps []
theorem zG {h : Heap} {x : Str} {st : Stmt} {ps : List Str} {f : Addr} {oc : Value} {od an : Option Addr} {osl : Array (Option Value)} {kV doc pm cdv ct : Value} (X : K.In h) (G : h.Ns mainGlobals mg)
    (a : PySem.W.nsIn K mainGlobals x = some (some (.ref f))) (l : K.lookup f = some ⟨oc, od, .func (PySem.W.fnOf x x (zn st) (zm st) (ze st) .none kV doc pm an cdv ct), osl⟩)
    (c : PySem.W.codeIn K cdv x = true) (k : PySem.W.keepIn K (.ref f) = true)
    (b : ∀ (kV doc pm : Value) (an : Option Addr) (cdv ct : Value) (us : List Value), us.length = ps.length → bindArgs (PySem.W.fnOf x x (zn st) (zm st) (ze st) .none kV doc pm an cdv ct) ⟨us, []⟩ = pure (ps.zip us)) : zC K mg x st ps :=
  ⟨f, _, PySem.W.mg_of X G a, zJ l c k, (zJ l c k).binds b⟩
def Ok (P : Program) (w : World) (K : PySem.W.Frag) (mg : Str → Option Value) (base : Heap) (CX : CXT) (k : Nat) (x : Str) (ps : List Str) (sp : Sp) : Prop :=
  ∃ (f : Addr) (fd : FuncData), mg x = some (.ref f) ∧ PySem.W.keepIn K (.ref f) = true ∧ Binds K fd ps [] ∧ FnOk P w K mg base CX k f fd ps sp
theorem Ok.mono {CX : CXT} {j k : Nat} {x : Str} {ps : List Str} {sp : Sp} (o : Ok P w K mg base CX j x ps sp) (h : j ≤ k) : Ok P w K mg base CX k x ps sp := by
  obtain ⟨f, fd, a, b, c, d⟩ := o
  exact ⟨f, fd, a, b, c, d.mono h⟩
end
theorem zO {X : Cx} {CX : CXT} {k : Nat} {x : Str} {ps : List Str} {sp : Sp} {E : XK} {p pos : Pos} {e : Expr} {es : List Expr} {t : TA} (o : Ok X.prog X.w X.K X.mg X.base CX k x ps sp) (hr : Room k X.A) (hg : Gl X x) (hx : Passes CX X E) (ha : PA X (e :: es) t)
    (hdb : (x == ("__debug__" : Str)) = false := by decide) (he : starEach (e :: es) X.env = (false, eval e X.env) :: starEach es X.env := by rfl) (hpl : (backTo pos (starEach es X.env)).any (·.1) = false := by rfl) :
    PE X (.Call (.Name x p) (e :: es) [] pos) (tCall sp [] E t) := by
  obtain ⟨f, fd, a, b, c, d⟩ := o
  exact pe_call d hr hg a b c .nil hx ha hdb he hpl
end L2
namespace L2
open PySem PySem.Spec PyProof.Rows
theorem ints_of : ∀ {ns : List Int} {us : List Value}, Vals (ns.map V.int) us → IntsAre us ns
  | [], _, .nil => .nil
  | n :: ns, _, .cons ⟨t, e⟩ r => by subst e; exact .cons n t (ints_of r)
section
variable {X : Cx}
theorem op_fdivB : OpR X (binaryOp .FloorDiv) (rI (fun _ j => j ≠ 0 ∧ -18446744073709551616 < j ∧ j < 18446744073709551616) fun i j => .int (i.fdiv j)) := opI fun i j _ _ _ _ _ hc q => floordiv_int hc.1 q (.inl (PyProof.noPylong_of_log2 (by
  have h64 : j.natAbs < 2 ^ 65 := by omega
  have := (Nat.log2_lt (by omega : j.natAbs ≠ 0)).mpr h64
  omega)))
end
end L2
namespace L2
open PySem PySem.Spec PyProof.Rows
theorem pe_gint {X : Cx} {x : Str} {i : Int} {t : Tok} {pos : Pos} (hm : X.mg x = some (.int i t)) (hg : Gl X x := by rfl) (hd : (x == ("__debug__" : Str)) = false := by decide) : PE X (.Name x pos) (tC (.int i)) := pe_glob hg hm (v := .int i) ⟨_, rfl⟩ hd
theorem pe_gref {X : Cx} {x : Str} {a : Addr} {pos : Pos} (hm : X.mg x = some (.ref a)) (hg : Gl X x := by rfl) (hd : (x == ("__debug__" : Str)) = false := by decide) : PE X (.Name x pos) (tC (.ref a)) := pe_glob hg hm (v := .ref a) rfl hd
theorem pe_bty {X : Cx} {x : Str} {n : String} {pos : Pos} (hm : X.mg x = none) (hv : bootBuiltins x = some (.type n)) (hg : Gl X x := by rfl) (hn : x ≠ "__name__" := by decide) (hd : (x == ("__debug__" : Str)) = false := by decide) : PE X (.Name x pos) (tC (.ty n)) := pe_bltn hg hm hv (v := .ty n) rfl hn hd
end L2
namespace L2
open PySem PySem.Spec PyProof.Rows
abbrev Cx.comp (X : Cx) (scope : Scope) (cl : List (Str × Addr)) (NY : List Str) (s3 : Shared) (H3 : Hp) (fp : List Addr) : Cx :=
  { X with N := NY, s₀ := s3, H₀ := H3, env := compEnvC scope cl s3.heap.objs.size X.env, outer := X.stack, ex := fp, fn := fun _ => false, pn := [], xe := fun _ _ => False }
structure Sees (X : Cx) (scope : Scope) (cl : List (Str × Addr)) : Prop where
  kind : scope.kind = .function
  clos : closureFor scope X.env = pure cl
  nocell : ∀ y ∈ scope.names, y.2 ≠ .cell
  names : ∀ y ∈ scope.names, y.2 = .local → scope.names.lookup y.1 = some .local
  sub : ∀ x c, cl.lookup x = some c → X.env.cells.lookup x = some c
  has : ∀ x, ((compEnvC scope cl 0 X.env).kindOf x = some .cell ∨ (compEnvC scope cl 0 X.env).kindOf x = some .free) → ∃ c, cl.lookup x = some c
section
variable {X : Cx} {pins : List (Addr × Obj)} {σ : St} {H3 : Hp} {s3 : Shared} {scope : Scope} {cl : List (Str × Addr)} {NY : List Str} {fp : List Addr}
theorem comp_ok (I : Inv X pins σ H3 s3) (S : Sees X scope cl) (hfp : ∀ b ∈ fp, FpOk X pins H3 b) (hob : ∀ b ∈ fp, ∃ o, s3.heap.get? b = some o) : (X.comp scope cl NY s3 H3 fp).Ok where
  mod := I.ok.mod
  kind := S.kind
  glob := I.ok.glob
  blt := I.ok.blt
  above := Nat.le_refl _
  inj := fun x y c a b => I.ok.inj x y c (S.sub _ _ a) (S.sub _ _ b)
  has := fun x h => S.has x h
  cab := fun _ _ h => nomatch h
  hd := I.ok.hd
  frames := I.ok.frames
  stk := .inl rfl
  exf := fun b hb => ⟨fun z => by
    obtain ⟨o, q⟩ := hob b hb
    exact absurd (Heap.lt_size q) (by rw [z]; exact Nat.lt_irrefl _), fun x c q => (hfp b hb).2.2.2.2.1 x c (S.sub _ _ q)⟩
  bs := I.bs
  bsz := Nat.le_trans I.ok.bsz I.sz
  noex := fun b o q hb => by
    rcases (hfp b hb).2.2.2.1 with z | z
    · exact I.ok.noex b o q z
    · exact absurd (Nat.lt_of_lt_of_le (Heap.lt_size q) (Nat.le_trans I.ok.bsz z)) (Nat.lt_irrefl _)
  exfs := fun b hb z => by
    rcases List.mem_cons.mp (I.stkSub b z) with y | y
    · exact (hfp b hb).2.1 y
    · exact (hfp b hb).2.2.1 y
  funs := I.stack
  frf := I.stkFree
theorem comp_inv {h1 : Heap} {t : Nat} {σY : St} (I : Inv X pins σ H3 s3) (S : Sees X scope cl) (hfp : ∀ b ∈ fp, FpOk X pins H3 b) (hob : ∀ b ∈ fp, ∃ o, s3.heap.get? b = some o)
    (hn : h1.Ns s3.heap.objs.size fun _ => none) (hk : ∀ b o, s3.heap.get? b = some o → h1.get? b = some o) (hl : σY.length = NY.length)
    (hσ : ∀ (i : Nat) (x : Str) (v : V), NY[i]? = some x → σY[i]? = some (some v) → ∃ c u, (((compEnvC scope cl 0 X.env).kindOf x = some .cell ∨ (compEnvC scope cl 0 X.env).kindOf x = some .free)) ∧ cl.lookup x = some c ∧ RelV v u ∧ s3.heap.IsCell c (some u)) :
    Inv (X.comp scope cl NY s3 H3 fp) [] σY H3 { s3 with heap := h1, toks := t } where
  ok := comp_ok I S hfp hob
  os := rfl
  bare := I.bare
  base := Un.kept hk
  loc := ⟨_, hn, fun i x v e1 e2 _ => by
    obtain ⟨c, u, k, q, r, z⟩ := hσ i x v e1 e2
    obtain ⟨o, z1, z2⟩ := z
    exact ⟨u, r, .inr ⟨k, c, q, o, hk _ _ z1, z2⟩⟩⟩
  cell := fun x c q => by
    obtain ⟨v, o, z1, z2⟩ := I.cell x c (S.sub _ _ q)
    exact ⟨v, o, hk _ _ z1, z2⟩
  free := I.hok.fresh (Nat.le_refl _)
  freeC := fun x c q => I.freeC x c (S.sub _ _ q)
  pin := fun p hp => absurd hp (by simp)
  hok := I.hok.kept hk
  len := hl
theorem comp_back {Y : List (Addr × Obj)} {σY : St} {H' : Hp} {s' : Shared} {h' : Heap} (I : Inv X pins σ H3 s3) (hfp : ∀ b ∈ fp, FpOk X pins H3 b) (J : Inv (X.comp scope cl NY s3 H3 fp) Y σY H' s') (hs : Heap.SameBut s3.heap.objs.size s'.heap h') :
    Inv X pins σ H' { s' with heap := h' } := by
  have ne : ∀ b o, s3.heap.get? b = some o → b ≠ s3.heap.objs.size := fun b o q => Nat.ne_of_lt (Heap.lt_size q)
  have B := J.base
  refine I.call' (s' := { s' with heap := h' }) (ch := fp) J.os ⟨fun b o q n hb hx => ?_, fun b o q n hb hx => ?_, B.free, fun b o q hx => ?_, B.tups, B.frzs, B.tbls⟩ (fun b o q => ?_) J.bare fun b hb => ?_
  · exact (hs.2 b (ne b o q)).trans (B.keep b o q n hb hx)
  · obtain ⟨sl, z⟩ := B.slot b o q n hb hx
    exact ⟨sl, (hs.2 b (ne b o q)).trans z⟩
  · obtain ⟨o', z⟩ := B.there b o q hx
    exact ⟨o', (hs.2 b (ne b o q)).trans z⟩
  · have hf : H' s3.heap.objs.size = none := J.free
    refine (J.hok b o q).stay (fun c v hc r => (hs.2 c ?_).trans r) (fun _ z => z) fun _ _ z => z
    rintro rfl
    rcases hc with z | z
    · rw [← z, hf] at q; cases q
    · rw [hf] at z; cases z
  · obtain ⟨_, f2, _, f4, f5, f6⟩ := hfp b hb
    exact ⟨f4, f2, f5, f6⟩
end
end L2
namespace L2
open PySem PySem.Spec PyProof.Rows
section
variable {prog : Program} {w : World} {A : Around} {R : Result → Shared → Prop} {s : Shared}
theorem comp_loop {elt target iter : Expr} {scope : Scope} {pos : Pos} {it acc : Value} {env : Env} (I : Nat → Shared → Prop)
    (turn : ∀ n s, I n s → wpAny (model prog w) A (pyNext it) (fun r s₁ => match r with
      | none => R (.ok .next) s₁
      | some v => wpAny (model prog w) A (letOwnedTupleGo target it v) (fun _ s₂ => wpAny (model prog w) A (assign target env v) (fun _ s₃ => wpAny (model prog w) A (eval elt env) (fun x s₄ =>
          wpAny (model prog w) A (call (.builtin "list.append") [acc, x]) (fun _ s₅ => ∃ m, m < n ∧ I m s₅) (fun _ _ => False) s₄) (fun _ _ => False) s₃) (fun _ _ => False) s₂) (fun _ _ => False) s₁) (fun _ _ => False) s)
    (n : Nat) (h : I n s) : codeAny (model prog w) A (.compLoop (.ListComp elt [⟨target, iter, [], 0⟩] scope pos) 0 it acc env) R s := by
  refine codeAny_loop rfl I (fun n s hI => ?_) n h
  show wpAny _ _ ((compTurn (.ListComp elt [⟨target, iter, [], 0⟩] scope pos) 0 it acc env).onRaise (fun x => do noteFrame x env; theTreesLotGoes x)) _ _ s
  refine wpAny_noted ?_
  rw [compTurn_list1]
  refine wpAny_bind (wpAny_standAt (wpAny_bind (wpAny_mono (turn n s hI) (fun r s₁ h₁ => ?_) fun _ _ z => z.elim)))
  cases r with
  | none => exact wpAny_pure h₁
  | some v =>
    refine wpAny_bind (wpAny_mono h₁ (fun _ s₂ h₂ => ?_) fun _ _ z => z.elim)
    refine wpAny_bind (wpAny_mono h₂ (fun _ s₃ h₃ => ?_) fun _ _ z => z.elim)
    refine wpAny_bind (wpAny_bind (wpAny_mono h₃ (fun x s₄ h₄ => ?_) fun _ _ z => z.elim))
    exact wpAny_bind (wpAny_mono h₄ (fun _ s₅ h₅ => wpAny_pure (wpAny_pure ⟨rfl, h₅⟩)) fun _ _ z => z.elim)
end
def CompW (J : It) (g : TG) (te : TE) (σY : St) (H1 : Hp) (D : Addr) (Q : VK) : Prop := ∃ W : Nat → Nat → St → Hp → Prop, (∃ m, W 0 m σY H1) ∧ ∀ i m σ' H', W i m σ' H' →
  (J.stop i H' ∧ Q (.ref D) H') ∨ (J.go i H' ∧ ∃ N : St → Hp → Prop, (∀ σ2 H2, N σ2 H2 → ∃ m', m' < m ∧ W (i + 1) m' σ2 H2) ∧
    ∀ x H2, J.yld i H' x H2 → g x σ' H2 fun σ3 H3 => te σ3 H3 fun v H4 => ∃ xs, H4 D = some (.lst xs) ∧ xs.length < sizeLine ∧ N σ3 (upd H4 D (.lst (xs ++ [v]))))
def tComp (wi : TI) (g : TG) (te : TE) (σ0 : St → Hp → St → Prop) : TE := fun σ H Q => wi σ H fun J H1 => ∃ σY, σ0 σ H1 σY ∧ ∀ D, H1 D = none → CompW J g te σY (upd H1 D (.lst [])) D Q
section
variable {X : Cx} {tg : Expr}
structure CompEnd (X : Cx) (pins : List (Addr × Obj)) (σ : St) (H5 : Hp) (s6 : Shared) (C : Addr) : Prop where
  ns : ∃ m, s6.heap.Ns C m
  hn : H5 C = none
  hL : C ≠ X.env.locals
  h1 : X.s₀.heap.objs.size ≤ C
  h2 : ∀ x c, X.env.cells.lookup x = some c → c ≠ C
  h3 : ∀ p ∈ X.pn ++ pins, p.1 ≠ C
  inv : ∀ h', Heap.SameBut C s6.heap h' → Inv X pins σ H5 { s6 with heap := h' }
theorem comp_core {iter elt : Expr} {scope : Scope} {pos pos' : Pos} {cl : List (Str × Addr)} {NY : List Str} {wi : TI} {g : TG} {te : TE} {σ0 : St → Hp → St → Prop} (hc : X.calm = true) (S : Sees X scope cl) (hi : PI X tg iter wi)
    (hY : ∀ (s3 : Shared) (H3 : Hp) (fp : List Addr), PG (X.comp scope cl NY s3 H3 fp) tg g ∧ PE (X.comp scope cl NY s3 H3 fp) elt te)
    (h0 : ∀ (pins : List (Addr × Obj)) (σ : St) (H : Hp) (s3 : Shared) (σY : St), Inv X pins σ H s3 → σ0 σ H σY → σY.length = NY.length ∧ ∀ (i : Nat) (x : Str) (v : V), NY[i]? = some x → σY[i]? = some (some v) →
      ∃ c u, (((compEnvC scope cl 0 X.env).kindOf x = some .cell ∨ (compEnvC scope cl 0 X.env).kindOf x = some .free)) ∧ cl.lookup x = some c ∧ RelV v u ∧ s3.heap.IsCell c (some u))
    (hs : ∀ x, foldedSetIterable iter X.env x = pure x) {use : Option (Value → Sem Unit)} {R : Value → Shared → Prop} {pins : List (Addr × Obj)} {s : Shared} {σ : St} {H : Hp} {Q : VK} (I : Inv X pins σ H s) (h : tComp wi g te σ0 σ H Q)
    (fin : ∀ (C D : Addr) (H5 : Hp) (s6 : Shared), CompEnd X pins σ H5 s6 C → Q (.ref D) H5 → compPost (model X.prog X.w) X.A X.xe use R (.ref D) C (.ok .next) s6) :
    wpAny (model X.prog X.w) X.A (comprehension (.ListComp elt [⟨tg, iter, [], 0⟩] scope pos) scope X.env pos' (newList []) (firstAsync [⟨tg, iter, [], 0⟩]) (firstIter [⟨tg, iter, [], 0⟩] X.env) use) R X.xe s := by
  refine wpAny_comprehension_free rfl hs S.clos S.kind S.names (thn (hi pins s σ H _ I h) fun v s1 h1 => thn h1 fun itv s2 h2 => ?_)
  obtain ⟨it, fp, tn, J, H2, e, I2, T, st2, f2, σY, hσ, hW⟩ := h2
  subst e
  refine wpAny_newObj_type ?_
  have I3 : Inv X pins σ (upd H2 s2.heap.objs.size (.lst [])) { s2 with heap := s2.heap.push { cls := .type "list", data := .seq ([] : List Value).toArray } } := I2.lnew (t' := s2.toks) (its := []) .nil (Nat.zero_le _)
  obtain ⟨W, ⟨m0, w0⟩, turn⟩ := hW s2.heap.objs.size (I2.hok.fresh (Nat.le_refl _))
  have ob2 := T.obj _ _ st2
  have hfp : ∀ b ∈ fp, FpOk X pins (upd H2 s2.heap.objs.size (.lst [])) b := fun b hb => by
    obtain ⟨o, q, _⟩ := ob2 b hb
    exact ⟨by rw [zj (Nat.ne_of_lt (Heap.lt_size q))]; exact (f2 b hb).1, (f2 b hb).2⟩
  have hob : ∀ b ∈ fp, ∃ o, (s2.heap.push { cls := .type "list", data := .seq ([] : List Value).toArray }).get? b = some o := fun b hb => by
    obtain ⟨o, q, _⟩ := ob2 b hb
    exact ⟨o, Heap.get?_push_of_some _ q⟩
  refine wpAny_newFunctionEnv S.nocell (fun y hy => absurd hy (by simp)) (fun h1 hn1 hs1 => ?_) S.kind
  obtain ⟨hl, hY0⟩ := h0 pins σ H2 s2 σY I2 hσ
  have k23 : ∀ b o, s2.heap.get? b = some o → (s2.heap.push { cls := .type "list", data := .seq ([] : List Value).toArray }).get? b = some o := fun b o q => Heap.get?_push_of_some _ q
  have k34 : ∀ b o, (s2.heap.push { cls := .type "list", data := .seq ([] : List Value).toArray }).get? b = some o → h1.get? b = some o := fun b o q => (hs1.2 b (Nat.ne_of_lt (Heap.lt_size q))).trans (Heap.get?_push_of_some _ q)
  have I4 := comp_inv (scope := scope) (cl := cl) (NY := NY) (fp := fp) (h1 := h1) (t := s2.toks) (σY := σY) I3 S hfp hob hn1 k34 hl fun i x v e1 e2 => by
    obtain ⟨c, u, k, q, r, o, z1, z2⟩ := hY0 i x v e1 e2
    exact ⟨c, u, k, q, r, o, k23 _ _ z1, z2⟩
  have st4 : tn 0 h1 := T.keep _ _ _ st2 fun b hb o q => k34 _ _ (k23 _ _ q)
  have fr4 : ∀ b ∈ fp, (upd H2 s2.heap.objs.size (.lst [])) b = none := fun b hb => (hfp b hb).1
  obtain ⟨hg, he⟩ := hY { s2 with heap := s2.heap.push { cls := .type "list", data := .seq ([] : List Value).toArray } } (upd H2 s2.heap.objs.size (.lst [])) fp
  have okY := I4.ok
  have statY : ∀ {H' : Hp}, (∀ b ∈ fp, H' b = none) → ∀ b ∈ fp, FpOk (X.comp scope cl NY { s2 with heap := s2.heap.push { cls := .type "list", data := .seq ([] : List Value).toArray } } (upd H2 s2.heap.objs.size (.lst [])) fp) [] H' b :=
    fun hn b hb => ⟨hn b hb, (okY.exf b hb).1, okY.exfs b hb, .inl hb, (okY.exf b hb).2, fun p hp => absurd hp (by simp)⟩
  have loop : codeAny (model X.prog X.w) X.A (.compLoop (.ListComp elt [⟨tg, iter, [], 0⟩] scope pos) 0 (.ref it) (.ref s2.heap.objs.size) (compEnvC scope cl (s2.heap.push { cls := .type "list", data := .seq ([] : List Value).toArray }).objs.size X.env))
      (compPost (model X.prog X.w) X.A X.xe use R (.ref s2.heap.objs.size) (s2.heap.push { cls := .type "list", data := .seq ([] : List Value).toArray }).objs.size) { s2 with heap := h1, toks := s2.toks } := by
    refine comp_loop (fun n s' => ∃ i σ' H', Inv (X.comp scope cl NY { s2 with heap := s2.heap.push { cls := .type "list", data := .seq ([] : List Value).toArray } } (upd H2 s2.heap.objs.size (.lst [])) fp) [] σ' H' s' ∧ tn i s'.heap ∧ (∀ b ∈ fp, H' b = none) ∧ W i n σ' H') ?_ m0 ⟨0, σY, _, I4, st4, fr4, w0⟩
    rintro n s5 ⟨i, σ5, H5, I5, st5, fr5, w5⟩
    rcases turn i n σ5 H5 w5 with ⟨stop, q⟩ | ⟨go, N, hN, step⟩
    · refine thn (T.done (X.comp scope cl NY { s2 with heap := s2.heap.push { cls := .type "list", data := .seq ([] : List Value).toArray } } (upd H2 s2.heap.objs.size (.lst [])) fp) rfl rfl rfl hc i [] s5 σ5 H5 _ I5 (statY fr5) st5 stop) fun r s6 ⟨hr, I6⟩ => ?_
      subst hr
      obtain ⟨m, hm, _⟩ := I6.loc
      refine fin _ _ H5 s6 ⟨⟨m, hm⟩, I6.free, Ne.symm (Nat.ne_of_lt I3.lt), I3.sz, fun x c z => ?_, fun p hp => ?_, fun h' hs' => comp_back I3 hfp I6 hs'⟩ q
      · obtain ⟨_, o, z1, _⟩ := I3.cell x c z
        exact Nat.ne_of_lt (Heap.lt_size z1)
      · exact Nat.ne_of_lt (Heap.lt_size (I3.pin p hp).1)
    · refine thn (T.item (X.comp scope cl NY { s2 with heap := s2.heap.push { cls := .type "list", data := .seq ([] : List Value).toArray } } (upd H2 s2.heap.objs.size (.lst [])) fp) rfl rfl rfl hc i [] s5 σ5 H5 _ I5 (statY fr5) st5 go) fun r s6 ⟨u, hr, h6⟩ => ?_
      subst hr
      refine thn h6 fun _ s7 ⟨x, H7, I7, r7, y7, st7, fr7⟩ => ?_
      have I7' := I7.pinned (statY fr7) (T.obj _ _ st7)
      refine thn (hg _ s7 σ5 H7 x u _ I7' r7 (step x H7 y7)) fun _ s8 ⟨σ8, H8, I8, q8⟩ => ?_
      refine thn (he _ s8 σ8 H8 _ I8 q8) fun z s9 ⟨v9, H9, I9, r9, xs, hx9, hz9, n9⟩ => ?_
      refine thn (xa _ s9 σ8 H9 (.ref s2.heap.objs.size) [v9] (.ref s2.heap.objs.size) [z] (fun _ H' => H' = upd H9 s2.heap.objs.size (.lst (xs ++ [v9]))) I9 rfl (.cons r9 .nil) ⟨s2.heap.objs.size, xs, v9, rfl, rfl, hx9, hz9, rfl⟩) fun y s10 ⟨v10, H10, I10, _, e10⟩ => ?_
      subst e10
      obtain ⟨m', hm, w10⟩ := hN _ _ n9
      refine ⟨m', hm, i + 1, σ8, _, I10.unpinned, T.keep _ _ _ st7 fun b hb o q => (I10.pin (b, o) (List.mem_append_right _ (List.mem_append_right _ (yC hb q)))).1, fun b hb => ?_, w10⟩
      obtain ⟨o, q, d⟩ := T.obj _ _ st7 b hb
      exact (I10.pin (b, o) (List.mem_append_right _ (List.mem_append_right _ (yC hb q)))).2.1
  exact codeAny_compStart_list loop (T.self _ 0 _ _ _ st4 loop)
theorem pe_comp {iter elt : Expr} {scope : Scope} {pos : Pos} {cl : List (Str × Addr)} {NY : List Str} {wi : TI} {g : TG} {te : TE} {σ0 : St → Hp → St → Prop} (hc : X.calm = true) (S : Sees X scope cl) (hi : PI X tg iter wi)
    (hY : ∀ (s3 : Shared) (H3 : Hp) (fp : List Addr), PG (X.comp scope cl NY s3 H3 fp) tg g ∧ PE (X.comp scope cl NY s3 H3 fp) elt te)
    (h0 : ∀ (pins : List (Addr × Obj)) (σ : St) (H : Hp) (s3 : Shared) (σY : St), Inv X pins σ H s3 → σ0 σ H σY → σY.length = NY.length ∧ ∀ (i : Nat) (x : Str) (v : V), NY[i]? = some x → σY[i]? = some (some v) →
      ∃ c u, (((compEnvC scope cl 0 X.env).kindOf x = some .cell ∨ (compEnvC scope cl 0 X.env).kindOf x = some .free)) ∧ cl.lookup x = some c ∧ RelV v u ∧ s3.heap.IsCell c (some u))
    (hs : ∀ x, foldedSetIterable iter X.env x = pure x := by intro _; rfl) :
    PE X (.ListComp elt [⟨tg, iter, [], 0⟩] scope pos) (tComp wi g te σ0) := by
  intro pins s σ H Q I h
  rw [eval_ListComp]
  refine comp_core (use := none) hc S hi hY h0 hs I h fun C D H5 s6 e q => ?_
  obtain ⟨m, hm⟩ := e.ns
  exact ⟨m, hm, fun h' hs' => ⟨.ref D, H5, e.inv h' hs', rfl, q⟩⟩
theorem ps_comp {iter elt : Expr} {scope : Scope} {pos pos' spos : Pos} {cl : List (Str × Addr)} {NY : List Str} {wi : TI} {g : TG} {te : TE} {σ0 : St → Hp → St → Prop} {i : Nat} {y : Str} (hc : X.calm = true) (S : ∀ {pins σ H s}, Inv X pins σ H s → Sees X scope cl) (hi : PI X tg iter wi)
    (hY : ∀ (s3 : Shared) (H3 : Hp) (fp : List Addr), PG (X.comp scope cl NY s3 H3 fp) tg g ∧ PE (X.comp scope cl NY s3 H3 fp) elt te)
    (h0 : ∀ (pins : List (Addr × Obj)) (σ : St) (H : Hp) (s3 : Shared) (σY : St), Inv X pins σ H s3 → σ0 σ H σY → σY.length = NY.length ∧ ∀ (i : Nat) (x : Str) (v : V), NY[i]? = some x → σY[i]? = some (some v) →
      ∃ c u, (((compEnvC scope cl 0 X.env).kindOf x = some .cell ∨ (compEnvC scope cl 0 X.env).kindOf x = some .free)) ∧ cl.lookup x = some c ∧ RelV v u ∧ s3.heap.IsCell c (some u))
    (hs : ∀ x, foldedSetIterable iter X.env x = pure x) (hN : X.N.Nodup) (hi' : X.N[i]? = some y) (hx : Loc X.env.scope y) (hf : X.fn y = true ∨ X.env.scope.names.lookup y = some .local)
    (hw : swapsWith (.ListComp elt [⟨tg, iter, [], 0⟩] scope pos) (some (.Name y pos')) spos.line X.env = pure true) : PS X (.Assign [.Name y pos'] (.ListComp elt [⟨tg, iter, [], 0⟩] scope pos) spos) (tAsg (tComp wi g te σ0) (gName i)) := by
  intro pins s σ H D I h
  rw [exec_Assign_Name_used _ _ _ _ hw, arm_evalThenUse_ListComp]
  refine wpAny_bind (wpAny_standAt (wpAny_bind (wpAny_bind (wpAny_mono (comp_core (use := some (assign (.Name y pos') X.env)) (R := fun _ s' => SP X pins D .next s') hc (S I) hi hY h0 hs I h fun C L H5 s6 e q => ?_) (fun _ s' z => wpAny_pure (wpAny_pure z)) fun _ _ z => z))))
  obtain ⟨m, hm⟩ := e.ns
  have I6 : Inv X pins σ H5 s6 := e.inv s6.heap ⟨rfl, fun _ _ => rfl⟩
  refine wpAny_assign_Name (store_ok2 I6 hN hi' hx (v := .ref L) rfl (fun s' I' ⟨a, sb, ha⟩ => ?_) hf)
  have ne : C ≠ a := by
    rintro rfl
    rcases ha with z | z
    · exact e.hL z
    · exact e.h2 _ _ z rfl
  refine ⟨m, ?_, fun h' hs' => ?_⟩
  · obtain ⟨o, es, ep, z, r⟩ := hm
    exact ⟨o, es, ep, (sb.2 _ ne).trans z, r⟩
  · exact ⟨_, H5, I'.turned (t' := s'.toks) (it := C) (fun b o nb z => (hs'.2 b nb).trans z) e.hn e.hL (.inr e.h1) e.h2 e.h3, q⟩
end
end L2
namespace L2
open PySem PySem.Spec PyProof.Rows
theorem comp_list {K : PySem.W.Frag} {a D : Addr} {xs : List V} {g : TG} {te : TE} {σY : St} {H1 : Hp} {Q : VK} (Pv : Nat → St → Hp → Prop) (h0 : Pv 0 σY H1) (hl : ∀ i σ H, i ≤ xs.length → Pv i σ H → SqL K H a xs)
    (hs : ∀ i x σ H, xs[i]? = some x → Pv i σ H → g x σ H fun σ3 H3 => te σ3 H3 fun v H4 => ∃ ys, H4 D = some (.lst ys) ∧ ys.length < sizeLine ∧ Pv (i + 1) σ3 (upd H4 D (.lst (ys ++ [v])))) (hd : ∀ σ H, Pv xs.length σ H → Q (.ref D) H) :
    CompW (Itl K a) g te σY H1 D Q := by
  refine ⟨fun i m σ H => m = xs.length - i ∧ i ≤ xs.length ∧ Pv i σ H, ⟨xs.length, by simp, Nat.zero_le _, h0⟩, ?_⟩
  rintro i m σ H ⟨rfl, hi, p⟩
  have q := hl i σ H hi p
  by_cases hlt : i < xs.length
  · refine .inr ⟨⟨xs, xs[i], q, by simp [hlt]⟩, Pv (i + 1), fun σ' H' p' => ⟨xs.length - (i + 1), by omega, rfl, hlt, p'⟩, fun x H' y => ?_⟩
    obtain ⟨e, y⟩ := y
    subst e
    exact hs i x σ _ (y xs q) p
  · have e : i = xs.length := by omega
    subst e
    exact .inl ⟨⟨xs, q, Nat.le_refl _⟩, hd σ H p⟩
theorem yN {lo : Int} {n : Nat} {D : Addr} {g : TG} {te : TE} {σY : St} {H1 : Hp} {Q : VK} (Pv : Nat → St → Hp → Prop) (h0 : Pv 0 σY H1)
    (hs : ∀ i σ H, i < n → Pv i σ H → g (.int (lo + i)) σ H fun σ3 H3 => te σ3 H3 fun v H4 => ∃ ys, H4 D = some (.lst ys) ∧ ys.length < sizeLine ∧ Pv (i + 1) σ3 (upd H4 D (.lst (ys ++ [v])))) (hd : ∀ σ H, Pv n σ H → Q (.ref D) H) :
    CompW (Itr lo n) g te σY H1 D Q := by
  refine ⟨fun i m σ H => m = n - i ∧ i ≤ n ∧ Pv i σ H, ⟨n, by simp, Nat.zero_le _, h0⟩, ?_⟩
  rintro i m σ H ⟨rfl, hi, p⟩
  by_cases hlt : i < n
  · refine .inr ⟨hlt, Pv (i + 1), fun σ' H' p' => ⟨n - (i + 1), by omega, rfl, hlt, p'⟩, fun x H' y => ?_⟩
    obtain ⟨e, y⟩ := y
    subst e y
    exact hs i σ _ hlt p
  · have e : i = n := by omega
    subst e
    exact .inl ⟨Nat.le_refl _, hd σ H p⟩
end L2
namespace L2
open PySem PySem.Spec PyProof.Rows
def clGo (env : Env) : List (Str × NameKind) → List (Str × Addr) → List (Str × Addr)
  | [], cs => cs
  | y :: r, cs => clGo env r (if y.2 == .free then (y.1, (env.cells.lookup y.1).getD 0) :: cs else cs)
abbrev clOf (env : Env) (scope : Scope) : List (Str × Addr) := clGo env scope.names []
theorem closure_of {scope : Scope} {env : Env} (h : ∀ y ∈ scope.names, y.2 = .free → ∃ c, env.cells.lookup y.1 = some c) : closureFor scope env = pure (clOf env scope) := by
  rw [closureFor.eq_1]
  suffices q : ∀ (names : List (Str × NameKind)) (cs : List (Str × Addr)), (∀ y ∈ names, y.2 = .free → ∃ c, env.cells.lookup y.1 = some c) →
      (do
        let s ← forIn names cs fun x __s =>
          have cs := __s
          match x with
          | (name, kind) =>
            if (kind == NameKind.free) = true then do
              let l ← cellOf env name
              have cs : List (Str × Addr) := (name, l) :: cs
              pure (ForInStep.yield cs)
            else pure (ForInStep.yield cs)
        pure s : Sem (List (Str × Addr))) = pure (clGo env names cs) from (congrArg (fun (m : Sem (List (Str × Addr))) => m >>= fun s => (pure s : Sem (List (Str × Addr)))) (q scope.names [] h)).trans rfl
  intro names
  induction names with
  | nil => intro cs _; rfl
  | cons y r ih =>
    intro cs h
    obtain ⟨n, k⟩ := y
    have hr := fun y hy => h y (List.mem_cons_of_mem _ hy)
    rw [List.forIn_cons]
    show _ = pure (clGo env r (if k == .free then (n, (env.cells.lookup n).getD 0) :: cs else cs))
    by_cases e : k = .free
    · subst e
      obtain ⟨c, hc⟩ := h (n, .free) List.mem_cons_self rfl
      have e1 : cellOf env n = pure c := by unfold cellOf; rw [show env.cells.lookup n = some c from hc]
      simp only [e1, show env.cells.lookup n = some c from hc, Option.getD_some, beq_self_eq_true, if_true]
      exact ih _ hr
    · have e0 : (k == NameKind.free) = false := by simp [e]
      simp only [e0, Bool.false_eq_true, if_false]
      exact ih _ hr
theorem clGo_sub {env : Env} {x : Str} {c : Addr} : ∀ {names : List (Str × NameKind)} {cs : List (Str × Addr)}, (∀ y ∈ names, y.2 = .free → ∃ c, env.cells.lookup y.1 = some c) → (∀ x c, cs.lookup x = some c → env.cells.lookup x = some c) → (clGo env names cs).lookup x = some c → env.cells.lookup x = some c
  | [], cs, _, hc, h => hc _ _ h
  | (n, k) :: r, cs, hn, hc, h => by
    refine clGo_sub (fun y hy => hn y (List.mem_cons_of_mem _ hy)) (fun x c q => ?_) h
    by_cases e : k = .free
    · subst e
      obtain ⟨c', hc'⟩ := hn (n, .free) List.mem_cons_self rfl
      simp only [beq_self_eq_true, if_true, show env.cells.lookup n = some c' from hc', Option.getD_some, List.lookup_cons] at q
      by_cases z : x = n
      · subst z; simp at q; rw [← q]; exact hc'
      · have z' : (x == n) = false := by simp [z]
        rw [z'] at q
        exact hc _ _ q
    · have e0 : (k == NameKind.free) = false := by simp [e]
      rw [e0] at q
      exact hc _ _ q
theorem clGo_keep {env : Env} {x : Str} : ∀ {names : List (Str × NameKind)} {cs : List (Str × Addr)}, (∃ c, cs.lookup x = some c) → ∃ c, (clGo env names cs).lookup x = some c
  | [], _, h => h
  | (n, k) :: r, cs, h => by
    refine clGo_keep (names := r) ?_
    by_cases e : (k == NameKind.free) = true
    · simp only [e, if_true, List.lookup_cons]
      cases hx : x == n with
      | true => exact ⟨_, rfl⟩
      | false => exact h
    · simp only [e, if_false]; exact h
theorem clGo_has {env : Env} {x : Str} : ∀ {names : List (Str × NameKind)} {cs : List (Str × Addr)}, (x, NameKind.free) ∈ names → ∃ c, (clGo env names cs).lookup x = some c
  | (n, k) :: r, cs, h => by
    rcases List.mem_cons.mp h with e | e
    · cases e
      refine clGo_keep (names := r) ⟨(env.cells.lookup x).getD 0, ?_⟩
      simp
    · show ∃ c, (clGo env r _).lookup x = some c
      exact clGo_has e
def seesOk (X : Cx) (scope : Scope) : Bool :=
  (match scope.kind with | .function => true | _ => false) && scope.names.all fun y => match y.2 with
    | .cell => false
    | .free => (match X.env.kindOf y.1 with | some .cell => true | some .free => true | _ => false)
    | .local => (match scope.names.lookup y.1 with | some .local => true | _ => false)
    | _ => true
theorem sees_of {X : Cx} {scope : Scope} (ok : X.Ok) (h : seesOk X scope = true) : Sees X scope (clOf X.env scope) := by
  unfold seesOk at h
  rw [Bool.and_eq_true, List.all_eq_true] at h
  obtain ⟨hk, hn⟩ := h
  have fr : ∀ y ∈ scope.names, y.2 = .free → ∃ c, X.env.cells.lookup y.1 = some c := fun y hy e => by
    have q := hn y hy
    rw [e] at q
    refine ok.has y.1 ?_
    revert q
    dsimp only
    split
    · rename_i z; intro _; exact .inl z
    · rename_i z; intro _; exact .inr z
    · intro q; cases q
  refine ⟨?_, closure_of fr, fun y hy e => ?_, fun y hy e => ?_, fun x c q => clGo_sub fr (fun _ _ z => by cases z) q, fun x q => ?_⟩
  · revert hk
    cases scope.kind <;> simp
  · have q := hn y hy
    rw [e] at q
    exact Bool.false_ne_true q
  · have q := hn y hy
    rw [e] at q
    revert q
    dsimp only
    split
    · rename_i z; intro _; exact z
    · intro q; cases q
  · have key : ∀ k, (compEnvC scope (clOf X.env scope) 0 X.env).kindOf x = some k → (k = .cell ∨ k = .free) → (x, NameKind.free) ∈ scope.names := by
      intro k hk' hkk
      have q : ((scope.names.map fun y => match y with | (n, k) => if (k == NameKind.free && X.env.scope.kind == ScopeKind.function && X.env.kindOf n == some NameKind.cell) = true then (n, NameKind.cell) else (n, k))).lookup x = some k := hk'
      obtain ⟨n, k', e1, e2⟩ : ∃ n k', (n, k') ∈ scope.names ∧ (match (n, k') with | (n, k) => if (k == NameKind.free && X.env.scope.kind == ScopeKind.function && X.env.kindOf n == some NameKind.cell) = true then (n, NameKind.cell) else (n, k)) = (x, k) := by
        have m : (x, k) ∈ (scope.names.map fun y => match y with | (n, k) => if (k == NameKind.free && X.env.scope.kind == ScopeKind.function && X.env.kindOf n == some NameKind.cell) = true then (n, NameKind.cell) else (n, k)) := by
          revert q
          generalize (scope.names.map fun y => match y with | (n, k) => if (k == NameKind.free && X.env.scope.kind == ScopeKind.function && X.env.kindOf n == some NameKind.cell) = true then (n, NameKind.cell) else (n, k)) = l
          induction l with
          | nil => intro q; cases q
          | cons a l ih =>
            intro q
            obtain ⟨a1, a2⟩ := a
            rw [List.lookup_cons] at q
            cases hx : x == a1 with
            | true => rw [hx] at q; cases q; have := beq_iff_eq.mp hx; subst this; exact List.mem_cons_self
            | false => rw [hx] at q; exact List.mem_cons_of_mem _ (ih q)
        obtain ⟨⟨n, k'⟩, h1, h2⟩ := List.mem_map.mp m
        exact ⟨n, k', h1, h2⟩
      dsimp only at e2
      split at e2
      · rename_i z
        cases e2
        simp only [Bool.and_eq_true, beq_iff_eq] at z
        rw [z.1.1] at e1
        exact e1
      · cases e2
        rcases hkk with rfl | rfl
        · have z := hn _ e1
          exact absurd z Bool.false_ne_true
        · exact e1
    rcases q with q | q
    · exact clGo_has (key _ q (.inl rfl))
    · exact clGo_has (key _ q (.inr rfl))
def capOk (X : Cx) (scope : Scope) : List Str → List (Option Nat) → Bool
  | [], [] => true
  | _ :: r, none :: c => capOk X scope r c
  | x :: r, some j :: c => (match X.N[j]? with | some y => x == y | none => false) && (match (compEnvC scope (clOf X.env scope) 0 X.env).kindOf x with | some .cell => true | some .free => true | _ => false)
      && (match X.env.kindOf x with | some .cell => true | some .free => true | _ => false) && capOk X scope r c
  | _, _ => false
def capt (cap : List (Option Nat)) (σ : St) : St := cap.map fun o => o.bind fun j => (σ[j]?).join
theorem capt_ok {X : Cx} {scope : Scope} {pins : List (Addr × Obj)} {σ : St} {H : Hp} {s : Shared} (I : Inv X pins σ H s) (S : Sees X scope (clOf X.env scope)) : ∀ {NY : List Str} {cap : List (Option Nat)}, capOk X scope NY cap = true → (capt cap σ).length = NY.length ∧ ∀ (i : Nat) (x : Str) (v : V), NY[i]? = some x → (capt cap σ)[i]? = some (some v) →
      ∃ c u, (((compEnvC scope (clOf X.env scope) 0 X.env).kindOf x = some .cell ∨ (compEnvC scope (clOf X.env scope) 0 X.env).kindOf x = some .free)) ∧ (clOf X.env scope).lookup x = some c ∧ RelV v u ∧ s.heap.IsCell c (some u)
  | [], [], _ => ⟨rfl, fun i x v e _ => by cases e⟩
  | [], _ :: _, h => by cases h
  | y :: r, [], h => by cases h
  | y :: r, none :: c, h => by
    obtain ⟨l, q⟩ := capt_ok I S (NY := r) (cap := c) h
    refine ⟨by rw [List.length_cons, ← l]; rfl, fun i x v e1 e2 => ?_⟩
    cases i with
    | zero => cases e2
    | succ i => exact q i x v e1 e2
  | y :: r, some j :: c, h => by
    unfold capOk at h
    rw [Bool.and_eq_true, Bool.and_eq_true, Bool.and_eq_true] at h
    obtain ⟨⟨⟨h1, h2⟩, h3⟩, h4⟩ := h
    obtain ⟨l, q⟩ := capt_ok I S (NY := r) (cap := c) h4
    refine ⟨by rw [List.length_cons, ← l]; rfl, fun i x v e1 e2 => ?_⟩
    cases i with
    | succ i => exact q i x v e1 e2
    | zero =>
      have ey : y = x := Option.some.inj e1
      subst ey
      have ev : (σ[j]?).join = some v := Option.some.inj e2
      have hσ : σ[j]? = some (some v) := by
        cases z : σ[j]? with
        | none => rw [z] at ev; cases ev
        | some o => rw [z] at ev; rw [show o = some v from ev]
      have hN : X.N[j]? = some y := by
        cases z : X.N[j]? with
        | none => rw [z] at h1; cases h1
        | some y' => rw [z] at h1; rw [beq_iff_eq.mp h1]
      have hK : (compEnvC scope (clOf X.env scope) 0 X.env).kindOf y = some .cell ∨ (compEnvC scope (clOf X.env scope) 0 X.env).kindOf y = some .free := by
        revert h2
        split
        · rename_i z; intro _; exact .inl z
        · rename_i z; intro _; exact .inr z
        · intro q; cases q
      have hV : X.env.kindOf y = some .cell ∨ X.env.kindOf y = some .free := by
        revert h3
        split
        · rename_i z; intro _; exact .inl z
        · rename_i z; intro _; exact .inr z
        · intro q; cases q
      obtain ⟨c', hc'⟩ := S.has y hK
      obtain ⟨m, _, hl⟩ := I.loc
      obtain ⟨u, ru, lk⟩ := hl j y v hN hσ (.inr hV)
      refine ⟨c', u, hK, hc', ru, ?_⟩
      rcases lk with ⟨k, _⟩ | ⟨_, c2, e3, e4⟩
      · have k' : X.env.kindOf y = some .local := k
        rcases hV with z | z <;> rw [z] at k' <;> cases k'
      · have e5 := S.sub _ _ hc'
        rw [e3] at e5
        cases e5
        exact e4
abbrev tCompC (wi : TI) (g : TG) (te : TE) (cap : List (Option Nat)) : TE := tComp wi g te fun σ _ σY => σY = capt cap σ
section
variable {X : Cx} {tg : Expr}
theorem y3 {iter elt : Expr} {scope : Scope} {pos : Pos} {wi : TI} {g : TG} {te : TE} (NY : List Str) (cap : List (Option Nat)) (hc : X.calm = true) (hk : seesOk X scope = true) (hcap : capOk X scope NY cap = true) (hi : PI X tg iter wi)
    (hY : ∀ (s3 : Shared) (H3 : Hp) (fp : List Addr), PG (X.comp scope (clOf X.env scope) NY s3 H3 fp) tg g ∧ PE (X.comp scope (clOf X.env scope) NY s3 H3 fp) elt te)
    (hs : ∀ x, foldedSetIterable iter X.env x = pure x := by intro _; rfl) : PE X (.ListComp elt [⟨tg, iter, [], 0⟩] scope pos) (tCompC wi g te cap) := by
  intro pins s σ H Q I h
  have S := sees_of I.ok hk
  refine pe_comp (NY := NY) hc S hi hY (fun pins σ H s3 σY I3 e => ?_) hs pins s σ H Q I h
  subst e
  exact capt_ok I3 S hcap
theorem ps_compC {iter elt : Expr} {scope : Scope} {pos pos' spos : Pos} {wi : TI} {g : TG} {te : TE} {i : Nat} {y : Str} (NY : List Str) (cap : List (Option Nat)) (hc : X.calm = true) (hk : seesOk X scope = true) (hcap : capOk X scope NY cap = true) (hi : PI X tg iter wi)
    (hY : ∀ (s3 : Shared) (H3 : Hp) (fp : List Addr), PG (X.comp scope (clOf X.env scope) NY s3 H3 fp) tg g ∧ PE (X.comp scope (clOf X.env scope) NY s3 H3 fp) elt te) (hN : X.N.Nodup) (hi' : X.N[i]? = some y) (hx : Loc X.env.scope y)
    (hf : X.fn y = true ∨ X.env.scope.names.lookup y = some .local := by first | exact .inl rfl | exact .inr rfl) (hw : swapsWith (.ListComp elt [⟨tg, iter, [], 0⟩] scope pos) (some (.Name y pos')) spos.line X.env = pure true := by rfl)
    (hs : ∀ x, foldedSetIterable iter X.env x = pure x := by intro _; rfl) : PS X (.Assign [.Name y pos'] (.ListComp elt [⟨tg, iter, [], 0⟩] scope pos) spos) (tAsg (tCompC wi g te cap) (gName i)) := by
  refine ps_comp (NY := NY) hc (fun I => sees_of I.ok hk) hi hY (fun pins σ H s3 σY I3 e => ?_) hs hN hi' hx hf hw
  subst e
  exact capt_ok I3 (sees_of I3.ok hk) hcap
end
end L2
namespace L2
open PySem PySem.Spec PyProof.Rows
section
variable {X : Cx}
def rLenS (K : PySem.W.Frag) : List V → Hp → VK → Prop := fun xs H Q => ∃ p ys, xs = [.ref p] ∧ (SqL K H p ys ∨ SqT K H p ys) ∧ Q (.int ys.length) H
theorem call_lenK {K : PySem.W.Frag} (e : X.K = K) : CallR X (.builtin "len") (rLenS K) := by subst e; exact ye
theorem ix_listK {K : PySem.W.Frag} (e : X.K = K) : IxR X (rIxL K) := by subst e; exact zB
end
theorem at_int {ns : List Int} {j : Int} (i : Nat) (h : i < ns.length) (e : j = i) : atI (ns.map V.int) j = some (.int (ns.getD i 0)) := by
  subst e
  refine zM ?_
  rw [List.getElem?_map, List.getElem?_eq_getElem h]
  simp [List.getD, h]
theorem getD_mem {ns : List Int} {i : Nat} (h : i < ns.length) : ns.getD i 0 ∈ ns := by
  rw [List.getD_eq_getElem?_getD, List.getElem?_eq_getElem h]
  exact List.getElem_mem h
theorem map_int_at {ns : List Int} {i : Nat} {x : V} (h : (ns.map V.int)[i]? = some x) : i < ns.length ∧ x = .int (ns.getD i 0) := by
  rw [List.getElem?_map] at h
  cases e : ns[i]? with
  | none => rw [e] at h; cases h
  | some n =>
    rw [e] at h
    refine ⟨(List.getElem?_eq_some_iff.mp e).1, ?_⟩
    rw [List.getD_eq_getElem?_getD, e]
    exact (Option.some.inj h).symm
end L2
namespace L2
open PySem PySem.Spec PyProof.Rows
section
variable {X : Cx} {pins : List (Addr × Obj)} {σ : St} {H : Hp} {s : Shared}
theorem Inv.keptL {h' : Heap} {t' : Nat} (I : Inv X pins σ H s) {m : Str → Option Value} (hl : ∀ (i : Nat) (x : Str) (v : V), X.N[i]? = some x → σ[i]? = some (some v) → Vis X.env.scope x → ∃ u, RelV v u ∧ Look X.env s.heap m x u)
    (k : ∀ b o, b ≠ X.env.locals → s.heap.get? b = some o → h'.get? b = some o) (hn : h'.Ns X.env.locals m) : Inv X pins σ H { s with heap := h', toks := t' } := by
  have B := I.base
  have ne0 : ∀ b o, X.s₀.heap.get? b = some o → b ≠ X.env.locals := fun b o q z => by
    have h1 : b < X.s₀.heap.objs.size := Heap.lt_size q
    have h2 : X.s₀.heap.objs.size ≤ X.env.locals := I.ok.above
    rw [z] at h1
    exact absurd (Nat.lt_of_lt_of_le h1 h2) (Nat.lt_irrefl _)
  refine ⟨I.ok, I.os, I.bare, ⟨fun b o q n hb hx => ?_, fun b o q n hb hx => ?_, B.free, fun b o q hx => ?_, B.tups, B.frzs, B.tbls⟩, ⟨m, hn, fun i x v e1 e2 vs => ?_⟩, fun x c q => ?_, I.free, I.freeC, fun p hp => ?_, fun b o q => ?_, I.len⟩
  · exact k _ _ (ne0 _ _ q) (B.keep b o q n hb hx)
  · obtain ⟨sl, z⟩ := B.slot b o q n hb hx
    exact ⟨sl, k _ _ (ne0 _ _ q) z⟩
  · obtain ⟨o', z⟩ := B.there b o q hx
    exact ⟨o', k _ _ (ne0 _ _ q) z⟩
  · obtain ⟨u, r, lk⟩ := hl i x v e1 e2 vs
    refine ⟨u, r, ?_⟩
    rcases lk with z | ⟨z1, c, z2, o, z3, z4⟩
    · exact .inl z
    · exact .inr ⟨z1, c, z2, o, k _ _ (I.cne _ _ z2) z3, z4⟩
  · obtain ⟨v, o, z1, z2⟩ := I.cell x c q
    exact ⟨v, o, k _ _ (I.cne _ _ q) z1, z2⟩
  · obtain ⟨z1, z2, z3, z4⟩ := I.pin p hp
    exact ⟨k _ _ z3 z1, z2, z3, z4⟩
  · refine (I.hok b o q).stay (fun c v hc r => k _ _ ?_ r) (fun _ z => z) fun _ _ z => z
    rintro rfl
    rcases hc with z | z
    · rw [← z, I.free] at q; cases q
    · rw [I.free] at z; cases z
theorem fr_all (I : Inv X pins σ H s) {m : Str → Option Value} (hm : s.heap.Ns X.env.locals m) : Fr X.base X.env.locals s.heap m := ⟨hm, I.bk, Nat.le_trans I.ok.bsz I.ok.above⟩
theorem kept_all {h' : Heap} {m : Str → Option Value} (F : Fr X.base X.env.locals h' m) (N : News X.base X.env.locals h' (allNews X.base s.heap X.env.locals)) (I : Inv X pins σ H s) : ∀ b o, b ≠ X.env.locals → s.heap.get? b = some o → h'.get? b = some o := fun b o n q => by
  cases e : X.base.get? b with
  | none => exact (N (b, o) (mem_allNews n e q)).1
  | some o' =>
    have z := I.bk b o' e
    rw [q] at z
    cases z
    exact F.keep b o e
end
section
variable {X : Cx}
def rSum (K : PySem.W.Frag) : List V → Hp → VK → Prop := fun xs H Q => ∃ (p : Addr) (ns : List Int), xs = [.ref p] ∧ SqL K H p (ns.map V.int) ∧ Q (.int ns.sum) H
theorem call_sum (hc : X.calm = true) : CallR X (.builtin "sum") (rSum X.K) := by
  intro pins s σ H xs us Q I r h
  obtain ⟨p, ns, rfl, hp, q⟩ := h
  obtain ⟨u, rfl, ru⟩ := r.one
  cases (show u = Value.ref p from ru)
  obtain ⟨its, rv, pl, _⟩ := I.list hp
  obtain ⟨m, hm, hl⟩ := I.loc
  exact LSm.sum_ints (fr_all I hm) news_all (I.ok.hd hc) pl.isList (ints_of rv) fun h' tk t' F N =>
    ⟨.int ns.sum, H, I.keptL hl (kept_all F N I) F.ns, ⟨_, rfl⟩, q⟩
end
end L2
namespace L2
open PySem PySem.Spec PyProof.Rows
mutual
inductive DV (K : PySem.W.Frag) (H : Hp) : V → PyData → Prop
  | non : DV K H .non .none
  | bl (b : Bool) : DV K H (.bl b) (.bool b)
  | int (i : Int) : DV K H (.int i) (.int i)
  | str (x : Str) : DV K H (.str x) (.str x)
  | lst {a : Addr} {xs : List V} {ds : List PyData} : SqL K H a xs → DVs K H xs ds → DV K H (.ref a) (.list ds)
  | tup {a : Addr} {xs : List V} {ds : List PyData} : SqT K H a xs → DVs K H xs ds → DV K H (.ref a) (.tuple ds)
inductive DVs (K : PySem.W.Frag) (H : Hp) : List V → List PyData → Prop
  | nil : DVs K H [] []
  | cons {v : V} {vs : List V} {d : PyData} {ds : List PyData} : DV K H v d → DVs K H vs ds → DVs K H (v :: vs) (d :: ds)
end
section
variable {X : Cx} {pins : List (Addr × Obj)} {σ : St} {H : Hp} {s : Shared}
mutual
theorem dv_reads (I : Inv X pins σ H s) : ∀ {v : V} {d : PyData} {u : Value}, DV X.K H v d → RelV v u → ∃ as, Reads s.heap u d as
  | _, _, u, .non, r => by cases (show u = Value.none from r); exact ⟨_, .none⟩
  | _, _, u, .bl b, r => by cases (show u = Value.bool b from r); exact ⟨_, .bool b⟩
  | _, _, u, .int i, r => by obtain ⟨t, rfl⟩ := (show ∃ t, u = Value.int i t from r); exact ⟨_, .int i t⟩
  | _, _, u, .str x, r => by obtain ⟨t, rfl⟩ := (show ∃ t, u = Value.str x t from r); exact ⟨_, .str x t⟩
  | _, _, u, .lst (a := a) h q, r => by
    cases (show u = Value.ref a from r)
    obtain ⟨its, rv, ⟨o, n, e, c, d, f⟩, _⟩ := I.list h
    obtain ⟨as, ra⟩ := dvs_reads I q rv
    exact ⟨_, .list e c f ra⟩
  | _, _, u, .tup (a := a) h q, r => by
    cases (show u = Value.ref a from r)
    obtain ⟨its, rv, ⟨o, e, c, n, f⟩, _⟩ := I.tuple h
    obtain ⟨as, ra⟩ := dvs_reads I q rv
    exact ⟨_, .tuple e c f ra⟩
theorem dvs_reads (I : Inv X pins σ H s) : ∀ {vs : List V} {ds : List PyData} {us : List Value}, DVs X.K H vs ds → Vals vs us → ∃ as, ReadsAll s.heap us ds as
  | _, _, _, .nil, .nil => ⟨_, .nil⟩
  | _, _, _, .cons h q, .cons r rr => by
    obtain ⟨as, ra⟩ := dv_reads I h r
    obtain ⟨bs, rb⟩ := dvs_reads I q rr
    exact ⟨_, .cons ra rb⟩
end
end
section
variable {X : Cx}
def rEqD (K : PySem.W.Frag) (f : Bool → Bool) : R2 := fun x y H Q => ∃ d e, DV K H x d ∧ DV K H y e ∧ d.canLay0 = true ∧ e.canLay0 = true ∧ d.depth ≤ 64 ∧ Q (.bl (f (d.eqv e))) H
theorem op_neD (hu : X.A.units + 64 < cLine) : OpR X (compareOp .NotEq) (rEqD X.K not) := by
  intro pins s σ H x y v u Q I rx ry h
  obtain ⟨d, e, hd, he, c1, c2, dp, q⟩ := h
  obtain ⟨as, ra⟩ := dv_reads I hd rx
  obtain ⟨bs, rb⟩ := dv_reads I he ry
  exact SeqAt.compareNe_reads ra rb c1 c2 (by omega) ⟨.bl _, H, I, rfl, q⟩
end
def dI (ns : List Int) : PyData := .list (ns.map PyData.int)
theorem dvs_ints {K : PySem.W.Frag} {H : Hp} : ∀ {ns : List Int}, DVs K H (ns.map V.int) (ns.map PyData.int)
  | [] => .nil
  | n :: ns => .cons (.int n) dvs_ints
theorem dv_ints {K : PySem.W.Frag} {H : Hp} {a : Addr} {ns : List Int} (h : SqL K H a (ns.map V.int)) : DV K H (.ref a) (dI ns) := .lst h dvs_ints
theorem layAll_ints : ∀ {ns : List Int}, PyData.canLayAll0 (ns.map PyData.int) = true
  | [] => rfl
  | n :: ns => by
    rw [List.map_cons]
    show (PyData.canLay0 (.int n) && PyData.canLayAll0 (ns.map PyData.int)) = true
    rw [layAll_ints]; rfl
theorem lay_ints {ns : List Int} : (dI ns).canLay0 = true := layAll_ints
theorem depthAll_ints : ∀ {ns : List Int}, PyData.depthAll (ns.map PyData.int) ≤ 1
  | [] => by decide
  | n :: ns => by
    have := depthAll_ints (ns := ns)
    rw [List.map_cons]
    show max (PyData.depth (.int n)) (PyData.depthAll (ns.map PyData.int)) ≤ 1
    have e : PyData.depth (.int n) ≤ 1 := by show _ ≤ _; simp [PyData.depth]
    omega
end L2
namespace L2
open PySem
theorem dep_list {xs : List PyData} {n : Nat} (h : PyData.depthAll xs ≤ n) : (PyData.list xs).depth ≤ n + 1 := by
  have e : (PyData.list xs).depth = PyData.depthAll xs + 1 := by first | rfl | (simp [PyData.depth]; done) | (simp [PyData.depth]; omega)
  omega
theorem dep_tup {xs : List PyData} {n : Nat} (h : PyData.depthAll xs ≤ n) : (PyData.tuple xs).depth ≤ n + 1 := by
  have e : (PyData.tuple xs).depth = PyData.depthAll xs + 1 := by first | rfl | (simp [PyData.depth]; done) | (simp [PyData.depth]; omega)
  omega
theorem dep_nil {n : Nat} : PyData.depthAll [] ≤ n := by
  have e : PyData.depthAll [] = 0 := by first | rfl | simp [PyData.depthAll]
  omega
theorem xf {x : PyData} {xs : List PyData} {n : Nat} (h : x.depth ≤ n) (h' : PyData.depthAll xs ≤ n) : PyData.depthAll (x :: xs) ≤ n := by
  have e : PyData.depthAll (x :: xs) = max x.depth (PyData.depthAll xs) := by first | rfl | simp [PyData.depthAll]
  omega
theorem dep_ints {ns : List Int} : (dI ns).depth ≤ 2 := dep_list depthAll_ints
end L2
namespace L2
open PySem PySem.Spec PyProof.Rows
theorem zq {K : PySem.W.Frag} {H H' : Hp} {a : Addr} {xs : List V} (h : SqL K H a xs) (s : Same H H') : SqL K H' a xs := by
  rcases h with h | h
  · exact .inl (h.imp (fun z => s _ _ z) fun ⟨o, z⟩ => ⟨o, s _ _ z⟩)
  · exact .inr h
theorem zg {H H' : Hp} {a : Addr} {o : HO} (s : Same H H') (h : H a = none) : Same H (upd H' a o) := fun c x z => by rw [zj (zo z h)]; exact s _ _ z
def cutI (cs : List Int) (a b : Int) : List Int := (cs.drop (min a.toNat cs.length)).take (min b.toNat cs.length - min a.toNat cs.length)
theorem sIx_pos {n d : Nat} {a : Int} (h : 0 ≤ a) : HT.sIx n d (some a) = min a.toNat n := by
  show (if a < 0 then (a + (n : Int)).toNat else min a.toNat n) = min a.toNat n
  rw [if_neg (by omega)]
theorem cutV_int {cs : List Int} {a b : Int} (ha : 0 ≤ a) (hb : 0 ≤ b) : cutV (cs.map V.int) (some a) (some b) = (cutI cs a b).map V.int := by
  unfold cutV cutI
  rw [sIx_pos ha, sIx_pos hb, List.length_map, ← List.map_drop, ← List.map_take]
theorem cutV_take {cs : List Int} {b : Int} (hb : 0 ≤ b) : cutV (cs.map V.int) none (some b) = (cs.take b.toNat).map V.int := by
  unfold cutV
  rw [HT.sIx_none, sIx_pos hb, List.length_map, List.drop_zero, Nat.sub_zero, ← List.map_take]
  congr 1
  rw [List.take_eq_take_iff]
  omega
end L2
namespace L2
open PySem PySem.Spec PyProof.Rows
section
variable {P : Program} {w : World} {K : PySem.W.Frag} {mg : Str → Option Value} {base : Heap}
def zZ (K : PySem.W.Frag) (C : Addr) (x qual : Str) (st : Stmt) (ps : List Str) : Prop := ∃ (f : Addr) (fd : FuncData), Meth K C x f ∧ Fun K x qual st f fd ∧ Binds K fd ps []
def OkM (P : Program) (w : World) (K : PySem.W.Frag) (mg : Str → Option Value) (base : Heap) (CX : CXT) (k : Nat) (C : Addr) (x : Str) (ps : List Str) (sp : Sp) : Prop :=
  ∃ (f : Addr) (fd : FuncData), Meth K C x f ∧ Binds K fd ps [] ∧ FnOk P w K mg base CX k f fd ps sp
def InitIn (K : PySem.W.Frag) (C : Addr) (qual : Str) (st : Stmt) (ps : List Str) : Prop := ∃ (f : Addr) (fd : FuncData), Mk K C f ∧ Fun K "__init__" qual st f fd ∧ Binds K fd ps []
def OkI (P : Program) (w : World) (K : PySem.W.Frag) (mg : Str → Option Value) (base : Heap) (CX : CXT) (k : Nat) (C : Addr) (ps : List Str) (sp : Sp) : Prop :=
  ∃ (f : Addr) (fd : FuncData), Mk K C f ∧ Binds K fd ps [] ∧ FnOk P w K mg base CX k f fd ps sp
end
section
variable {X : Cx} {CX : CXT} {k : Nat} {C : Addr} {ps : List Str} {sp : Sp} {E : XK} {x m : Str} {p pos apos : Pos} {e o : Expr} {es : List Expr} {ta : TE} {t : TA}
theorem yz (h : OkM X.prog X.w X.K X.mg X.base CX k C m ps sp) (c : Cls X.K C) (hr : Room k X.A) (hx : Passes CX X E) {pl : Sem Bool} (he : PE X o ta) (ha : PA X (e :: es) t)
    (hst : starEach (e :: es) X.env = (false, eval e X.env) :: starEach es X.env := by rfl) (hpl : (backTo pos (starEach es X.env)).any (·.1) = false := by rfl)
    (ht : eval (.Call (.Attribute o m apos) (e :: es) [] pos) X.env = (do
      let ov ← eval o X.env
      standAt apos.atName
      let (f, first) ← holding [ov] (getMethod ov m pl)
      callWith pos f first (backTo pos (starEach (e :: es) X.env)) (backToKw pos (keywordEach [] X.env))) := by rfl) :
    PE X (.Call (.Attribute o m apos) (e :: es) [] pos) (tMeth C m sp [] E ta t) := by
  obtain ⟨f, fd, a, b, d⟩ := h
  exact pe_meth he c a d hr b .nil hx ha hst hpl ht
theorem pe_okM0 (h : OkM X.prog X.w X.K X.mg X.base CX k C m ps sp) (c : Cls X.K C) (hr : Room k X.A) (hx : Passes CX X E) {pl : Sem Bool} (he : PE X o ta)
    (ht : eval (.Call (.Attribute o m apos) [] [] pos) X.env = (do
      let ov ← eval o X.env
      standAt apos.atName
      let (f, first) ← holding [ov] (getMethod ov m pl)
      callWith pos f first (backTo pos (starEach [] X.env)) (backToKw pos (keywordEach [] X.env))) := by rfl) :
    PE X (.Call (.Attribute o m apos) [] [] pos) (tMeth C m sp [] E ta tNil) := by
  obtain ⟨f, fd, a, b, d⟩ := h
  exact pe_meth0 he c a d hr b .nil hx ht
theorem pe_okI (h : OkI X.prog X.w X.K X.mg X.base CX k C ps sp) (hm : X.mg x = some (.ref C)) (hr : Room (k + 1) X.A) (hg : Gl X x) (hx : Passes CX X E) (ha : PA X (e :: es) t) (hdb : (x == ("__debug__" : Str)) = false := by decide)
    (he : starEach (e :: es) X.env = (false, eval e X.env) :: starEach es X.env := by rfl) (hpl : (backTo pos (starEach es X.env)).any (·.1) = false := by rfl) : PE X (.Call (.Name x p) (e :: es) [] pos) (tMake C sp [] E t) := by
  obtain ⟨f, fd, a, b, d⟩ := h
  exact pe_make a d hr hg hm b .nil hx ha hdb he hpl
end
theorem rep_ints (n : Nat) : (List.replicate n [V.int 0]).flatten = (List.replicate n (0 : Int)).map V.int := by
  induction n with
  | zero => rfl
  | succ n ih => rw [List.replicate_succ, List.flatten_cons, ih]; rfl
theorem set_ints {ns : List Int} {j : Nat} {n : Int} : (ns.map V.int).set j (.int n) = (ns.set j n).map V.int := by rw [List.map_set]
theorem ixN_nat {n : Nat} {i : Int} (h0 : 0 ≤ i) (h1 : i < n) : ixN n i = some i.toNat := by
  unfold ixN
  rw [if_pos h0, if_pos h1]
end L2
namespace L2
open PySem PySem.Spec PyProof.Rows
structure Hd (B : Hp) (L : List (Addr × HO)) (H : Hp) : Prop where
  nd : (L.map Prod.fst).Nodup
  nw : ∀ p ∈ L, B p.1 = none
  st : ∀ p ∈ L, H p.1 = some p.2
  sm : Same B H
namespace Hd
variable {B : Hp} {L : List (Addr × HO)} {H H' : Hp} {a b : Addr} {o o' : HO}
theorem base : Hd B [] B := ⟨List.nodup_nil, (fun _ h => nomatch h), (fun _ h => nomatch h), Same.refl B⟩
theorem get (h : Hd B L H) (i : Nat) (e : L[i]? = some (a, o)) : H a = some o := h.st _ (List.mem_of_getElem? e)
theorem same (h : Hd B L H) (s : Same H H') : Hd B L H' := ⟨h.nd, h.nw, fun p m => s _ _ (h.st p m), h.sm.trans s⟩
theorem new (h : Hd B L H) (n : H a = none) : Hd B ((a, o) :: L) (upd H a o) := by
  have ne : ∀ p ∈ L, p.1 ≠ a := fun p m => zo (h.st p m) n
  refine ⟨List.nodup_cons.mpr ⟨fun m => ?_, h.nd⟩, fun p m => ?_, fun p m => ?_, zg h.sm (h.sm.free n)⟩
  · obtain ⟨p, mp, e⟩ := List.mem_map.mp m
    exact ne p mp e
  · rcases List.mem_cons.mp m with rfl | m
    · exact h.sm.free n
    · exact h.nw p m
  · rcases List.mem_cons.mp m with rfl | m
    · exact zf
    · rw [zj (ne p m)]; exact h.st p m
theorem fst_set (i : Nat) (e : L[i]? = some (a, o)) : (L.set i (a, o')).map Prod.fst = L.map Prod.fst := by
  rw [List.map_set]
  apply List.ext_getElem?
  intro j
  rw [List.getElem?_set]
  split
  · rename_i q
    subst q
    split
    · rw [List.getElem?_map, e]; rfl
    · rename_i q
      rw [List.getElem?_eq_none (by omega)]
  · rfl
theorem ne (h : Hd B L H) (i j : Nat) (ei : L[i]? = some (a, o)) (ej : L[j]? = some (b, o')) (hij : i ≠ j) : a ≠ b := fun e => by
  subst e
  have h1 : (L.map Prod.fst)[i]? = some a := by rw [List.getElem?_map, ei]; rfl
  have h2 : (L.map Prod.fst)[j]? = some a := by rw [List.getElem?_map, ej]; rfl
  obtain ⟨b1, e1⟩ := List.getElem?_eq_some_iff.mp h1
  obtain ⟨b2, e2⟩ := List.getElem?_eq_some_iff.mp h2
  have key : ∀ (l : List Addr), l.Nodup → ∀ (i j : Nat) (b1 : i < l.length) (b2 : j < l.length), l[i] = l[j] → i = j := by
    intro l hl
    induction l with
    | nil => intro i j b1; cases b1
    | cons x r ih =>
      intro i j b1 b2 q
      have nr := List.nodup_cons.mp hl
      cases i with
      | zero =>
        cases j with
        | zero => rfl
        | succ j => exact absurd (by rw [List.getElem_cons_zero, List.getElem_cons_succ] at q; rw [q]; exact List.getElem_mem _) nr.1
      | succ i =>
        cases j with
        | zero => exact absurd (by rw [List.getElem_cons_zero, List.getElem_cons_succ] at q; rw [← q]; exact List.getElem_mem _) nr.1
        | succ j => rw [List.getElem_cons_succ, List.getElem_cons_succ] at q; rw [ih nr.2 i j _ _ q]
  exact hij (key _ h.nd i j b1 b2 (e1.trans e2.symm))
theorem chg (h : Hd B L H) (i : Nat) (e : L[i]? = some (a, o)) (k : ∀ c u, c ≠ a → H c = some u → H' c = some u) (q : H' a = some o') : Hd B (L.set i (a, o')) H' := by
  have nb : B a = none := h.nw _ (List.mem_of_getElem? e)
  refine ⟨by rw [fst_set i e]; exact h.nd, fun p m => ?_, fun p m => ?_, fun c u z => k c u (zo z nb) (h.sm c u z)⟩
  · rcases List.mem_or_eq_of_mem_set m with m | rfl
    · exact h.nw p m
    · exact nb
  · obtain ⟨j, lt, ej⟩ := List.getElem_of_mem m
    have ej : (L.set i (a, o'))[j]? = some p := by rw [List.getElem?_eq_getElem lt, ej]
    rw [List.getElem?_set] at ej
    split at ej
    · split at ej
      · cases ej; exact q
      · cases ej
    · rename_i hij
      obtain ⟨c, u⟩ := p
      exact k c u (Ne.symm (h.ne i j e ej hij)) (h.get j ej)
theorem put (h : Hd B L H) (i : Nat) (e : L[i]? = some (a, o)) : Hd B (L.set i (a, o')) (upd H a o') := h.chg i e (fun c u n z => by rw [zj n]; exact z) zf
theorem sql (h : Hd B L H) {K : PySem.W.Frag} {xs : List V} (q : SqL K B a xs) : SqL K H a xs := zq q h.sm
theorem sqt (h : Hd B L H) {K : PySem.W.Frag} {xs : List V} (q : SqT K B a xs) : SqT K H a xs := by
  rcases q with (q | ⟨o, q⟩) | q
  · exact .inl (.inl (h.sm _ _ q))
  · exact .inl (.inr ⟨o, h.sm _ _ q⟩)
  · exact .inr q
theorem lst (h : Hd B L H) {K : PySem.W.Frag} {xs : List V} (i : Nat) (e : L[i]? = some (a, .lst xs)) : SqL K H a xs := SqL.of (h.get i e)
theorem tup (h : Hd B L H) {K : PySem.W.Frag} {xs : List V} (i : Nat) (e : L[i]? = some (a, .tup xs)) : SqT K H a xs := SqT.of (h.get i e)
theorem sub {L' : List (Addr × HO)} (h : Hd B L H) (s : List.Sublist L' L) : Hd B L' H := ⟨h.nd.sublist (s.map _), fun p m => h.nw p (s.subset m), fun p m => h.st p (s.subset m), h.sm⟩
theorem tl {p : Addr × HO} (h : Hd B (p :: L) H) : Hd B L H := h.sub (List.sublist_cons_self _ _)
theorem free (h : Hd B L H) (n : H a = none) : B a = none := h.sm.free n
theorem add (h : Hd B L H) (n : ∀ p ∈ L, p.1 ≠ a) (nb : B a = none) (e : H a = some o) : Hd B ((a, o) :: L) H := by
  refine ⟨List.nodup_cons.mpr ⟨fun m => ?_, h.nd⟩, fun p m => ?_, fun p m => ?_, h.sm⟩
  · obtain ⟨p, mp, e⟩ := List.mem_map.mp m
    exact n p mp e
  · rcases List.mem_cons.mp m with rfl | m
    · exact nb
    · exact h.nw p m
  · rcases List.mem_cons.mp m with rfl | m
    · exact e
    · exact h.st p m
theorem made {C x dx l : Addr} {ox ol : HO} (h : Hd B L H) (nx : H x = none) (ndx : H dx = none) (ne : dx ≠ x) (k : ∀ b u, b ≠ x → upd (upd H dx (.own x)) x (.ins C dx []) b = some u → H' b = some u)
    (nl : upd (upd H dx (.own x)) x (.ins C dx []) l = none) (ex : H' x = some ox) (el : H' l = some ol) : Hd B ((l, ol) :: (x, ox) :: (dx, .own x) :: L) H' := by
  have h1 : Hd B ((dx, .own x) :: L) (upd H dx (.own x)) := h.new ndx
  have h2 : Hd B ((x, .ins C dx []) :: (dx, .own x) :: L) (upd (upd H dx (.own x)) x (.ins C dx [])) := h1.new (by rw [zj (Ne.symm ne)]; exact nx)
  have h3 : Hd B ((x, ox) :: (dx, .own x) :: L) H' := h2.chg 0 rfl k ex
  refine h3.add (fun p m => ?_) (h2.free nl) el
  rcases List.mem_cons.mp m with rfl | m
  · exact zo (h2.get 0 rfl) nl
  · exact zo (h2.st p (List.mem_cons_of_mem _ m)) nl
theorem perm {B : Hp} {L L' : List (Addr × HO)} {H : Hp} (h : Hd B L H) (p : L.Perm L') : Hd B L' H := ⟨(p.map Prod.fst).nodup h.nd, fun q m => h.nw q (p.mem_iff.mpr m), fun q m => h.st q (p.mem_iff.mpr m), h.sm⟩
end Hd
section
variable {X : Cx} {st : Stmt} {t : TS} {e : Expr} {te : TE}
def tMid (t : TS) : TS := fun D σ H => ∃ M : St → Hp → Prop, t { D with nx := M } σ H ∧ ∀ σ' H', M σ' H' → D.nx σ' H'
theorem ps_mid (h : PS X st t) : PS X st (tMid t) := by
  intro pins s σ H D I q
  obtain ⟨M, q, k⟩ := q
  refine thn (h pins s σ H _ I q) fun f s1 z => ?_
  cases f with
  | next => exact let ⟨σ', H', I', z⟩ := z; ⟨σ', H', I', k _ _ z⟩
  | ret v => exact z
  | brk => exact z
  | cont => exact z
end
end L2
namespace L2
open PySem PySem.Spec PyProof.Rows
def but (H : Hp) (ls : List Addr) : Hp := fun b => if b ∈ ls then none else H b
theorem but_none {H : Hp} {ls : List Addr} {b : Addr} (h : b ∈ ls) : but H ls b = none := by unfold but; rw [if_pos h]
theorem but_of {H : Hp} {ls : List Addr} {b : Addr} {o : HO} (h : H b = some o) (n : b ∉ ls) : but H ls b = some o := by unfold but; rw [if_neg n]; exact h
theorem but_sub {H : Hp} {ls : List Addr} : Same (but H ls) H := fun b o z => by
  unfold but at z
  split at z
  · cases z
  · exact z
namespace Hd
variable {B B' : Hp} {L : List (Addr × HO)} {H H' : Hp} {a : Addr} {o : HO}
theorem into (h : Hd B [(a, o)] H) : Same B (but H [a]) := fun b u z => but_of (h.sm _ _ z) (by
  intro q
  have q := List.mem_singleton.mp q
  subst q
  rw [h.nw _ (List.mem_singleton.mpr rfl)] at z
  cases z)
theorem back {L : List (Addr × HO)} {o' : HO} (h : Hd B L H) (i : Nat) (e : L[i]? = some (a, o)) (k : Hd (but H [a]) [(a, o')] H') : Hd B (L.set i (a, o')) H' :=
  h.chg i e (fun c u n z => k.sm _ _ (but_of z (by simp [n]))) (k.get 0 rfl)
end Hd
end L2
namespace L2
open PySem PySem.Spec PyProof.Rows
theorem but_inv {H : Hp} {a b : Addr} {o : HO} (h : but H [a] b = some o) : b ≠ a ∧ H b = some o := by
  unfold but at h
  split at h
  · cases h
  · rename_i z; exact ⟨fun e => z (by rw [e]; exact List.mem_singleton_self a), h⟩
theorem but_free {H : Hp} {a b : Addr} (n : but H [a] b = none) (ne : b ≠ a) : H b = none := by
  unfold but at n
  rw [if_neg (by simp [ne])] at n
  exact n
section
variable {X : Cx} {pins : List (Addr × Obj)} {σ σ' : St} {H H' : Hp} {s s' : Shared} {a : Addr} {xs : List V}
end
namespace Hd
variable {B : Hp} {L L' : List (Addr × HO)} {H : Hp}
theorem split (h : Hd B L H) (s : List.Sublist L' L) : Same B (but H (L'.map Prod.fst)) ∧ Hd (but H (L'.map Prod.fst)) L' H := by
  refine ⟨fun b o z => but_of (h.sm _ _ z) fun m => ?_, (h.sub s).nd, fun p m => but_none (List.mem_map_of_mem m), (h.sub s).st, but_sub⟩
  obtain ⟨p, mp, e⟩ := List.mem_map.mp m
  have := h.nw p (s.subset mp)
  rw [e] at this
  rw [this] at z; cases z
end Hd
end L2
namespace L2
open PySem PySem.Spec PyProof.Rows
def ItS (lo c : Int) (n : Nat) : It := ⟨fun i _ => i < n, fun i H x H' => H' = H ∧ x = .int (lo + i * c), fun i _ => n ≤ i⟩
theorem turn_stepped {P : Program} {w : World} {K : PySem.W.Frag} {tg : Expr} (it : Addr) (lo c : Int) (n : Nat) :
    Turn P w K tg (ItS lo c n) [it] it (fun i h => IsRangeIter h it (lo + (i : Nat) * c) ((n : Int) - (i : Nat)) c) where
  mem := List.mem_singleton_self it
  obj := fun i h st b hb => by
    cases List.mem_singleton.mp hb
    refine ⟨_, st, fun v z => ?_⟩
    have y : Data.fields _ = Data.cell v := z
    cases y
  keep := fun i h h' st k => k it (List.mem_singleton_self it) _ st
  item := by
    intro X hP hw hK hc i pins s σ H E I hf st hg
    subst hP; subst hw; subst hK
    obtain ⟨a0, a1, a2, a3, a4, a5⟩ := hf it (List.mem_singleton_self it)
    refine (Walks.range (prog := X.prog) (w := X.w) (I.ok.hd hc) it lo c n).item i s _ _ hg st fun v h' tk hv st' kk => ?_
    obtain ⟨t, rfl⟩ := hv
    have J : Inv X pins σ H { s with heap := h', toks := tk } := I.turned (fun b o hb e => kk b o (by simpa using hb) e) a0 a1 a3 a4 a5
    exact ⟨_, rfl, go_of (s := { s with heap := h', toks := tk }) (n := "range_iterator") st' rfl rfl (by decide) ⟨.int (lo + i * c), H, J, ⟨t, rfl⟩, ⟨rfl, rfl⟩, st', fun b hb => (hf b hb).1⟩⟩
  done := by
    intro X hP hw hK hc i pins s σ H E I hf st hg
    subst hP; subst hw; subst hK
    obtain ⟨a0, a1, a2, a3, a4, a5⟩ := hf it (List.mem_singleton_self it)
    have hn : n ≤ i := hg
    exact wpAny_pyNext_range_end (I.ok.hd hc) st (by omega) fun h' eb => ⟨rfl, I.turned (t' := s.toks) (fun b o hb e => eb b o hb e) a0 a1 a3 a4 a5⟩
  self := fun _ _ _ _ _ st h => wpAny_pyIter_rangeiter st h
theorem small_step {a b c : Int} (ha : 0 ≤ a) (ha' : a < 2 ^ 40) (hb : 0 ≤ b) (hb' : b < 2 ^ 40) (h0 : 0 < c) (h1 : c < 2 ^ 20) : Builtin.Range.small a b c = true := by
  unfold Builtin.Range.small
  have q : Builtin.Range.rangeSize a b c ≤ 2 ^ 40 ∧ 0 ≤ Builtin.Range.rangeSize a b c := by
    unfold Builtin.Range.rangeSize
    rw [if_pos (show c > 0 from h0)]
    split
    · have z := Int.ediv_le_self (b := c) (show 0 ≤ b - a - 1 by omega)
      have y := Int.ediv_nonneg (show 0 ≤ b - a - 1 by omega) (show 0 ≤ c by omega)
      omega
    · omega
  simp only [Builtin.Range.rangeFitsLong, Bool.and_eq_true, Bool.or_eq_true, decide_eq_true_eq, beq_iff_eq]
  refine ⟨⟨⟨⟨⟨by omega, by omega⟩, by omega, by omega⟩, by omega, by omega⟩, by omega, by omega⟩, .inr ?_⟩
  rw [if_pos (show c > 0 from h0), decide_eq_true (show -2 ^ 63 ≤ b + (c - 1) by omega), decide_eq_true (show b + (c - 1) < 2 ^ 63 by omega)]
  rfl
section
variable {X : Cx} {tg : Expr}
def iRngS (ta : TA) : TI := fun σ H R => ta σ H fun vs H1 => ∃ (i j c : Int) (n : Nat), vs = [.int i, .int j, .int c] ∧ (0 ≤ i ∧ i < 2 ^ 40 ∧ 0 ≤ j ∧ j < 2 ^ 40 ∧ 0 < c ∧ c < 2 ^ 20) ∧ Builtin.Range.rangeSize i j c = n ∧ R (ItS i c n) H1
theorem stepped_it {pins : List (Addr × Obj)} {σ : St} {H : Hp} {s : Shared} {R : It → Hp → Prop} {E : Value → Shared → Prop} {lo hi c : Int} {n : Nat} {t u v : Tok} {tk : Nat} (I : Inv X pins σ H s) (hs : Builtin.Range.small lo hi c = true) (hn : Builtin.Range.rangeSize lo hi c = n)
    (q : R (ItS lo c n) H) : wpAny (model X.prog X.w) X.A (pyIter (.ref s.heap.objs.size)) (PIE X pins σ tg R) E { s with heap := s.heap.push { cls := .type "range", data := .fields #[.int lo t, .int hi u, .int c v] }, toks := tk } := by
  refine wpAny_pyIter_range (IsRange.new ..) hs ?_
  have J : Inv X pins σ H { s with heap := s.heap.push { cls := .type "range", data := .fields #[.int lo t, .int hi u, .int c v] }, toks := tk } := I.kept fun b o e => Heap.get?_push_of_some _ e
  generalize hh : s.heap.push { cls := .type "range", data := .fields #[.int lo t, .int hi u, .int c v] } = h1 at J ⊢
  refine ⟨h1.objs.size, [h1.objs.size], _, _, H, rfl, J.kept (t' := tk) fun b o e => Heap.get?_push_of_some _ e, turn_stepped _ lo c n, ?_, fun b hb => ?_, q⟩
  · show IsRangeIter _ _ (lo + ((0 : Nat) : Int) * c) ((n : Int) - ((0 : Nat) : Int)) c
    rw [show lo + ((0 : Nat) : Int) * c = lo by simp, show (n : Int) - ((0 : Nat) : Int) = Builtin.Range.rangeSize lo hi c by rw [hn]; simp]
    exact Heap.get?_push_size _ rfl
  · cases List.mem_singleton.mp hb
    exact J.fpOk (Nat.le_refl _) (J.hok.fresh (Nat.le_refl _))
theorem pi_range3 {a b c : Expr} {ta : TA} {p pos : Pos} (hg : Gl X "range") (hm : X.mg "range" = none) (ha : PA X [a, b, c] ta) (hs : starEach [a, b, c] X.env = [(false, eval a X.env), (false, eval b X.env), (false, eval c X.env)] := by rfl)
    (hs2 : starEach [b, c] X.env = [(false, eval b X.env), (false, eval c X.env)] := by rfl) : PI X tg (.Call (.Name "range" p) [a, b, c] [] pos) (iRngS ta) := by
  intro pins s σ H R I h
  refine Call_ (ld_blt I hg hm boot_range (PyProof.Rows.callWith_type1 (thn (ha pos pins s σ H _ I h) fun us s1 ⟨vs, H1, I1, r1, q1⟩ => ?_) (by rw [hs, hs2]) (by rw [hs2]; rfl)))
  obtain ⟨i, j, k, n, e, ⟨b1, b2, b3, b4, b5, b6⟩, en, q⟩ := q1
  subst e
  cases r1 with
  | cons r rr =>
    cases rr with
    | cons r' rr =>
      cases rr with
      | cons r'' rr =>
        cases rr
        obtain ⟨t, rfl⟩ := r
        obtain ⟨t', rfl⟩ := r'
        obtain ⟨t'', rfl⟩ := r''
        refine call_range_3 (by omega) (stepped_it I1 (small_step b1 b2 b3 b4 b5 b6) en q) (.inl ?_)
        exact PyProof.noPylong_small (by omega)
end
end L2
namespace L2
open PySem PySem.Spec PyProof.Rows
section
variable {X : Cx}
theorem for_step {lo c : Int} {n : Nat} {g : TG} {tb : TS} {D : Ends} {σ : St} {H : Hp} (Pv : Nat → St → Hp → Prop) (h0 : Pv 0 σ H)
    (hs : ∀ i σ H, i < n → Pv i σ H → g (.int (lo + i * c)) σ H fun σ2 H2 => tb { D with nx := Pv (i + 1), ct := Pv (i + 1), bk := D.nx } σ2 H2) (hd : ∀ σ H, Pv n σ H → D.nx σ H) :
    ∃ W : Nat → Nat → St → Hp → Prop, (∃ m, W 0 m σ H) ∧ ∀ i m σ H, W i m σ H →
      ((ItS lo c n).stop i H ∧ D.nx σ H) ∨ ((ItS lo c n).go i H ∧ ∃ N : St → Hp → Prop, (∀ σ' H', N σ' H' → ∃ m', m' < m ∧ W (i + 1) m' σ' H') ∧ ∀ x H', (ItS lo c n).yld i H x H' → g x σ H' fun σ2 H2 => tb { D with nx := N, ct := N, bk := D.nx } σ2 H2) := by
  refine ⟨fun i m σ H => m = n - i ∧ i ≤ n ∧ Pv i σ H, ⟨n, by simp, Nat.zero_le _, h0⟩, ?_⟩
  rintro i m σ H ⟨rfl, hi, p⟩
  by_cases hlt : i < n
  · refine .inr ⟨hlt, Pv (i + 1), fun σ' H' p' => ⟨n - (i + 1), by omega, rfl, hlt, p'⟩, fun x H' y => ?_⟩
    obtain ⟨e, y⟩ := y
    subst e y
    exact hs i σ _ hlt p
  · have e : i = n := by omega
    subst e
    exact .inl ⟨Nat.le_refl _, hd σ H p⟩
end
end L2
namespace L2
open PySem PySem.Spec PyProof.Rows
section
variable {X : Cx} {pins : List (Addr × Obj)} {σ σ' : St} {H H' : Hp} {s s' : Shared} {a : Addr} {xs : List V}
end
end L2
namespace L2
open PySem PySem.Spec PyProof.Rows
theorem ints_at {ns : List Int} {us : List Value} (h : Vals (ns.map V.int) us) (i : Nat) (v : Value) (e : us[i]? = some v) : ∃ n t, ns[i]? = some n ∧ v = .int n t := by
  induction ns generalizing us i with
  | nil => cases h; cases e
  | cons n ns ih =>
    cases h with
    | cons r rr =>
      cases i with
      | zero => obtain ⟨t, rfl⟩ := r; cases (show some _ = some v from e); exact ⟨n, t, rfl, rfl⟩
      | succ i => exact ih rr i e
theorem vals_len {vs : List V} {us : List Value} (h : Vals vs us) : us.length = vs.length := by
  induction h with
  | nil => rfl
  | cons _ _ ih => rw [List.length_cons, List.length_cons, ih]
section
variable {X : Cx}
end
end L2
namespace L2
open PySem PySem.Spec PyProof.Rows
section
variable {X : Cx} {pins : List (Addr × Obj)} {σ : St} {H : Hp} {s : Shared}
theorem kit_of {x : V} {u t : Value} (I : Inv X pins σ H s) (rx : RelV x u) (ty : TyOf X.K H x t) : ∃ Z : Heap → Prop, PySem.W.KitX X.K u t Z ∧ Z s.heap ∧ u ≠ .builtin "__main__.__loader__#opaque" := by
  cases ty with
  | non => cases (show u = Value.none from rx); exact ⟨_, PySem.W.kitx_none, True.intro, fun z => nomatch z⟩
  | bl y => cases (show u = Value.bool y from rx); exact ⟨_, PySem.W.kitx_bool, True.intro, fun z => nomatch z⟩
  | int i => obtain ⟨t, q⟩ := (show ∃ t, u = Value.int i t from rx); cases q; exact ⟨_, PySem.W.kitx_int, True.intro, fun z => nomatch z⟩
  | str y => obtain ⟨t, q⟩ := (show ∃ t, u = Value.str y t from rx); cases q; exact ⟨_, PySem.W.kitx_str, True.intro, fun z => nomatch z⟩
  | flt y => obtain ⟨t, q⟩ := (show ∃ t, u = Value.float y t from rx); cases q; exact ⟨_, PySem.W.kitx_float, True.intro, fun z => nomatch z⟩
  | @lst a xs ea =>
    cases (show u = Value.ref a from rx)
    obtain ⟨_, _, n, _, e1⟩ := (show ObjOk X.prog X.w H s.heap a (.lst xs) from I.hok a _ ea)
    exact ⟨_, PySem.W.kitx_list, ⟨_, e1, rfl⟩, fun z => nomatch z⟩
  | @frz a ob xs ea =>
    cases (show u = Value.ref a from rx)
    obtain ⟨_, _, _, n, _, e1⟩ := (show ObjOk X.prog X.w H s.heap a (.frz ob (.lst xs)) from I.hok a _ ea)
    exact ⟨_, PySem.W.kitx_list, ⟨_, e1, rfl⟩, fun z => nomatch z⟩
  | @tup a xs ea =>
    cases (show u = Value.ref a from rx)
    obtain ⟨_, _, _, p⟩ := (show ObjOk X.prog X.w H s.heap a (.tup xs) from I.hok a _ ea)
    obtain ⟨o, e1, e2, _⟩ := p
    exact ⟨_, PySem.W.kitx_tuple, ⟨o, e1, e2⟩, fun z => nomatch z⟩
  | @dK a kvs ea =>
    cases (show u = Value.ref a from rx)
    obtain ⟨_, _, vs, _, p⟩ := (show ObjOk X.prog X.w H s.heap a (.dK kvs) from I.hok a _ ea)
    obtain ⟨o, es, ep, e1, e2, _⟩ := p
    exact ⟨_, PySem.W.kitx_dict, ⟨o, e1, e2.1⟩, fun z => nomatch z⟩
  | @dT a kvs ea =>
    cases (show u = Value.ref a from rx)
    obtain ⟨_, _, xs, _, p⟩ := (show ObjOk X.prog X.w H s.heap a (.dT kvs) from I.hok a _ ea)
    obtain ⟨o, es, ep, e1, e2, _⟩ := p
    exact ⟨_, PySem.W.kitx_dict, ⟨o, e1, e2.1⟩, fun z => nomatch z⟩
  | @ins a C dx fs ea cl ha hn htk hm =>
    cases (show u = Value.ref a from rx)
    obtain ⟨mA, O, _⟩ := ins_get I.hok ea
    obtain ⟨od, J, _⟩ := O.look
    exact ⟨_, PySem.W.kitx_own (cl.get _) cl.hd ha hn htk hm, J, fun z => nomatch z⟩
def clsV : V → Value
  | .ref a => .ref a
  | .ty n => .type n
  | _ => .none
def isClsV : V → Bool
  | .ref _ => true
  | .ty _ => true
  | _ => false
theorem vals_cls : ∀ {cs : List V} {us : List Value}, cs.all isClsV = true → Vals cs us → us = cs.map clsV
  | [], _, _, .nil => rfl
  | c :: cs, _, h, .cons r rr => by
    rw [List.all_cons, Bool.and_eq_true] at h
    rw [vals_cls h.2 rr]
    cases c with
    | ref a => cases (show _ = Value.ref a from r); rfl
    | ty n => cases (show _ = Value.type n from r); rfl
    | _ => cases h.1
def rIsiT (K : PySem.W.Frag) : List V → Hp → VK → Prop := fun vs H Q => ∃ (x : V) (tp : Addr) (cs : List V) (t : Value) (b : Bool), vs = [x, .ref tp] ∧ H tp = some (.tup cs) ∧ cs.all isClsV = true ∧ TyOf K H x t ∧ PySem.W.kitAny K t (cs.map clsV) = some b ∧ Q (.bl b) H
theorem call_isinstT : CallR X (.builtin "isinstance") (rIsiT X.K) := by
  intro pins s σ H xs us Q I r h
  obtain ⟨x, tp, cs, t, b, rfl, et, hc, ty, e, q⟩ := h
  obtain ⟨u, w', rfl, ru, rw'⟩ := vals2 r
  cases (show w' = Value.ref tp from rw')
  obtain ⟨Z, kx, hz, nl⟩ := kit_of I ru ty
  obtain ⟨_, its, rv, ⟨cls, dd, data, sl⟩, e1, e2, n, e3⟩ := (show ObjOk X.prog X.w H s.heap tp (.tup cs) from I.hok tp _ et)
  simp only at e2 e3
  subst e2 e3
  rw [← vals_cls hc rv] at e
  exact PySem.W.kia_tup kx I.kIn hz e1 e nl fun tk => ⟨.bl b, H, I.tok _, rfl, q⟩
end
section
variable {prog : Program} {w : World} {A : Around} {E : Value → Shared → Prop} {s : Shared}
end
section
variable {X : Cx} {pos : Pos}
end
end L2
namespace L2
open PySem PySem.Spec PyProof.Rows
section
variable {X : Cx} {pins : List (Addr × Obj)} {σ : St} {H : Hp} {s : Shared} {h' : Heap}
theorem Inv.turnedT {its : List Addr} {T : Addr} {o : HO} {t' : Nat} (I : Inv X pins σ H s) (k : ∀ b u, b ∉ its → s.heap.get? b = some u → h'.get? b = some u) (hf : ∀ b ∈ its, FpOk X pins H b) (hT : s.heap.objs.size ≤ T) (new : ObjOk X.prog X.w (upd H T o) h' T o) :
    Inv X pins σ (upd H T o) { s with heap := h', toks := t' } := by
  have fr := I.hok.fresh hT
  have neT : ∀ {b : Addr} {u : Obj}, s.heap.get? b = some u → b ≠ T := fun e => Nat.ne_of_lt (Nat.lt_of_lt_of_le (Heap.lt_size e) hT)
  have ni : ∀ {b : Addr} {u : HO}, H b = some u → b ∉ its := fun e m => by rw [(hf _ m).1] at e; cases e
  refine I.step (g' := s.gens) (d' := s.drawn) (ch := its) (fun b hb => ?_) (fun b u _ _ hc e _ => k b u hc e) (fun b u _ _ hc e _ => ⟨u.slots, k b u hc e⟩) (fun b u _ e n => by rw [zj (neT e)]; exact n)
    (fun b u hc e => ⟨u, k b u hc e⟩) (fun b ys e => by rw [zj (zo e fr)]; exact e) (fun b u v e => by rw [zj (zo e fr)]; exact e) (fun b ps e => ⟨#[], by rw [zj (zo e fr), e]; simp⟩) (fun m hm => ?_) (fun b u e => ?_) I.bare
  · obtain ⟨_, f1, _, f3, f4, f5⟩ := hf b hb
    exact ⟨f3, f1, f4, f5⟩
  · obtain ⟨ob, es, ep, ho, r⟩ := hm
    exact ⟨ob, es, ep, k _ ob (fun m => (hf _ m).2.1 rfl) ho, r⟩
  · by_cases hb : b = T
    · subst hb; rw [zf] at e; cases e; exact new
    · rw [zj hb] at e
      refine (I.hok b u e).stay (fun c v hc q => k c v ?_ q) (fun c q => by rw [zj (zo q fr)]; exact q) fun c ys q => by rw [zj (zo q fr)]; exact q
      rcases hc with z | z
      · rw [z]; exact ni e
      · exact ni z
theorem Inv.turnedL {its : List Addr} {t' : Nat} (I : Inv X pins σ H s) (k : ∀ b u, b ∉ its → s.heap.get? b = some u → h'.get? b = some u) (hf : ∀ b ∈ its, FpOk X pins H b) : Inv X pins σ H { s with heap := h', toks := t' } := by
  have ni : ∀ {b : Addr} {u : HO}, H b = some u → b ∉ its := fun e m => by rw [(hf _ m).1] at e; cases e
  refine I.step (g' := s.gens) (d' := s.drawn) (ch := its) (fun b hb => ?_) (fun b u _ _ hc e _ => k b u hc e) (fun b u _ _ hc e _ => ⟨u.slots, k b u hc e⟩) (fun _ _ _ _ n => n)
    (fun b u hc e => ⟨u, k b u hc e⟩) (fun _ _ e => e) (fun _ _ _ e => e) (fun b ps e => ⟨#[], by rw [e]; simp⟩) (fun m hm => ?_) (fun b u e => ?_) I.bare
  · obtain ⟨_, f1, _, f3, f4, f5⟩ := hf b hb
    exact ⟨f3, f1, f4, f5⟩
  · obtain ⟨ob, es, ep, ho, r⟩ := hm
    exact ⟨ob, es, ep, k _ ob (fun m => (hf _ m).2.1 rfl) ho, r⟩
  · refine (I.hok b u e).stay (fun c v hc q => k c v ?_ q) (fun _ q => q) fun _ _ q => q
    rcases hc with z | z
    · rw [z]; exact ni e
    · exact ni z
end
def Itz (K : PySem.W.Frag) (l1 l2 : Addr) : It :=
  ⟨fun i H => ∃ xs ys x y, SqL K H l1 xs ∧ SqL K H l2 ys ∧ xs[i]? = some x ∧ ys[i]? = some y,
   fun i H x H' => ∃ T u v, x = .ref T ∧ H T = none ∧ H' = upd H T (.tup [u, v]) ∧ ∀ xs ys, SqL K H l1 xs → SqL K H l2 ys → xs[i]? = some u ∧ ys[i]? = some v,
   fun i H => ∃ xs ys, SqL K H l1 xs ∧ SqL K H l2 ys ∧ (xs.length ≤ i ∨ ys.length ≤ i)⟩
theorem turn_zip {P : Program} {w : World} {K : PySem.W.Frag} {es : List Expr} {kt : Nat} {pos : Pos} {z TI TO i1 i2 l1 l2 : Addr} (D : ZipApart z TI TO i1 i2 l1 l2) :
    Turn P w K (.Tuple es kt pos) (Itz K l1 l2) [z, TI, TO, i1, i2] z (fun i h => IsZip h z TI TO .none ∧ IsPair h TI (.ref i1) (.ref i2) ∧ (∃ a b, IsPair h TO a b) ∧ h.IsListIter i1 l1 i ∧ h.IsListIter i2 l2 i) where
  mem := by simp
  obj := fun i h st b hb => by
    obtain ⟨hz, hI, ⟨a, b', hO⟩, ⟨o1, e1, c1, d1⟩, ⟨o2, e2, c2, d2⟩⟩ := st
    simp at hb
    rcases hb with rfl | rfl | rfl | rfl | rfl
    · exact ⟨_, hz, fun v q => by cases q⟩
    · exact ⟨_, hI, fun v q => by cases q⟩
    · exact ⟨_, hO, fun v q => by cases q⟩
    · exact ⟨_, e1, fun v q => by rw [d1] at q; cases q⟩
    · exact ⟨_, e2, fun v q => by rw [d2] at q; cases q⟩
  keep := fun i h h' st k => by
    obtain ⟨hz, hI, ⟨a, b', hO⟩, h1, h2⟩ := st
    exact ⟨k z (by simp) _ hz, k TI (by simp) _ hI, ⟨a, b', k TO (by simp) _ hO⟩, h1.at fun o e => k i1 (by simp) o e, h2.at fun o e => k i2 (by simp) o e⟩
  item := by
    intro X hP hw hK hc i pins s σ H E I hf st hg
    subst hP hw hK
    obtain ⟨hz, hI, ⟨a, b', hO⟩, h1, h2⟩ := st
    obtain ⟨xs, ys, x, y, q1, q2, ex, ey⟩ := hg
    obtain ⟨is1, r1, p1, _⟩ := I.list q1
    obtain ⟨is2, r2, p2, _⟩ := I.list q2
    obtain ⟨u, hu, ru⟩ := r1.get ex
    obtain ⟨v, hv, rv⟩ := r2.get ey
    refine wpAny_pyNext_zip_item D hz hI hO h1 h2 p1.isList p2.isList (x := u) (y := v) (by simpa using hu) (by simpa using hv) fun h1' a1 a2 a3 a4 a5 a6 hk => ?_
    refine ⟨_, rfl, wpAny_letOwnedTupleGo_zip (s := { s with heap := h1' }) a1 fun h2' z' sb => ?_⟩
    have lt : ∀ {c : Addr} {o : Obj}, s.heap.get? c = some o → c ≠ s.heap.objs.size := fun e => Nat.ne_of_lt (Heap.lt_size e)
    have Tz : s.heap.objs.size ≠ z := (lt hz).symm
    have fr := I.hok.fresh (Nat.le_refl _)
    refine ⟨.ref s.heap.objs.size, upd H s.heap.objs.size (.tup [x, y]), I.turnedT (its := [z, TI, TO, i1, i2]) (t' := s.toks) (fun b o nb e => ?_) hf (Nat.le_refl _) ⟨by show 2 ≤ sizeLine; decide, [u, v], .cons ru (.cons rv .nil), _, sb.extBut _ _ Tz a5, rfl, _, rfl⟩, rfl, ⟨s.heap.objs.size, x, y, rfl, fr, rfl, fun xs' ys' q1' q2' => ?_⟩, ?_, fun b hb => ?_⟩
    · have nb' : b ≠ z ∧ b ≠ TI ∧ b ≠ TO ∧ b ≠ i1 ∧ b ≠ i2 := by simpa using nb
      exact sb.extBut _ _ nb'.1 (hk b o nb'.1 nb'.2.2.1 nb'.2.2.2.1 nb'.2.2.2.2 e)
    · rw [I.list_inj q1' q1, I.list_inj q2' q2]; exact ⟨ex, ey⟩
    · exact ⟨z', sb.extBut _ _ D.TIz (hk _ _ D.TIz D.TITO D.TIi1 D.TIi2 hI), ⟨_, _, sb.extBut _ _ D.TOz a2⟩, a3.extBut sb.extBut D.i1z, a4.extBut sb.extBut D.i2z⟩
    · have e := (hf b hb).1
      have : ∃ o, s.heap.get? b = some o := by
        simp at hb
        rcases hb with rfl | rfl | rfl | rfl | rfl
        · exact ⟨_, hz⟩
        · exact ⟨_, hI⟩
        · exact ⟨_, hO⟩
        · obtain ⟨o, e, _⟩ := h1; exact ⟨o, e⟩
        · obtain ⟨o, e, _⟩ := h2; exact ⟨o, e⟩
      obtain ⟨o, eo⟩ := this
      rw [zj (lt eo)]; exact e
  done := by
    intro X hP hw hK hc i pins s σ H E I hf st hg
    subst hP hw hK
    obtain ⟨hz, hI, ⟨a, b', hO⟩, h1, h2⟩ := st
    obtain ⟨xs, ys, q1, q2, le⟩ := hg
    obtain ⟨is1, r1, p1, _⟩ := I.list q1
    obtain ⟨is2, r2, p2, _⟩ := I.list q2
    have g1 := r1.length
    have g2 := r2.length
    refine wpAny_pyNext_zip_end (I.ok.hd hc) D hz hI hO h1 h2 p1.isList p2.isList (by rcases le with le | le; exact .inl (by simp; omega); exact .inr (by simp; omega)) fun h1' hk => ⟨rfl, I.turnedL (its := [z, TI, TO, i1, i2]) (t' := s.toks) (fun b o nb e => ?_) hf⟩
    have nb' : b ≠ z ∧ b ≠ TI ∧ b ≠ TO ∧ b ≠ i1 ∧ b ≠ i2 := by simpa using nb
    exact hk b o nb'.1 nb'.2.2.1 nb'.2.2.2.1 nb'.2.2.2.2 e
  self := fun _ _ _ _ _ st h => wpAny_pyIter_zip st.1 h
section
variable {X : Cx} {es : List Expr} {kt : Nat} {tp : Pos}
def iZip (K : PySem.W.Frag) (ta : TA) : TI := fun σ H R => ta σ H fun vs H1 => ∃ l1 l2, vs = [.ref l1, .ref l2] ∧ (∃ xs, SqL K H1 l1 xs) ∧ (∃ ys, SqL K H1 l2 ys) ∧ R (Itz K l1 l2) H1
theorem pi_zip {a b : Expr} {ta : TA} {p pos : Pos} (hg : Gl X "zip") (hm : X.mg "zip" = none) (ha : PA X [a, b] ta) (hs : starEach [a, b] X.env = [(false, eval a X.env), (false, eval b X.env)] := by rfl)
    (hs2 : starEach [b] X.env = [(false, eval b X.env)] := by rfl) : PI X (.Tuple es kt tp) (.Call (.Name "zip" p) [a, b] [] pos) (iZip X.K ta) := by
  intro pins s σ H R I h
  refine Call_ (ld_blt I hg hm boot_zip (PyProof.Rows.callWith_type1 (thn (ha pos pins s σ H _ I h) fun us s1 ⟨vs, H1, I1, r1, q1⟩ => ?_) (by rw [hs, hs2]) (by rw [hs2]; rfl)))
  obtain ⟨l1, l2, e, ⟨xs, x1⟩, ⟨ys, x2⟩, q⟩ := q1
  subst e
  obtain ⟨u, v, rfl, ru, rv⟩ := vals2 r1
  cases (show u = Value.ref l1 from ru)
  cases (show v = Value.ref l2 from rv)
  obtain ⟨is1, g1, p1, _⟩ := I1.list x1
  obtain ⟨is2, g2, p2, _⟩ := I1.list x2
  have L1 : l1 < s1.heap.objs.size := by obtain ⟨_, e, _⟩ := p1.isList; exact Heap.lt_size e
  have L2 : l2 < s1.heap.objs.size := by obtain ⟨_, e, _⟩ := p2.isList; exact Heap.lt_size e
  refine call_zip_2 p1.isList p2.isList fun h' a1 a2 a3 a4 a5 a6 hk => ?_
  refine wpAny_pyIter_zip (s := { s1 with heap := h' }) a1 ?_
  have J : Inv X pins σ H1 { s1 with heap := h' } := I1.kept (t' := s1.toks) fun b o e => hk b o e
  have fp : ∀ n, FpOk X pins H1 (s1.heap.objs.size + n) := fun n => I1.fpOk (Nat.le_add_right _ _) (I1.hok.fresh (Nat.le_add_right _ _))
  refine ⟨_, _, _, _, H1, rfl, J, turn_zip (zipApart_new L1 L2), ⟨a1, a2, ⟨_, _, a3⟩, a4, a5⟩, fun b hb => ?_, q⟩
  simp at hb
  rcases hb with rfl | rfl | rfl | rfl | rfl
  · exact fp 4
  · exact fp 2
  · exact fp 3
  · exact fp 0
  · exact fp 1
end
theorem for_zip {K : PySem.W.Frag} {l1 l2 : Addr} {xs ys : List V} {g : TG} {tb : TS} {D : Ends} {σ : St} {H : Hp} (Pv : Nat → St → Hp → Prop) (h0 : Pv 0 σ H) (hl : ∀ i σ H, i ≤ xs.length → Pv i σ H → SqL K H l1 xs ∧ SqL K H l2 ys) (he : ys.length = xs.length)
    (hs : ∀ i x y σ H T, xs[i]? = some x → ys[i]? = some y → Pv i σ H → H T = none → g (.ref T) σ (upd H T (.tup [x, y])) fun σ2 H2 => tb { D with nx := Pv (i + 1), ct := Pv (i + 1), bk := D.nx } σ2 H2) (hd : ∀ σ H, Pv xs.length σ H → D.nx σ H) :
    ∃ W : Nat → Nat → St → Hp → Prop, (∃ m, W 0 m σ H) ∧ ∀ i m σ H, W i m σ H →
      ((Itz K l1 l2).stop i H ∧ D.nx σ H) ∨ ((Itz K l1 l2).go i H ∧ ∃ N : St → Hp → Prop, (∀ σ' H', N σ' H' → ∃ m', m' < m ∧ W (i + 1) m' σ' H') ∧ ∀ x H', (Itz K l1 l2).yld i H x H' → g x σ H' fun σ2 H2 => tb { D with nx := N, ct := N, bk := D.nx } σ2 H2) := by
  refine ⟨fun i m σ H => m = xs.length - i ∧ i ≤ xs.length ∧ Pv i σ H, ⟨xs.length, by simp, Nat.zero_le _, h0⟩, ?_⟩
  rintro i m σ H ⟨rfl, hi, p⟩
  obtain ⟨q1, q2⟩ := hl i σ H hi p
  by_cases hlt : i < xs.length
  · refine .inr ⟨⟨xs, ys, xs[i], ys[i], q1, q2, by simp [hlt], by simp [he, hlt]⟩, Pv (i + 1), fun σ' H' p' => ⟨xs.length - (i + 1), by omega, rfl, hlt, p'⟩, fun x H' y => ?_⟩
    obtain ⟨T, u, v, e, nT, e', y⟩ := y
    subst e e'
    obtain ⟨y1, y2⟩ := y xs ys q1 q2
    exact hs i u v σ H T y1 y2 p nT
  · have e : i = xs.length := by omega
    subst e
    exact .inl ⟨⟨xs, ys, q1, q2, .inl (Nat.le_refl _)⟩, hd σ H p⟩
end L2
namespace L2
open PySem PySem.Spec PyProof.Rows
end L2
namespace L2
open PySem PySem.Spec PyProof.Rows
section
variable (P : Program) (w : World)
end
section
variable {P : Program} {w : World} {H H' : Hp} {h h' : Heap} {a : Addr} {o : HO}
end
section
variable {P : Program} {w : World} {H : Hp} {h h' : Heap} {x e : Addr} {o' : HO}
end
section
variable {fs fs' ex ex' : List Addr} {H H1 H2 : Hp} {h h1 h2 h' : Heap} {a x e : Addr} {o : HO}
end
end L2
namespace L2
open PySem PySem.Spec PyProof.Rows
section
variable {X : Cx} {pins : List (Addr × Obj)} {σ : List (Option V)} {H H' : Hp} {s : Shared} {h' : Heap}
end
end L2
namespace L2
open PySem PySem.Spec PyProof.Rows
section
variable {X : Cx}
variable {a b : Expr} {ta tb : TE} {pos : Pos}
variable {tA tB' : TT} {rest : List Expr}
end
end L2
namespace L2
open PySem PySem.Spec PyProof.Rows
section
variable {X : Cx} {pins : List (Addr × Obj)} {σ : St} {H : Hp} {s : Shared} {a : Addr} {xs ys : List V}
end
section
variable {X : Cx} {pins : List (Addr × Obj)} {σ : St} {H : Hp} {s : Shared} {E : Value → Shared → Prop}
end
section
variable {X : Cx} {st : Stmt} {rest : List Stmt} {t u : TS} {e : Expr} {te : TE} {pos : Pos}
end
section
variable {X : Cx} {pos : Pos}
end
section
variable {X : Cx} {pos : Pos}
end
end L2
namespace L2
open PySem PySem.Spec PyProof.Rows
section
variable {X : Cx} {tg : Expr}
end
end L2
namespace L2
open PySem PySem.Spec PyProof.Rows
section
variable {X : Cx} {a b c : Expr} {ta tb tc : TE} {pos : Pos}
end
section
variable {X : Cx} {a b c : Expr} {ta tb tc : TE} {pos : Pos}
end
end L2
namespace L2
open PySem PySem.Spec PyProof.Rows
section
variable {prog : Program} {w : World} {A : Around} {E : Value → Shared → Prop} {s : Shared} {K : PySem.W.Frag} {x dx C f : Addr} {mA : Str → Option Value} {name : Str} {v : Value}
end
section
variable {P : Program} {w : World} {H H' : Hp} {h h' : Heap} {a C dx : Addr} {fs fs' : List (Str × V)}
end
section
variable {X : Cx} {pins : List (Addr × Obj)} {σ : St} {H : Hp} {s : Shared} {a C dx : Addr} {fs : List (Str × V)} {f : Str} {v : V} {A : Around} {E : Value → Shared → Prop}
end
section
variable {X : Cx} {o e value : Expr} {f : Str} {pos pos' tpos : Pos} {ta tv : TE}
end
section
variable {X : Cx} {pins : List (Addr × Obj)} {σ : St} {H : Hp} {s : Shared} {A : Around} {E : Value → Shared → Prop} {Q : Value → Shared → Prop} {c : Value} {b : Bool}
end
end L2
namespace L2
open PySem PySem.Spec PyProof.Rows
section
variable {X : Cx} {e : Expr} {es : List Expr} {te : TE} {t : TA} {pos : Pos}
end
section
variable {X : Cx} {pins : List (Addr × Obj)} {σ : St} {H : Hp} {s s' : Shared}
end
section
variable {X : Cx} {CX : CXT} {k : Nat} {f C : Addr} {fd : FuncData} {ps : List Str} {sp : Sp} {dvs : List V} {ds : List Value} {E : XK} {x m : Str} {p pos apos : Pos} {e o : Expr} {es : List Expr} {ta : TE} {t : TA}
end
section
variable {X : Cx} {CX : CXT} {k : Nat} {f C : Addr} {fd : FuncData} {ps ks : List Str} {sp : Sp} {E : XK} {x m : Str} {p pos apos kpos : Pos} {e o : Expr} {es : List Expr} {kws : List Keyword} {te ta : TE} {t tk : TA} {nm : Option Str}
variable {g : List Value → List Value → List Value} {gV : List V → List V → List V}
end
end L2
namespace L2
open PySem PySem.Spec PyProof.Rows
section
variable {X : Cx} {x : Str} {p pos : Pos} {e : Expr} {es : List Expr} {t : TA} {id T : String} {r : List V → Hp → VK → Prop}
end
end L2
namespace L2
open PySem PySem.Spec PyProof.Rows
section
variable {κ : Type} [DecidableEq κ]
def yl (kvs : List (κ × V)) (k : κ) : Option V := (kvs.find? fun kv => decide (kv.1 = k)).map (·.2)
def putK (kvs : List (κ × V)) (k : κ) (v : V) : List (κ × V) :=
  if (kvs.any fun kv => decide (kv.1 = k)) = true then kvs.map (fun kv => if kv.1 = k then (kv.1, v) else kv) else kvs ++ [(k, v)]
theorem yv {p : κ × V} {r : List (κ × V)} {k : κ} (e : p.1 = k) : yl (p :: r) k = some p.2 := by simp [yl, List.find?_cons, e]
theorem yw {p : κ × V} {r : List (κ × V)} {k : κ} (e : ¬ p.1 = k) : yl (p :: r) k = yl r k := by simp [yl, List.find?_cons, e]
theorem valV_any (k : κ) : ∀ kvs : List (κ × V), (kvs.any fun kv => decide (kv.1 = k)) = (yl kvs k).isSome
  | [] => rfl
  | p :: r => by
    rw [List.any_cons]
    by_cases e : p.1 = k
    · simp only [yv e, decide_eq_true e, Bool.true_or, Option.isSome_some]
    · rw [yw e, decide_eq_false e, Bool.false_or]; exact valV_any k r
theorem valV_map (k j : κ) (y : V) : ∀ kvs : List (κ × V), yl (kvs.map fun kv => if kv.1 = k then (kv.1, y) else kv) j = (yl kvs j).map fun x => if j = k then y else x
  | [] => rfl
  | p :: r => by
    have ih := valV_map k j y r
    rw [List.map_cons]
    by_cases h : p.1 = k
    · rw [if_pos h]
      by_cases e : p.1 = j
      · rw [yv (p := (p.1, y)) e, yv e, Option.map_some, if_pos (e.symm.trans h)]
      · rw [yw (p := (p.1, y)) e, yw e, ih]
    · rw [if_neg h]
      by_cases e : p.1 = j
      · rw [yv (p := p) e, yv e, Option.map_some, if_neg (fun z => h (e.trans z))]
      · rw [yw (p := p) e, yw e, ih]
theorem valV_snoc (k j : κ) (y : V) : ∀ kvs : List (κ × V), yl kvs k = none → yl (kvs ++ [(k, y)]) j = if j = k then some y else yl kvs j
  | [], _ => by
    by_cases e : k = j
    · rw [if_pos e.symm]; exact yv (p := (k, y)) e
    · rw [if_neg (fun z => e z.symm)]; exact yw (p := (k, y)) e
  | p :: r, hn => by
    rw [List.cons_append]
    have hk : ¬ p.1 = k := fun z => by rw [yv z] at hn; cases hn
    rw [yw hk] at hn
    have ih := valV_snoc k j y r hn
    by_cases e : p.1 = j
    · rw [yv e, yv e, if_neg (fun z => hk (e.trans z))]
    · rw [yw e, yw e, ih]
theorem valV_put (kvs : List (κ × V)) (k j : κ) (y : V) : yl (putK kvs k y) j = if j = k then some y else yl kvs j := by
  unfold putK
  by_cases a : (kvs.any fun kv => decide (kv.1 = k)) = true
  · rw [if_pos a, valV_map]
    rw [valV_any] at a
    by_cases e : j = k
    · obtain ⟨x, hx⟩ := Option.isSome_iff_exists.mp a
      rw [if_pos e, e, hx, Option.map_some, if_pos rfl]
    · rw [if_neg e]
      cases yl kvs j with
      | none => rfl
      | some x => rw [Option.map_some, if_neg e]
  · rw [if_neg a]
    refine valV_snoc k j y kvs ?_
    rw [valV_any] at a
    cases q : yl kvs k with
    | none => rfl
    | some x => rw [q] at a; exact (a rfl).elim
theorem xc (kvs : List (κ × V)) (k : κ) (v : V) : (putK kvs k v).length ≤ kvs.length + 1 := by
  unfold putK
  split
  · rw [List.length_map]; omega
  · rw [List.length_append, List.length_cons, List.length_nil]; omega
theorem RelO.isSome_eq {o : Option V} {u : Option Value} (r : RelO o u) : o.isSome = u.isSome := by
  cases o with
  | none => cases u with
    | none => rfl
    | some _ => exact (show False from r).elim
  | some _ => cases u with
    | none => exact (show False from r).elim
    | some _ => rfl
theorem RelO.getD {o : Option V} {u : Option Value} {d : V} {d' : Value} (r : RelO o u) (rd : RelV d d') : RelV (o.getD d) (u.getD d') := by
  cases o with
  | none => cases u with
    | none => exact rd
    | some _ => exact (show False from r).elim
  | some _ => cases u with
    | none => exact (show False from r).elim
    | some _ => exact r
theorem KV.val {kvs : List (κ × V)} {vs : List (κ × Value)} (r : KV kvs vs) (k : κ) : RelO (yl kvs k) (valueAt vs k) := by
  unfold KV at r
  induction r with
  | nil => exact True.intro
  | @cons p q ps qs h t ih =>
    obtain ⟨h1, h2⟩ := h
    by_cases e : p.1 = k
    · have e' : q.1 = k := h1.symm.trans e
      have b : valueAt (q :: qs) k = some q.2 := by simp [valueAt, List.find?_cons, e']
      rw [yv e, b]; exact h2
    · have e' : ¬ q.1 = k := fun z => e (h1.trans z)
      have b : valueAt (q :: qs) k = valueAt qs k := by simp [valueAt, List.find?_cons, e']
      rw [yw e, b]; exact ih
theorem KV.any {kvs : List (κ × V)} {vs : List (κ × Value)} (r : KV kvs vs) (k : κ) : (kvs.any fun kv => decide (kv.1 = k)) = vs.any fun kv => decide (kv.1 = k) := by
  unfold KV at r
  induction r with
  | nil => rfl
  | cons h t ih => rw [List.any_cons, List.any_cons, ih, h.1]
theorem KV.repl {kvs : List (κ × V)} {vs : List (κ × Value)} (r : KV kvs vs) (k : κ) {y : V} {u : Value} (ry : RelV y u) :
    KV (kvs.map fun kv => if kv.1 = k then (kv.1, y) else kv) (vs.map fun kv => if kv.1 = k then (kv.1, u) else kv) := by
  unfold KV at r ⊢
  induction r with
  | nil => exact .nil
  | @cons p q ps qs h t ih =>
    rw [List.map_cons, List.map_cons]
    refine .cons ?_ ih
    obtain ⟨h1, h2⟩ := h
    by_cases e : p.1 = k
    · rw [if_pos e, if_pos (h1.symm.trans e)]; exact ⟨h1, ry⟩
    · rw [if_neg e, if_neg (fun z => e (h1.trans z))]; exact ⟨h1, h2⟩
theorem KV.put {kvs : List (κ × V)} {vs : List (κ × Value)} (r : KV kvs vs) (k : κ) {y : V} {u : Value} (ry : RelV y u) : KV (putK kvs k y) (stored vs k u) := by
  unfold putK stored
  rw [r.any k]
  by_cases e : (vs.any fun kv => decide (kv.1 = k)) = true
  · rw [if_pos e, if_pos e]; exact r.repl k ry
  · rw [if_neg e, if_neg e]; exact Paired.snoc r ⟨rfl, ry⟩
theorem KV.keys {kvs : List (κ × V)} {vs : List (κ × Value)} (r : KV kvs vs) : kvs.map (·.1) = vs.map (·.1) := by
  unfold KV at r
  induction r with
  | nil => rfl
  | cons h t ih => rw [List.map_cons, List.map_cons, ih, h.1]
theorem KV.length {kvs : List (κ × V)} {vs : List (κ × Value)} (r : KV kvs vs) : kvs.length = vs.length := Paired.length r
end
theorem kV_is {P : Program} {w : World} {k : Key} {u : Value} (r : RelV (kV k) u) : (zH P w).is k u = true := by
  cases k with
  | inl i => obtain ⟨t, e⟩ := (show ∃ t, u = Value.int i t from r); subst e; exact mixKind_int P w i t
  | inr x => obtain ⟨t, e⟩ := (show ∃ t, u = Value.str x t from r); subst e; exact mixKind_str P w x t
theorem items_are {P : Program} {w : World} : ∀ {ks : List Key} {us : List Value}, Vals (ks.map kV) us → ItemsAre (zH P w) ks us
  | [], _, r => by rw [List.map_nil] at r; cases r; exact .nil
  | k :: ks, _, r => by
    rw [List.map_cons] at r
    cases r with
    | cons h t => exact .cons (kV_is h) (items_are t)
abbrev KT (H : Hp) : List (List Key × V) → List (List Key × Addr × Value) → Prop := Paired fun p q => p.1 = q.1 ∧ H q.2.1 = some (.tup (p.1.map kV)) ∧ RelV p.2 q.2.2
theorem KT.val {H : Hp} {kvs : List (List Key × V)} {xs : List (List Key × Addr × Value)} (r : KT H kvs xs) (k : List Key) : RelO (yl kvs k) ((atKey xs k).map (·.2)) := by
  induction r with
  | nil => exact True.intro
  | @cons p q ps qs h t ih =>
    obtain ⟨h1, _, h2⟩ := h
    by_cases e : p.1 = k
    · have e' : q.1 = k := h1.symm.trans e
      have b : atKey (q :: qs) k = some q.2 := by simp [atKey, List.find?_cons, e']
      rw [yv e, b]; exact h2
    · have e' : ¬ q.1 = k := fun z => e (h1.trans z)
      have b : atKey (q :: qs) k = atKey qs k := by simp [atKey, List.find?_cons, e']
      rw [yw e, b]; exact ih
theorem KT.repl {H : Hp} {kvs : List (List Key × V)} {xs : List (List Key × Addr × Value)} (r : KT H kvs xs) (k : List Key) {y : V} {u : Value} (ry : RelV y u) :
    KT H (kvs.map fun kv => if kv.1 = k then (kv.1, y) else kv) (xs.map (putAt k u)) := by
  induction r with
  | nil => exact .nil
  | @cons p q ps qs h t ih =>
    rw [List.map_cons, List.map_cons]
    refine .cons ?_ ih
    obtain ⟨h1, h2, h3⟩ := h
    unfold putAt
    by_cases e : p.1 = k
    · rw [if_pos e, if_pos (h1.symm.trans e)]; exact ⟨h1, h2, ry⟩
    · rw [if_neg e, if_neg (fun z => e (h1.trans z))]; exact ⟨h1, h2, h3⟩
theorem KT.put {H : Hp} {kvs : List (List Key × V)} {xs : List (List Key × Addr × Value)} (r : KT H kvs xs) (k : List Key) {b : Addr} {y : V} {u : Value} (hb : H b = some (.tup (k.map kV))) (ry : RelV y u) :
    KT H (putK kvs k y) (storedH xs k b u) := by
  have e : (kvs.any fun kv => decide (kv.1 = k)) = (atKey xs k).isSome := by
    rw [valV_any, (r.val k).isSome_eq, Option.isSome_map]
  unfold putK storedH
  rw [e]
  by_cases q : (atKey xs k).isSome = true
  · rw [if_pos q, if_pos q]; exact r.repl k ry
  · rw [if_neg q, if_neg q]; exact Paired.snoc r ⟨rfl, hb, ry⟩
theorem KT.keeps {H H' : Hp} {kvs : List (List Key × V)} {xs : List (List Key × Addr × Value)} (r : KT H kvs xs) (ht : ∀ b ys, H b = some (.tup ys) → H' b = some (.tup ys)) : KT H' kvs xs :=
  Paired.mapP r fun _ _ z => ⟨z.1, ht _ _ z.2.1, z.2.2⟩
section
variable {P : Program} {w : World} {H : Hp} {h : Heap} {a : Addr}
theorem rd_of {u : HO} (ok : HOk P w H h) (e : Rd H a u) : ObjOk P w H h a u := e.ok ok
theorem dk_rd {kvs : List (Key × V)} (ok : HOk P w H h) (e : Rd H a (.dK kvs)) : kvs.length ≤ sizeLine ∧ (a == sysModules) = false ∧ ∃ vs, KV kvs vs ∧ h.DictOf (zH P w) a vs :=
  show ObjOk P w H h a (.dK kvs) from rd_of ok e
theorem dk_of {kvs : List (Key × V)} (ok : HOk P w H h) (e : H a = some (.dK kvs)) : kvs.length ≤ sizeLine ∧ (a == sysModules) = false ∧ ∃ vs, KV kvs vs ∧ h.DictOf (zH P w) a vs := dk_rd ok (.inl e)
theorem key_of {ks : List Key} (ok : HOk P w H h) (e : H a = some (.tup (ks.map kV))) : (tupleKind (zH P w)).is h ks a := by
  obtain ⟨_, its, r, o, h1, h2, n, h3⟩ := (show ObjOk P w H h a (.tup (ks.map kV)) from ok a _ e)
  exact ⟨o, its.toArray, n, h1, h2, h3, by simpa using items_are r⟩
theorem dt_rd {kvs : List (List Key × V)} (ok : HOk P w H h) (e : Rd H a (.dT kvs)) : kvs.length ≤ sizeLine ∧ (a == sysModules) = false ∧
    ∃ xs, KT H kvs xs ∧ h.DictOfH (tupleKind (zH P w)) a xs := by
  obtain ⟨z, y, xs, r, o, es, ep, h1, h2, h3, h4, h5⟩ := (show ObjOk P w H h a (.dT kvs) from rd_of ok e)
  refine ⟨z, y, xs, r, o, es, ep, h1, h2, h3, h4, fun x hx => ?_, h5⟩
  have all : ∀ {l : List (List Key × V)} {m : List (List Key × Addr × Value)}, KT H l m → ∀ x ∈ m, (tupleKind (zH P w)).is h x.1 x.2.1 := by
    intro l m q
    induction q with
    | nil => intro x hx; exact nomatch hx
    | @cons p q ps qs hq t ih =>
      intro x hx
      rcases List.mem_cons.mp hx with e | hx
      · subst e
        exact key_of ok (by rw [← hq.1]; exact hq.2.1)
      · exact ih x hx
  exact all r x hx
theorem dt_of {kvs : List (List Key × V)} (ok : HOk P w H h) (e : H a = some (.dT kvs)) : kvs.length ≤ sizeLine ∧ (a == sysModules) = false ∧
    ∃ xs, KT H kvs xs ∧ h.DictOfH (tupleKind (zH P w)) a xs := dt_rd ok (.inl e)
end
def DGet (H : Hp) (a : Addr) (y : V) (r : Option V) : Prop :=
  (∃ kvs k, Rd H a (.dK kvs) ∧ y = kV k ∧ r = yl kvs k) ∨ ∃ kvs k b, Rd H a (.dT kvs) ∧ y = .ref b ∧ H b = some (.tup (k.map kV)) ∧ r = yl kvs k
def DPut (H : Hp) (a : Addr) (y v : V) (H' : Hp) : Prop :=
  (∃ kvs k, H a = some (.dK kvs) ∧ y = kV k ∧ kvs.length < sizeLine ∧ H' = upd H a (.dK (putK kvs k v))) ∨
  ∃ kvs k b, H a = some (.dT kvs) ∧ y = .ref b ∧ H b = some (.tup (k.map kV)) ∧ kvs.length < sizeLine ∧ H' = upd H a (.dT (putK kvs k v))
theorem DGet.k {H : Hp} {a : Addr} {kvs : List (Key × V)} {k : Key} (e : H a = some (.dK kvs)) : DGet H a (kV k) (yl kvs k) := .inl ⟨kvs, k, .inl e, rfl, rfl⟩
theorem DPut.k {H : Hp} {a : Addr} {kvs : List (Key × V)} {k : Key} {v : V} (e : H a = some (.dK kvs)) (hl : kvs.length < sizeLine) : DPut H a (kV k) v (upd H a (.dK (putK kvs k v))) := .inl ⟨kvs, k, e, rfl, hl, rfl⟩
section
variable {X : Cx} {pins : List (Addr × Obj)} {σ : St} {H : Hp} {s : Shared} {a : Addr} {y v : V} {u r : Value} {o : Option V} {A : Around} {E : Value → Shared → Prop}
theorem Inv.big (I : Inv X pins σ H s) : sysModules < s.heap.objs.size := by
  have h : mainGlobals < s.heap.objs.size := (I.mod.glob.keeps I.bk).lt
  exact Nat.lt_trans (by decide) h
theorem d_getItem {Q : Value → Shared → Prop} (hu : A.units + 1 < cLine) (I : Inv X pins σ H s) (g : DGet H a y (some v)) (ry : RelV y u) (h : ∀ w' s', Inv X pins σ H s' → RelV v w' → Q w' s') :
    wpAny (model X.prog X.w) A (getItem (.ref a) u) Q E s := by
  rcases g with ⟨kvs, k, e, ey, l⟩ | ⟨kvs, k, b, e, ey, eb, l⟩
  · subst ey
    obtain ⟨z, hd, vs, rel, dd⟩ := dk_rd I.hok e
    obtain ⟨w', hw, rw'⟩ := RelO.some_of (v := v) (o := valueAt vs k) (by rw [l]; exact rel.val k)
    exact wpAny_getItem_of (kV_is ry) dd.mapOf hw (h w' _ (I.tok _) rw')
  · subst ey
    cases (show u = Value.ref b from ry)
    obtain ⟨z, hd, xs, rel, dd⟩ := dt_rd I.hok e
    obtain ⟨w', hw, rw'⟩ := RelO.some_of (v := v) (o := (atKey xs k).map (·.2)) (by rw [l]; exact rel.val k)
    obtain ⟨p, hp, hp2⟩ := Option.map_eq_some_iff.mp hw
    refine wpAny_getItem_heap (tupleKind_room_in1 hu) (key_of I.hok eb) dd hp ?_
    rw [hp2]
    exact h w' _ (I.tok _) rw'
theorem d_notIn {Q : Value → Shared → Prop} (hu : A.units + 1 < cLine) (I : Inv X pins σ H s) (g : DGet H a y o) (ry : RelV y u) (h : ∀ s', Inv X pins σ H s' → Q (.bool (!o.isSome)) s') :
    wpAny (model X.prog X.w) A (compareOp .NotIn u (.ref a)) Q E s := by
  rcases g with ⟨kvs, k, e, ey, l⟩ | ⟨kvs, k, b, e, ey, eb, l⟩
  · subst ey
    obtain ⟨z, hd, vs, rel, dd⟩ := dk_rd I.hok e
    refine wpAny_notIn_of (kV_is ry) hd dd.mapOf ?_
    rw [← (rel.val k).isSome_eq, ← l]
    exact h _ (I.tok _)
  · subst ey
    cases (show u = Value.ref b from ry)
    obtain ⟨z, hd, xs, rel, dd⟩ := dt_rd I.hok e
    refine wpAny_notIn_heap (tupleKind_room_in1 hu) (key_of I.hok eb) hd dd ?_
    have q := (rel.val k).isSome_eq
    rw [Option.isSome_map] at q
    rw [← q, ← l]
    exact h _ (I.tok _)
theorem d_write {h' : Heap} {t' : Nat} {ob : HO} (I : Inv X pins σ H s) (mu : Mut (H a)) (hs : Heap.SameBut a s.heap h') (he : ∃ q, h'.get? a = some q) (new : ObjOk X.prog X.w (upd H a ob) h' a ob) :
    Inv X pins σ (upd H a ob) { s with heap := h', toks := t' } :=
  I.write (x := a) (e := a) mu (.inl rfl) (fun b q hb z => (hs.2 b hb).trans z) he new
theorem dk_new {P : Program} {w : World} {H' : Hp} {h' : Heap} {kvs : List (Key × V)} {vs : List (Key × Value)} (z : kvs.length ≤ sizeLine) (hd : (a == sysModules) = false) (rel : KV kvs vs) (dd : h'.DictOf (zH P w) a vs) :
    ObjOk P w H' h' a (.dK kvs) := ⟨z, hd, vs, rel, dd⟩
theorem d_setItem {H' : Hp} {Q : Unit → Shared → Prop} (hu : A.units + 1 < cLine) (I : Inv X pins σ H s) (g : DPut H a y v H') (ry : RelV y u) (rv : RelV v r) (h : ∀ s', Inv X pins σ H' s' → Q () s') :
    wpAny (model X.prog X.w) A (setItem (.ref a) u r) Q E s := by
  rcases g with ⟨kvs, k, e, ey, l, eH⟩ | ⟨kvs, k, b, e, ey, eb, l, eH⟩
  · subst ey eH
    obtain ⟨z, hd, vs, rel, dd⟩ := dk_of I.hok e
    have hz : vs.length ≤ sizeLine := by rw [← rel.length]; exact z
    have hl : (putK kvs k v).length ≤ sizeLine := by have := xc kvs k v; omega
    refine wpAny_setItem_pairs (hsz := hz) (kV_is ry) dd fun h' dd' hs => h _ ?_
    have he : ∃ q, h'.get? a = some q := let ⟨q, _, _, hq, _⟩ := dd'; ⟨q, hq⟩
    exact d_write I (by rw [e]; exact True.intro) hs he (dk_new hl hd (rel.put k rv) dd')
  · subst ey eH
    cases (show u = Value.ref b from ry)
    obtain ⟨z, hd, xs, rel, dd⟩ := dt_of I.hok e
    have hz : xs.length ≤ sizeLine := by rw [← Paired.length rel]; exact z
    have hl : (putK kvs k v).length ≤ sizeLine := by have := xc kvs k v; omega
    refine wpAny_setItem_heap (hsz := hz) (tupleKind_room_in1 hu) (key_of I.hok eb) dd fun h' dd' hs => h _ ?_
    obtain ⟨q, es, ep, hq, h2, h3, h4, _, h5⟩ := dd'
    refine d_write I (by rw [e]; exact True.intro) hs ⟨q, hq⟩ ⟨hl, hd, _, (rel.put k eb rv).keeps fun c ys ec => ?_, q, es, ep, hq, h2, h3, h4, h5⟩
    rw [zj (ne_of ec e (fun z => nomatch z))]
    exact ec
end
section
variable {X : Cx} {pins : List (Addr × Obj)} {σ : St} {H : Hp} {s : Shared} {a : Addr} {kvs : List (Key × V)} {k : Key} {u : Value} {A : Around} {E : Value → Shared → Prop}
end
def NoSl (i : Expr) : Prop := ∀ ov iv, subscripted i false ov iv = operate [ov, iv] (getItem ov iv)
theorem subD_of {prog : Program} {w : World} {A : Around} {E : Value → Shared → Prop} {s : Shared} {env : Env} {value slice : Expr} {pos : Pos} {T id : String} {Q : Value → Shared → Prop}
    (hl : typeLookup (.type T) "__getitem__" = pure (some (.builtin id))) (hs : NoSl slice)
    (h : wpAny (model prog w) A (eval value env) (fun o s₁ => wpAny (model prog w) A (eval slice env) (fun i s₂ => s₂.TypeIs o T ∧ wpAny (model prog w) A (getItem o i) Q E s₂) E s₁) E s) :
    wpAny (model prog w) A (eval (.Subscript value slice pos) env) Q E s := by
  refine Subscript_ (wpAny_mono h (fun o s₁ h₁ => wpAny_mono h₁ (fun i s₂ h₂ => ?_) fun _ _ x => x) fun _ _ x => x)
  obtain ⟨hT, h₂⟩ := h₂
  unfold subscriptTail
  refine wpAny_bind ?_
  rw [getitemInPython_of_ne hT.not_modules]
  refine wpAny_bind (wpAny_specialOf hT hl ?_)
  have fin : wpAny (model prog w) A (subscripted slice false o i) (fun r s₃ => wpAny (model prog w) A (letTemporaryGo value o r >>= fun _ => pure r) Q E s₃) E s₂ := by
    rw [hs o i]
    exact wpAny_operating (wpAny_mono h₂ (fun r s₃ h₃ => wpAny_bind (wpAny_letTemporaryGo (wpAny_pure h₃))) fun _ _ x => x)
  first
    | exact wpAny_pure (wpAny_bind fin)
    | exact wpAny_bind (wpAny_pure (wpAny_bind fin))
    | exact wpAny_bind fin
theorem dict_typeIs {X : Cx} {pins : List (Addr × Obj)} {σ : St} {H : Hp} {s : Shared} {a : Addr} {y : V} {o : Option V} (I : Inv X pins σ H s) (g : DGet H a y o) : s.TypeIs (.ref a) "dict" := by
  rcases g with ⟨kvs, k, e, _, _⟩ | ⟨kvs, k, b, e, _, _, _⟩
  · obtain ⟨_, _, vs, _, dd⟩ := dk_rd I.hok e
    exact dd.typeIs
  · obtain ⟨_, _, xs, _, dd⟩ := dt_rd I.hok e
    exact dd.typeIs
def tDGet (td ty : TE) : TE := fun σ H Q => td σ H fun x H1 => ty σ H1 fun y H2 => ∃ a v, x = .ref a ∧ DGet H2 a y (some v) ∧ Q v H2
def tDNotIn (ty td : TE) : TE := fun σ H Q => ty σ H fun y H1 => td σ H1 fun x H2 => ∃ a o, x = .ref a ∧ DGet H2 a y o ∧ Q (.bl (!o.isSome)) H2
def sDPut (td ty tv : TE) : TS := fun D σ H => tv σ H fun v H1 => td σ H1 fun x H2 => ty σ H2 fun y H3 => ∃ a H4, x = .ref a ∧ DPut H3 a y v H4 ∧ D.nx σ H4
section
variable {X : Cx} {o i e value : Expr} {pos pos' tpos : Pos} {td ty tv : TE}
theorem pe_dget (hu : X.A.units + 1 < cLine) (ho : PE X o td) (hi : PE X i ty) (hs : NoSl i) : PE X (.Subscript o i pos) (tDGet td ty) := by
  intro pins s σ H Q I h
  refine subD_of PySem.F.slot_dict_getitem.lookup hs (thn (ho pins s σ H _ I h) fun u s1 ⟨x, H1, I1, rx, q1⟩ => thn (hi pins s1 σ H1 _ I1 q1) fun iv s2 ⟨y, H2, I2, ry, a, v, ex, g, q2⟩ => ?_)
  subst ex
  obtain rfl : u = Value.ref a := rx
  exact ⟨dict_typeIs I2 g, d_getItem hu I2 g ry fun w' s3 I3 rw' => ⟨v, H2, I3, rw', q2⟩⟩
theorem pc_dnotin (hu : X.A.units + 1 < cLine) (hi : PE X i ty) (ho : PE X o td) : PC X .NotIn i o (tDNotIn ty td) := by
  intro pins s σ H Q I h
  refine thn (hi pins s σ H _ I h) fun iv s1 ⟨y, H1, I1, ry, q1⟩ => thn (ho pins s1 σ H1 _ I1 q1) fun u s2 ⟨x, H2, I2, rx, a, ov, ex, g, q2⟩ => ?_
  subst ex
  obtain rfl : u = Value.ref a := rx
  exact d_notIn hu I2 g ry fun s3 I3 => ⟨.bl (!ov.isSome), H2, I3, rfl, q2⟩
theorem ps_dput (hu : X.A.units + 1 < cLine) (ho : PE X o td) (hi : PE X i ty) (hv : PE X value tv) (hs : swapsWith value (some (.Subscript o i pos')) pos.line X.env = pure false) :
    PS X (.Assign [.Subscript o i pos'] value pos) (sDPut td ty tv) := by
  intro pins s σ H D I h
  refine wpAny_Assign_Subscript (thn (hv pins s σ H _ I h) fun r s1 ⟨v, H1, I1, rv, q1⟩ => thn (ho pins s1 σ H1 _ I1 q1) fun u s2 ⟨x, H2, I2, rx, q2⟩ => thn (hi pins s2 σ H2 _ I2 q2) fun iv s3 ⟨y, H3, I3, ry, a, H4, ex, g, q3⟩ => ?_) hs
  subst ex
  obtain rfl : u = Value.ref a := rx
  exact d_setItem hu I3 g ry rv fun s4 I4 => ⟨σ, H4, I4, q3⟩
end
theorem dk_empty {P : Program} {w : World} {H : Hp} (h : Heap) (hb : sysModules < h.objs.size) : ObjOk P w H (h.push { cls := .type "dict", data := .dict #[] }) h.objs.size (.dK []) :=
  ⟨Nat.zero_le _, beq_eq_false_iff_ne.mpr (Ne.symm (Nat.ne_of_lt hb)), [], .nil, Heap.DictOf.new h⟩
def tDNewK : TE := fun _ H Q => ∀ p, H p = none → Q (.ref p) (upd H p (.dK []))
section
variable {X : Cx} {pos : Pos}
theorem pe_dnewK : PE X (.Dict [] [] pos) tDNewK := fun pins s σ H Q I h =>
  wpAny_Dict_empty ⟨.ref s.heap.objs.size, _, I.laid (a := s.heap.objs.size) (o := .dK []) (t' := s.toks) (fun _ _ q => Heap.get?_push_of_some _ q) (Nat.le_refl _) (dk_empty s.heap I.big), rfl, h _ (I.hok.fresh (Nat.le_refl _))⟩
end
structure M1 (X : Cx) (o : Expr) (m : Str) (apos : Pos) (e : Expr) (cpos : Pos) : Prop where
  base : attributeBase o m X.env (eval o X.env) = eval o X.env
  few : ((backTo cpos (starEach [e] X.env)).all (fun x => !x.1) && (backToKw cpos (keywordEach [] X.env)).all (fun x => x.1.isSome)
    && decide (([e] : List Expr).length + ([] : List Keyword).length + (if ([] : List Keyword).isEmpty then 0 else 1) < 30)) = true
  line : (apos.endLine == cpos.line) = true
  trees : backTo cpos (starEach [e] X.env) = [(false, eval e X.env)]
structure M2 (X : Cx) (o : Expr) (m : Str) (apos : Pos) (e f : Expr) (cpos : Pos) : Prop where
  base : attributeBase o m X.env (eval o X.env) = eval o X.env
  few : ((backTo cpos (starEach [e, f] X.env)).all (fun x => !x.1) && (backToKw cpos (keywordEach [] X.env)).all (fun x => x.1.isSome)
    && decide (([e, f] : List Expr).length + ([] : List Keyword).length + (if ([] : List Keyword).isEmpty then 0 else 1) < 30)) = true
  line : (apos.endLine == cpos.line) = true
  trees : backTo cpos (starEach [e, f] X.env) = [(false, eval e X.env), (false, eval f X.env)]
def IsD (H : Hp) (a : Addr) : Prop := (∃ kvs, Rd H a (.dK kvs)) ∨ ∃ kvs, Rd H a (.dT kvs)
theorem isD_at {X : Cx} {pins : List (Addr × Obj)} {σ : St} {H : Hp} {s : Shared} {a : Addr} (I : Inv X pins σ H s) (d : IsD H a) :
    s.TypeIs (.ref a) "dict" ∧ (∀ b, Value.ref a = .ref b → ∃ ob, s.heap.get? b = some ob ∧ ob.dict = none) ∧ (a == sysModules) = false := by
  rcases d with ⟨kvs, e⟩ | ⟨kvs, e⟩
  · obtain ⟨_, hd, vs, _, dd⟩ := dk_rd I.hok e
    refine ⟨dd.typeIs, fun b q => ?_, hd⟩
    cases q
    obtain ⟨ob, _, _, h1, h2, _⟩ := dd
    exact ⟨ob, h1, h2.2.1⟩
  · obtain ⟨_, hd, xs, _, dd⟩ := dt_rd I.hok e
    refine ⟨dd.typeIs, fun b q => ?_, hd⟩
    cases q
    obtain ⟨ob, _, _, h1, h2, _⟩ := dd
    exact ⟨ob, h1, h2.2.1⟩
section
variable {X : Cx} {pins : List (Addr × Obj)} {σ : St} {H : Hp} {s : Shared} {a : Addr} {y d : V} {u r : Value} {o : Option V} {A : Around} {E : Value → Shared → Prop}
theorem d_get1 {Q : Value → Shared → Prop} (hu : A.units + 1 < cLine) (I : Inv X pins σ H s) (g : DGet H a y o) (ry : RelV y u) (h : ∀ w' s', Inv X pins σ H s' → RelV (o.getD .non) w' → Q w' s') :
    wpAny (model X.prog X.w) A (call (.builtin "dict.get") [.ref a, u]) Q E s := by
  rcases g with ⟨kvs, k, e, ey, l⟩ | ⟨kvs, k, b, e, ey, eb, l⟩
  · subst ey
    obtain ⟨z, hd, vs, rel, dd⟩ := dk_rd I.hok e
    refine call_meetsIn PySem.F.slot_dict_get dd.typeIs PySem.F.entry_dict_get (PySem.F.args_dict_get_2 _ _) (meets_dict_get (zH X.prog X.w) a (kV_is ry) hd) ⟨_, dd.mapOf, h _ _ (I.tok _) ?_⟩
    rw [l]
    exact (rel.val k).getD rfl
  · subst ey
    cases (show u = Value.ref b from ry)
    obtain ⟨z, hd, xs, rel, dd⟩ := dt_rd I.hok e
    refine call_meetsIn PySem.F.slot_dict_get dd.typeIs PySem.F.entry_dict_get (PySem.F.args_dict_get_2 _ _) (meetsH_dict_get (tupleKind (zH X.prog X.w)) a b hd) ⟨tupleKind_room_in1 hu, k, xs, key_of I.hok eb, dd, h _ _ (I.tok _) ?_⟩
    rw [l]
    exact (rel.val k).getD rfl
end
def tDGet1 (td ty : TE) : TE := fun σ H Q => td σ H fun x H1 => ∃ a, x = .ref a ∧ IsD H1 a ∧ ty σ H1 fun y H2 => ∃ o, DGet H2 a y o ∧ Q (o.getD .non) H2
section
variable {X : Cx} {o e f : Expr} {apos cpos : Pos} {td ty tx : TE}
theorem pe_dget1 (hu : X.A.units + 1 < cLine) (ho : PE X o td) (he : PE X e ty) (m : M1 X o "get" apos e cpos) : PE X (.Call (.Attribute o "get" apos) [e] [] cpos) (tDGet1 td ty) := by
  intro pins s σ H Q I h
  refine wpAny_Call_method m.base m.few m.line PySem.F.plainAttrs_dict PySem.F.slot_dict_get PySem.F.type_dict_get (thn (ho pins s σ H _ I h) fun u s1 ⟨x, H1, I1, rx, a, ex, d, q1⟩ => ?_)
  subst ex
  obtain rfl : u = Value.ref a := rx
  obtain ⟨t1, t2, _⟩ := isD_at I1 d
  refine ⟨t1, t2, ?_⟩
  rw [m.trees]
  refine Calls.callWith_builtin rfl (Calls.evalArgs_plain (Calls.spliced_cons (thn (he pins s1 σ H1 _ I1 q1) fun iv s2 ⟨y, H2, I2, ry, ov, g, q2⟩ => Calls.spliced_nil ?_)))
  exact d_get1 hu I2 g ry fun w' s3 I3 rw' => ⟨_, H2, I3, rw', q2⟩
end
section
variable {X : Cx} {pins : List (Addr × Obj)} {σ : St} {H : Hp} {s : Shared} {a : Addr} {kvs : List (Key × V)} {A : Around} {E : Value → Shared → Prop}
end
section
variable {X : Cx} {pins : List (Addr × Obj)} {σ : St} {H : Hp} {s : Shared} {a : Addr} {y : V} {u : Value} {A : Around} {E : Value → Shared → Prop}
end
end L2
namespace Att
open PySem PySem.W PySem.Calls PyProof.Rows
section
variable {prog : Program} {w : World} {A : Around} {E : Value → Shared → Prop} {s : Shared} {K : Frag}
end
end Att
namespace L2
open PySem PySem.Spec PyProof.Rows
end L2
namespace L2
open PySem PySem.Spec PyProof.Rows
end L2
namespace L2
open PySem PySem.Spec PyProof.Rows
section
variable {P : Program} {w : World} {K : PySem.W.Frag} {mg : Str → Option Value} {base : Heap}
end
section
variable {X : Cx}
end
section
variable {κ : Type} [DecidableEq κ]
end
end L2
namespace L2
open PySem PySem.Spec PyProof.Rows
abbrev IsZipK (h : Heap) (z TI TO T : Addr) (f1 : Value) : Prop :=
  h.get? z = some { cls := .type "zip", dict := none, data := .fields #[rawInt T, f1, .bool false, .ref TI, .ref TO], slots := #[] }
section
variable {prog : Program} {w : World} {A : Around} {E : Value → Shared → Prop} {s : Shared}
theorem alive_at {a : Addr} {Q : Option Obj → Shared → Prop} (h : Q (s.heap.get? a) s) : wpAny (model prog w) A (loadIfAlive a) Q E s := fun _ _ _ => h
theorem zip_slow_free {z TI TO T : Addr} {b1 : Bool} {Q : Bool → Shared → Prop} (zz : IsZipK s.heap z TI TO T (.bool b1)) (al : ∃ o, s.heap.get? T = some o)
    (q : ∀ h2, IsZipK h2 z TI TO T (.bool true) → Heap.SameBut z s.heap h2 → Q false { s with heap := h2 }) : wpAny (model prog w) A (Builtin.SmallTypes.ownedTupleIsFree (.ref z)) Q E s := by
  obtain ⟨o, eo⟩ := al
  unfold Builtin.SmallTypes.ownedTupleIsFree
  refine wpAny_bind (wpAny_field zz rfl (x := rawInt T) rfl ?_)
  show wpAny _ _ (loadIfAlive (T : Int).toNat >>= _) _ _ _
  refine wpAny_bind (alive_at ?_)
  rw [Int.toNat_natCast, eo]
  simp only [Option.isNone_some, Bool.false_eq_true, if_false]
  refine wpAny_bind (wpAny_field zz rfl (x := .bool b1) rfl ?_)
  cases b1 with
  | true =>
    rw [if_neg (by decide)]
    exact wpAny_pure (q s.heap zz (Heap.SameBut.refl ..))
  | false =>
    rw [if_pos (by decide)]
    refine wpAny_bind (wpAny_setField_rec zz (by simp) fun h2 z2 sb => wpAny_pure (q h2 z2 sb))
theorem zip_slow_item {z TI TO T i1 i2 l1 l2 : Addr} {b1 : Bool} {k : Nat} {xs ys : Array Value} {x y : Value} {Q : Option Value → Shared → Prop} (D : ZipApart z TI TO i1 i2 l1 l2) (zz : IsZipK s.heap z TI TO T (.bool b1)) (al : ∃ o, s.heap.get? T = some o)
    (pI : IsPair s.heap TI (.ref i1) (.ref i2)) (h1 : s.heap.IsListIter i1 l1 k) (h2 : s.heap.IsListIter i2 l2 k) (hl1 : s.heap.IsList l1 xs) (hl2 : s.heap.IsList l2 ys) (ex : xs[k]? = some x) (ey : ys[k]? = some y)
    (q : ∀ h', IsZipK h' z TI TO T (.bool true) → h'.IsListIter i1 l1 (k + 1) → h'.IsListIter i2 l2 (k + 1) → IsPair h' s.heap.objs.size x y → (∀ c o, c ≠ z → c ≠ i1 → c ≠ i2 → s.heap.get? c = some o → h'.get? c = some o) → h'.objs.size = s.heap.objs.size + 1 → Q (some (.ref s.heap.objs.size)) { s with heap := h' }) :
    wpAny (model prog w) A (pyNext (.ref z)) Q E s := by
  have ty : s.TypeIs (.ref z) "zip" := ⟨_, zz, rfl⟩
  unfold pyNext
  refine wpAny_bind (wpAny_attempt (wpAny_callSpecial?_slot (name := Str.ofString "__next__") ty F.slot_zip_next (wpAny_call_entry F.slot_zip_next ty F.entry_zip_next ?_ (F.args_zip_next_1 _))))
  show wpAny _ _ (field (.ref z) 2 >>= _) _ _ _
  refine wpAny_bind (wpAny_field zz rfl (x := .bool false) rfl ?_); show wpAny _ _ (field (.ref z) 3 >>= _) _ _ _
  refine wpAny_bind (wpAny_field zz rfl (x := .ref TI) rfl ?_); refine wpAny_bind (wpAny_seqItems pI rfl ?_)
  show wpAny _ _ (Builtin.SmallTypes.ownedTupleIsFree (.ref z) >>= _) _ _ _
  refine wpAny_bind (zip_slow_free zz al fun h3 z3 sb => ?_)
  simp only [Bool.false_eq_true, if_false]
  rw [show (forIn (#[Value.ref i1, Value.ref i2] : Array Value) : (Option Fin × Array Value) → _ → Sem _) = forIn [Value.ref i1, Value.ref i2] from funext fun _ => funext fun _ => by simp]
  simp only [List.forIn_cons, List.forIn_nil]
  have h13 := h1.extBut sb.extBut D.i1z
  have h23 := h2.extBut sb.extBut D.i2z
  have hl13 := hl1.extBut sb.extBut D.l1z
  have hl23 := hl2.extBut sb.extBut D.l2z
  refine wpAny_bind (wpAny_bind (wpAny_bind (wpAny_holding ?_)))
  show wpAny _ _ (Builtin.SmallTypes.nextOf (.ref i1) >>= _) _ _ _
  refine wpAny_bind (wpAny_nextOf_list_item h13 hl13 ex fun h4 a4 sb4 => wpAny_pure (wpAny_pure ?_))
  refine wpAny_bind (wpAny_bind (wpAny_holding ?_))
  show wpAny _ _ (Builtin.SmallTypes.nextOf (.ref i2) >>= _) _ _ _
  refine wpAny_bind (wpAny_nextOf_list_item (h23.extBut sb4.extBut D.i12.symm) (hl23.extBut sb4.extBut D.l2i1) ey fun h5 a5 sb5 => wpAny_pure (wpAny_pure (wpAny_pure ?_)))
  show wpAny _ _ (newTuple [x, y] >>= _) _ _ _
  refine wpAny_bind (wpAny_newTuple ?_)
  have sz : h5.objs.size = s.heap.objs.size := by rw [sb5.1, sb4.1, sb.1]
  have up : ∀ c o, c ≠ z → c ≠ i1 → c ≠ i2 → s.heap.get? c = some o → (h5.push { cls := .type "tuple", data := .seq #[x, y] }).get? c = some o := fun c o c1 c2 c3 e => Heap.get?_push_of_some _ (sb5.extBut _ _ c3 (sb4.extBut _ _ c2 (sb.extBut _ _ c1 e)))
  refine wpAny_pure ⟨_, rfl, wpAny_pure ?_⟩
  show Q (some (.ref h5.objs.size)) _
  rw [sz]
  have fin := q (h5.push { cls := .type "tuple", data := .seq #[x, y] }) (Heap.get?_push_of_some _ (sb5.extBut _ _ D.i2z.symm (sb4.extBut _ _ D.i1z.symm z3))) ((a4.extBut sb5.extBut D.i12).at fun o e => Heap.get?_push_of_some _ e) (a5.at fun o e => Heap.get?_push_of_some _ e) (by rw [← sz]; exact Heap.get?_push_size _ rfl) up (by rw [Heap.size_push, sz])
  exact fin
theorem zip_slow_end {z TI TO T i1 i2 l1 l2 : Addr} {b1 : Bool} {k : Nat} {xs ys : Array Value} {Q : Option Value → Shared → Prop} (hd : A.handled = none) (D : ZipApart z TI TO i1 i2 l1 l2) (zz : IsZipK s.heap z TI TO T (.bool b1)) (al : ∃ o, s.heap.get? T = some o)
    (pI : IsPair s.heap TI (.ref i1) (.ref i2)) (h1 : s.heap.IsListIter i1 l1 k) (hl1 : s.heap.IsList l1 xs) (ex : xs[k]? = none)
    (q : ∀ h', (∀ c o, c ≠ z → c ≠ i1 → c ≠ i2 → s.heap.get? c = some o → h'.get? c = some o) → Q none { s with heap := h' }) :
    wpAny (model prog w) A (pyNext (.ref z)) Q E s := by
  have ty : s.TypeIs (.ref z) "zip" := ⟨_, zz, rfl⟩
  unfold pyNext
  refine wpAny_bind (wpAny_attempt (wpAny_callSpecial?_slot (name := Str.ofString "__next__") ty F.slot_zip_next (wpAny_call_entry F.slot_zip_next ty F.entry_zip_next ?_ (F.args_zip_next_1 _))))
  show wpAny _ _ (field (.ref z) 2 >>= _) _ _ _
  refine wpAny_bind (wpAny_field zz rfl (x := .bool false) rfl ?_); show wpAny _ _ (field (.ref z) 3 >>= _) _ _ _
  refine wpAny_bind (wpAny_field zz rfl (x := .ref TI) rfl ?_); refine wpAny_bind (wpAny_seqItems pI rfl ?_)
  show wpAny _ _ (Builtin.SmallTypes.ownedTupleIsFree (.ref z) >>= _) _ _ _
  refine wpAny_bind (zip_slow_free zz al fun h3 z3 sb => ?_)
  simp only [Bool.false_eq_true, if_false]
  rw [show (forIn (#[Value.ref i1, Value.ref i2] : Array Value) : (Option Fin × Array Value) → _ → Sem _) = forIn [Value.ref i1, Value.ref i2] from funext fun _ => funext fun _ => by simp]
  simp only [List.forIn_cons, List.forIn_nil]
  refine wpAny_bind (wpAny_bind (wpAny_bind (wpAny_holding ?_)))
  show wpAny _ _ (Builtin.SmallTypes.nextOf (.ref i1) >>= _) _ _ _
  refine wpAny_bind (wpAny_nextOf_list_end hd (h1.extBut sb.extBut D.i1z) (hl1.extBut sb.extBut D.l1z) ex fun h4 e sb4 he => ?_)
  obtain ⟨o, ho, hc⟩ := he
  refine wpAny_bind (wpAny_isInstance (T := "StopIteration") (b := true) ⟨o, ho, hc⟩ isSubtype_stop ?_)
  exact wpAny_pure (q _ fun c o c1 c2 c3 e => sb4 c o c2 (sb.extBut _ _ c1 e))
end
end L2
namespace PySem
open Sem (wp)
namespace F
theorem my_entry_zip_ga : entryFor table "zip.__getattribute__" = some Builtin.«object.__getattribute__» :=
  entryFor_alias (id' := "object.__getattribute__") (by kernel_rfl) (by first | rfl | decide +kernel) (by decide +kernel) (by kernel_rfl)
theorem my_lk_zip_keys : typeLookup (.type "zip") "keys" = pure none := by rw [typeLookup_type, builtinLookup_eq_fast]; kernel_rfl
theorem my_lk_zip_hook : typeLookup (.type "zip") "__getattr__" = pure none := by rw [typeLookup_type, builtinLookup_eq_fast]; kernel_rfl
end F
theorem my_zip_keys_miss (a : Addr) (fs : Array Value) (u : Tok) :
    Meets (Builtin.«object.__getattribute__» ⟨[.ref a, .str "keys" u], []⟩) (fun A R s => s.heap.get? a = some { cls := .type "zip", dict := none, data := .fields fs, slots := #[] } ∧ raisesAttr (.ref a) "keys" A R s) :=
  Meets.of_wp fun prog w A R s z => by
    obtain ⟨hp, g, d, tk, os⟩ := s
    obtain ⟨zx, zs⟩ := z
    have zT : (⟨hp, g, d, tk, os⟩ : Shared).TypeIs (.ref a) "zip" := ⟨_, zx, rfl⟩
    have f4 := F.my_lk_zip_keys
    unfold Builtin.«object.__getattribute__»; repeat (any_goals (first | assumption | wp_step | fail))
    exact wpAny_raiseAttrError zs.1 zs.2 (attrMsg_fits (by decide +kernel) (by decide +kernel))
theorem my_zip_no_keys {prog : Program} {w : World} {A : Around} {E : Value → Shared → Prop} {s : Shared} {a : Addr} {fs : Array Value} {Q : Option Value → Shared → Prop} (zx : s.heap.get? a = some { cls := .type "zip", dict := none, data := .fields fs, slots := #[] }) (zA : A.handled = none)
    (q : ∀ h' tk e, Heap.NewExcOf s.heap h' e "AttributeError" → Q none { s with heap := h', toks := tk }) : wpAny (model prog w) A (getAttr? (.ref a) "keys") Q E s := by
  obtain ⟨hp, g, d, tk, os⟩ := s
  have zT : ∀ tk', (⟨hp, g, d, tk', os⟩ : Shared).TypeIs (.ref a) "zip" := fun _ => ⟨_, zx, rfl⟩
  have f1 := sub_AttributeError
  have f3 := F.slot_zip_getattribute.lookup
  have f4 := F.slot_zip_getattribute.bind (.ref a)
  have f5 := F.my_lk_zip_hook
  unfold getAttr? getAttrBy? getAttrBy
  repeat (any_goals (first | assumption | exact zT _ | ((with_reducible show wpAny _ _ (call (Value.builtin "zip.__getattribute__") _ _) _ _ _); refine call_meets F.slot_zip_getattribute (zT _) F.my_entry_zip_ga (F.args_zip_getattribute_2 _ _) (my_zip_keys_miss a fs _) ⟨zx, zA, fun h9 k9 e9 n9 => ?_⟩) | wp_step))
  obtain ⟨t9, u9, x9⟩ := n9.there
  show wpAny _ _ (getattributeRaised _ _ _ _ _ _ _) _ _ _; unfold getattributeRaised
  repeat (any_goals (first | assumption | wp_step | fail))
  exact q _ _ _ n9.of
end PySem
namespace L2
open PySem PySem.Spec PyProof.Rows
theorem entry_dict_loop : entryFor table "dict.update.loop" = some Builtin.«dict.update.loop» := entryFor_of_tree (by kernel_rfl)
def ZS (z TI TO i1 i2 l1 l2 : Addr) (k : Nat) (h : Heap) : Prop :=
  (IsZip h z TI TO .none ∨ ∃ T b, IsZipK h z TI TO T (.bool b) ∧ (∃ o, h.get? T = some o) ∧ T ≠ z ∧ T ≠ TO ∧ T ≠ i1 ∧ T ≠ i2) ∧ IsPair h TI (.ref i1) (.ref i2) ∧ (∃ a b, IsPair h TO a b) ∧ h.IsListIter i1 l1 k ∧ h.IsListIter i2 l2 k
section
variable {prog : Program} {w : World} {A : Around} {E : Value → Shared → Prop} {s : Shared} {z TI TO i1 i2 l1 l2 d : Addr} {xs ys : Array Value}
theorem zs_item {k : Nat} {x y : Value} {Q : Option Value → Shared → Prop} (D : ZipApart z TI TO i1 i2 l1 l2) (st : ZS z TI TO i1 i2 l1 l2 k s.heap) (hl1 : s.heap.IsList l1 xs) (hl2 : s.heap.IsList l2 ys) (ex : xs[k]? = some x) (ey : ys[k]? = some y)
    (q : ∀ h', ZS z TI TO i1 i2 l1 l2 (k + 1) h' → IsPair h' s.heap.objs.size x y → (∀ c o, c ≠ z → c ≠ TO → c ≠ i1 → c ≠ i2 → s.heap.get? c = some o → h'.get? c = some o) → Q (some (.ref s.heap.objs.size)) { s with heap := h' }) :
    wpAny (model prog w) A (pyNext (.ref z)) Q E s := by
  obtain ⟨zz, pI, ⟨a, b, pO⟩, h1, h2⟩ := st
  have lt : ∀ {c : Addr} {o : Obj}, s.heap.get? c = some o → s.heap.objs.size ≠ c := fun e => Nat.ne_of_gt (Heap.lt_size e)
  have n1 : s.heap.objs.size ≠ i1 := by obtain ⟨o, e, _⟩ := h1; exact lt e
  have n2 : s.heap.objs.size ≠ i2 := by obtain ⟨o, e, _⟩ := h2; exact lt e
  rcases zz with zz | ⟨T, b1, zz, al, t1, t2, t3, t4⟩
  · refine wpAny_pyNext_zip_item D zz pI pO h1 h2 hl1 hl2 ex ey fun h' a1 a2 a3 a4 a5 a6 hk => ?_
    exact q h' ⟨.inr ⟨_, _, a1, ⟨_, a5⟩, lt zz, lt pO, n1, n2⟩, hk _ _ D.TIz D.TITO D.TIi1 D.TIi2 pI, ⟨_, _, a2⟩, a3, a4⟩ a5 hk
  · obtain ⟨o, eo⟩ := al
    refine zip_slow_item D zz ⟨o, eo⟩ pI h1 h2 hl1 hl2 ex ey fun h' a1 a3 a4 a5 hk _ => ?_
    exact q h' ⟨.inr ⟨T, true, a1, ⟨o, hk _ _ t1 t3 t4 eo⟩, t1, t2, t3, t4⟩, hk _ _ D.TIz D.TIi1 D.TIi2 pI, ⟨_, _, hk _ _ D.TOz D.TOi1 D.TOi2 pO⟩, a3, a4⟩ a5 fun c o c1 _ c3 c4 e => hk c o c1 c3 c4 e
theorem zs_end {k : Nat} {Q : Option Value → Shared → Prop} (hd : A.handled = none) (D : ZipApart z TI TO i1 i2 l1 l2) (st : ZS z TI TO i1 i2 l1 l2 k s.heap) (hl1 : s.heap.IsList l1 xs) (hl2 : s.heap.IsList l2 ys) (ex : xs[k]? = none)
    (q : ∀ h', (∀ c o, c ≠ z → c ≠ TO → c ≠ i1 → c ≠ i2 → s.heap.get? c = some o → h'.get? c = some o) → Q none { s with heap := h' }) : wpAny (model prog w) A (pyNext (.ref z)) Q E s := by
  obtain ⟨zz, pI, ⟨a, b, pO⟩, h1, h2⟩ := st
  rcases zz with zz | ⟨T, b1, zz, al, _⟩
  · exact wpAny_pyNext_zip_end hd D zz pI pO h1 h2 hl1 hl2 (.inl ex) fun h' hk => q h' hk
  · exact zip_slow_end (ys := ys) hd D zz al pI h1 hl1 ex fun h' hk => q h' fun c o c1 _ c3 c4 e => hk c o c1 c3 c4 e
def layAll (kvs : List (Key × Value)) : List (Key × Value) → List (Key × Value)
  | [] => kvs
  | p :: r => layAll (stored kvs p.1 p.2) r
theorem ZS.same {k : Nat} {h h2 : Heap} (st : ZS z TI TO i1 i2 l1 l2 k h) (dz : d ≠ z) (dI : d ≠ TI) (dO : d ≠ TO) (d1 : d ≠ i1) (d2 : d ≠ i2) (kp : ∀ c o, c ≠ d → h.get? c = some o → h2.get? c = some o) (hd : ∃ o, h2.get? d = some o) : ZS z TI TO i1 i2 l1 l2 k h2 := by
  obtain ⟨zz, pI, ⟨a, b, pO⟩, h1, h2'⟩ := st
  refine ⟨?_, kp _ _ dI.symm pI, ⟨a, b, kp _ _ dO.symm pO⟩, h1.at fun o e => kp _ o d1.symm e, h2'.at fun o e => kp _ o d2.symm e⟩
  rcases zz with zz | ⟨T, b1, zz, ⟨o, eo⟩, t⟩
  · exact .inl (kp _ _ dz.symm zz)
  · refine .inr ⟨T, b1, kp _ _ dz.symm zz, ?_, t⟩
    by_cases e : T = d
    · rw [e]; exact hd
    · exact ⟨o, kp _ _ e eo⟩
theorem dz_loop (hd : A.handled = none) (D : ZipApart z TI TO i1 i2 l1 l2) (dz : d ≠ z) (dI : d ≠ TI) (dO : d ≠ TO) (d1 : d ≠ i1) (d2 : d ≠ i2) (dl1 : d ≠ l1) (dl2 : d ≠ l2) :
    ∀ (ps : List (Key × Value)) (k : Nat) (s : Shared) (kvs : List (Key × Value)) (i : Int) (t : Tok) (R : Result → Shared → Prop), ZS z TI TO i1 i2 l1 l2 k s.heap → s.heap.IsList l1 xs → s.heap.IsList l2 ys → s.heap.DictOf (zH prog w) d kvs → kvs.length + ps.length ≤ sizeLine →
      xs.size = k + ps.length → (∀ j (p : Key × Value), ps[j]? = some p → ∃ u, xs[k + j]? = some u ∧ (zH prog w).is p.1 u = true ∧ ys[k + j]? = some p.2) →
      (∀ h' tk, h'.DictOf (zH prog w) d (layAll kvs ps) → (∀ c o, c ≠ z → c ≠ TO → c ≠ i1 → c ≠ i2 → c ≠ d → s.heap.get? c = some o → h'.get? c = some o) → R (.ok (.ret .none)) { s with heap := h', toks := tk }) →
      codeAny (model prog w) A (.builtin "dict.update.loop" ⟨[.ref d, .ref z, .int i t, .none], []⟩) R s
  | [], k, s, kvs, i, t, R, st, hl1, hl2, hm, hz, hn, hp, q => by
    refine codeAny_builtin entry_dict_loop ?_
    show wpAny _ _ (pyNext (.ref z) >>= _) _ _ _
    refine wpAny_bind (zs_end hd D st hl1 hl2 (Array.getElem?_eq_none (by rw [hn]; exact Nat.le_refl _)) fun h' hk => ?_)
    show wpAny _ _ (Builtin.Dict.addKeywords d [] >>= _) _ _ _
    refine wpAny_bind (wpAny_pure (wpAny_pure ?_))
    have hd' : h'.DictOf (zH prog w) d kvs := by
      obtain ⟨o, es, ep, ho, r⟩ := hm
      exact ⟨o, es, ep, hk _ _ dz dO d1 d2 ho, r⟩
    exact q h' s.toks hd' fun c o c1 c2 c3 c4 _ e => hk c o c1 c2 c3 c4 e
  | p :: ps, k, s, kvs, i, t, R, st, hl1, hl2, hm, hz, hn, hp, q => by
    refine codeAny_builtin entry_dict_loop ?_
    obtain ⟨u, eu, ku, ev⟩ := hp 0 p rfl
    show wpAny _ _ (pyNext (.ref z) >>= _) _ _ _
    refine wpAny_bind (zs_item D st hl1 hl2 eu ev fun h' st' pT hk => ?_)
    have hm' : h'.DictOf (zH prog w) d kvs := by
      obtain ⟨o, es, ep, ho, r⟩ := hm
      exact ⟨o, es, ep, hk _ _ dz dO d1 d2 ho, r⟩
    have hl1' : h'.IsList l1 xs := hl1.at fun o e => hk _ o D.l1z D.l1TO D.l1i1 D.l1i2 e
    have hl2' : h'.IsList l2 ys := hl2.at fun o e => hk _ o D.l2z D.l2TO D.l2i1 D.l2i2 e
    refine wpAny_bind (wpAny_holding ?_)
    refine wpAny_bind (wpAny_tryCatch ?_)
    unfold Builtin.Dict.pairItems
    refine wpAny_bind (wpAny_typeOf (T := "tuple") ⟨_, pT, rfl⟩ ?_)
    rw [if_pos (by decide)]
    refine wpAny_bind (wpAny_seqItems pT rfl (wpAny_pure ?_))
    show wpAny _ _ (holding [u, p.2] (dictSet d u p.2)) _ _ _
    refine wpAny_holding (wpAny_dictSet_pairs (hsz := by rw [List.length_cons] at hz; omega) ku hm' fun h2 hm2 sb => ?_)
    refine wpAny_pure ⟨Code.quiet_builtin _ (by decide +kernel), ?_⟩
    have nd : ∃ o, h2.get? d = some o := by obtain ⟨o, _, _, e, _⟩ := hm2; exact ⟨o, e⟩
    have ls : (stored kvs p.1 p.2).length ≤ kvs.length + 1 := by
      unfold stored; split
      · rw [List.length_map]; omega
      · rw [List.length_append]; exact Nat.le_refl _
    refine dz_loop hd D dz dI dO d1 d2 dl1 dl2 ps (k + 1) { s with heap := h2, toks := s.toks + 1 } (stored kvs p.1 p.2) (i + 1) 0 R (st'.same dz dI dO d1 d2 (fun c o n e => sb.extBut _ _ n e) nd) (hl1'.extBut sb.extBut dl1.symm) (hl2'.extBut sb.extBut dl2.symm) hm2 (by rw [List.length_cons] at hz; omega) (by rw [hn, List.length_cons]; omega) (fun j r hj => ?_) (fun h3 tk hm3 hk3 => ?_)
    · have := hp (j + 1) r hj
      rw [show k + 1 + j = k + (j + 1) by omega]; exact this
    · exact q h3 tk hm3 fun c o c1 c2 c3 c4 c5 e => hk3 c o c1 c2 c3 c4 c5 (sb.extBut _ _ c5 (hk c o c1 c2 c3 c4 e))
end
end L2
namespace L2
open PySem PySem.Spec PyProof.Rows
def putAll (kvs : List (Key × V)) : List (Key × V) → List (Key × V)
  | [] => kvs
  | p :: r => putAll (putK kvs p.1 p.2) r
theorem KV.putAll : ∀ {ps : List (Key × V)} {qs : List (Key × Value)} {kvs : List (Key × V)} {vs : List (Key × Value)}, KV ps qs → KV kvs vs → KV (L2.putAll kvs ps) (layAll vs qs)
  | [], _, _, _, .nil, h => h
  | p :: ps, _, _, _, .cons (b := q) r rr, h => by
    have e : q.1 = p.1 := r.1.symm
    show KV (L2.putAll (putK _ p.1 p.2) ps) (layAll (stored _ q.1 q.2) _)
    rw [e]
    exact KV.putAll rr (h.put p.1 r.2)
theorem putAll_len : ∀ (ps : List (Key × V)) (kvs : List (Key × V)), (putAll kvs ps).length ≤ kvs.length + ps.length
  | [], _ => Nat.le_refl _
  | p :: ps, kvs => by
    have := putAll_len ps (putK kvs p.1 p.2)
    have := xc kvs p.1 p.2
    show (putAll (putK kvs p.1 p.2) ps).length ≤ kvs.length + (ps.length + 1)
    omega
section
variable {prog : Program} {w : World} {A : Around} {E : Value → Shared → Prop} {s : Shared} {z TI TO i1 i2 l1 l2 : Addr} {xs ys : Array Value}
theorem ZS.keeps {k : Nat} {h h2 : Heap} (st : ZS z TI TO i1 i2 l1 l2 k h) (kp : ∀ c o, h.get? c = some o → h2.get? c = some o) : ZS z TI TO i1 i2 l1 l2 k h2 := by
  obtain ⟨zz, pI, ⟨a, b, pO⟩, h1, h2'⟩ := st
  refine ⟨?_, kp _ _ pI, ⟨a, b, kp _ _ pO⟩, h1.at fun o e => kp _ o e, h2'.at fun o e => kp _ o e⟩
  rcases zz with zz | ⟨T, b1, zz, ⟨o, eo⟩, t⟩
  · exact .inl (kp _ _ zz)
  · exact .inr ⟨T, b1, kp _ _ zz, ⟨o, kp _ _ eo⟩, t⟩
theorem dict_zip_call {ps : List (Key × Value)} {Q : Value → Shared → Prop} (hd : A.handled = none) (D : ZipApart z TI TO i1 i2 l1 l2) (zz : IsZip s.heap z TI TO .none) (st : ZS z TI TO i1 i2 l1 l2 0 s.heap) (hl1 : s.heap.IsList l1 xs) (hl2 : s.heap.IsList l2 ys) (hz : ps.length ≤ sizeLine) (hn : xs.size = ps.length)
    (hp : ∀ (j : Nat) (p : Key × Value), ps[j]? = some p → ∃ u, xs[j]? = some u ∧ (zH prog w).is p.1 u = true ∧ ys[j]? = some p.2)
    (q : ∀ h' tk, h'.DictOf (zH prog w) s.heap.objs.size (layAll [] ps) → (∀ c o, c ≠ z → c ≠ TO → c ≠ i1 → c ≠ i2 → s.heap.get? c = some o → h'.get? c = some o) → Q (.ref s.heap.objs.size) { s with heap := h', toks := tk }) : wpAny (model prog w) A (call (.type "dict") [.ref z]) Q E s := by
  refine callType_codes (Q₁ := fun obj s₁ => obj = .ref s.heap.objs.size ∧ s₁ = { s with heap := s.heap.push { cls := .type "dict", data := .dict #[] } }) F.kt_called_dict (F.kt_typeCall_dict_1 _) F.entry_dict_init (kt_code_dict_new _ ⟨rfl, rfl⟩) fun obj s1 y => ?_
  obtain ⟨rfl, rfl⟩ := y
  have nw : (s.heap.push { cls := .type "dict", data := .dict #[] }).DictOf (zH prog w) s.heap.objs.size [] := Heap.DictOf.new s.heap
  have kp : ∀ c o, s.heap.get? c = some o → (s.heap.push { cls := .type "dict", data := .dict #[] }).get? c = some o := fun c o e => Heap.get?_push_of_some _ e
  have lt : ∀ {c : Addr} {o : Obj}, s.heap.get? c = some o → s.heap.objs.size ≠ c := fun e => Nat.ne_of_gt (Heap.lt_size e)
  obtain ⟨_, pI, ⟨a, b, pO⟩, g1, g2⟩ := id st
  have e1 : s.heap.objs.size ≠ i1 := by obtain ⟨o, e, _⟩ := g1; exact lt e
  have e2 : s.heap.objs.size ≠ i2 := by obtain ⟨o, e, _⟩ := g2; exact lt e
  have e3 : s.heap.objs.size ≠ l1 := by obtain ⟨o, e, _⟩ := hl1; exact lt e
  have e4 : s.heap.objs.size ≠ l2 := by obtain ⟨o, e, _⟩ := hl2; exact lt e
  refine ⟨nw.typeIs, F.args_dict_init_2 _ _, ?_⟩
  unfold Builtin.«dict.__init__»; refine wpAny_bind ?_
  unfold Builtin.Dict.selfAndRest; refine wpAny_bind (wpAny_notOrdered_dict nw.typeIs ?_)
  show wpAny _ _ (pure (s.heap.objs.size, [Value.ref z])) _ _ _
  refine wpAny_pure ?_; show wpAny _ _ (Builtin.Dict.updateFrom "dict.__init__" s.heap.objs.size (.ref z) [] .none) _ _ _
  unfold Builtin.Dict.updateFrom; refine wpAny_bind (wpAny_typeOf (T := "zip") ⟨_, kp _ _ zz, rfl⟩ ?_)
  rw [if_pos (by decide)]
  refine wpAny_bind (my_zip_no_keys (kp _ _ zz) hd fun h3 tk e ne => ?_)
  simp only [Option.isNone_none, if_true]
  have k3 : ∀ c o, s.heap.get? c = some o → h3.get? c = some o := fun c o e => ne.keeps c o (kp c o e)
  refine wpAny_bind (wpAny_rule (wpAny_bind (wpAny_pyIter_zip (f0 := .none) (k3 _ _ zz) ?_)))
  refine wpAny_pure ⟨Code.quiet_builtin _ (by decide +kernel), ?_⟩
  have d3 : h3.DictOf (zH prog w) s.heap.objs.size [] := by
    obtain ⟨o, es, ep, ho, r⟩ := nw
    exact ⟨o, es, ep, ne.keeps _ _ ho, r⟩
  refine dz_loop (A := A.in1) (xs := xs) (ys := ys) hd D (lt zz) (lt pI) (lt pO) e1 e2 e3 e4 ps 0 { s with heap := h3, toks := tk } [] 0 0 _ (st.keeps k3) (hl1.at fun o e => k3 _ o e) (hl2.at fun o e => k3 _ o e) d3 (by show 0 + ps.length ≤ _; omega) (by rw [hn, Nat.zero_add]) (fun j r hj => by rw [Nat.zero_add]; exact hp j r hj) fun h4 tk4 d4 k4 => ?_
  exact ⟨rfl, q h4 tk4 d4 fun c o c1 c2 c3 c4 e => k4 c o c1 c2 c3 c4 (lt e).symm (k3 c o e)⟩
end
theorem kv_zip : ∀ (ks : List Key) {ys : List V} {us : List Value}, Vals ys us → ks.length = ys.length → KV (ks.zip ys) (ks.zip us)
  | [], _, _, _, _ => .nil
  | k :: ks, _, _, .nil, h => by cases h
  | k :: ks, _, _, .cons r rr, h => .cons ⟨rfl, r⟩ (kv_zip ks rr (by simpa using h))
section
variable {X : Cx}
def tDictZip (K : PySem.W.Frag) (ta : TA) : TE := fun σ H Q => ta σ H fun vs H1 => ∃ (l1 l2 : Addr) (ks : List Key) (ys : List V), vs = [.ref l1, .ref l2] ∧ SqL K H1 l1 (ks.map kV) ∧ SqL K H1 l2 ys ∧ ks.length = ys.length ∧ ∀ d, H1 d = none → Q (.ref d) (upd H1 d (.dK (putAll [] (ks.zip ys))))
theorem pe_dictzip {a b : Expr} {ta : TA} {p p2 pos pos2 : Pos} (hc : X.calm = true) (hg : Gl X "dict") (hm : X.mg "dict" = none) (hg2 : Gl X "zip") (hm2 : X.mg "zip" = none) (ha : PA X [a, b] ta)
    (hs : starEach [a, b] X.env = [(false, eval a X.env), (false, eval b X.env)] := by rfl) (hs2 : starEach [b] X.env = [(false, eval b X.env)] := by rfl)
    (hs3 : starEach [Expr.Call (.Name "zip" p2) [a, b] [] pos2] X.env = [(false, eval (.Call (.Name "zip" p2) [a, b] [] pos2) X.env)] := by rfl) : PE X (.Call (.Name "dict" p) [.Call (.Name "zip" p2) [a, b] [] pos2] [] pos) (tDictZip X.K ta) := by
  intro pins s σ H Q I h
  refine wpAny_Call_Name_kw (ld_blt I hg hm boot_dict (PyProof.Rows.callWith_type1 ?_ (by rw [hs3]; rfl) (by rfl)))
  rw [hs3]
  show wpAny _ _ (spliced [(false, eval (.Call (.Name "zip" p2) [a, b] [] pos2) X.env)]) _ _ s
  refine Calls.spliced_cons (Call_ (ld_blt I hg2 hm2 boot_zip (PyProof.Rows.callWith_type1 (thn (ha pos2 pins s σ H _ I h) fun us s1 ⟨vs, H1, I1, r1, q1⟩ => ?_) (by rw [hs, hs2]) (by rw [hs2]; rfl))))
  obtain ⟨l1, l2, ks, ys, e, x1, x2, le, q⟩ := q1
  subst e
  obtain ⟨u, v, rfl, ru, rv⟩ := vals2 r1
  cases (show u = Value.ref l1 from ru)
  cases (show v = Value.ref l2 from rv)
  obtain ⟨is1, g1, p1, z1⟩ := I1.list x1
  obtain ⟨is2, g2, p2', z2⟩ := I1.list x2
  have L1 : l1 < s1.heap.objs.size := by obtain ⟨_, e, _⟩ := p1.isList; exact Heap.lt_size e
  have L2 : l2 < s1.heap.objs.size := by obtain ⟨_, e, _⟩ := p2'.isList; exact Heap.lt_size e
  have n1 := g1.length
  have n2 := g2.length
  rw [List.length_map] at n1
  refine call_zip_2 p1.isList p2'.isList fun h' a1 a2 a3 a4 a5 a6 hk => Calls.spliced_nil ?_
  have J : Inv X pins σ H1 { s1 with heap := h' } := I1.kept (t' := s1.toks) fun b o e => hk b o e
  have fp : ∀ n, FpOk X pins H1 (s1.heap.objs.size + n) := fun n => I1.fpOk (Nat.le_add_right _ _) (I1.hok.fresh (Nat.le_add_right _ _))
  have rel : KV (ks.zip ys) (ks.zip is2) := kv_zip ks g2 le
  have lz : (ks.zip is2).length = ks.length := by rw [List.length_zip, Nat.min_eq_left]; omega
  rw [List.length_map] at z1
  refine dict_zip_call (s := { s1 with heap := h' }) (xs := is1.toArray) (ys := is2.toArray) (ps := ks.zip is2) (I1.ok.hd hc) (zipApart_new L1 L2) a1 ⟨.inl a1, a2, ⟨_, _, a3⟩, a4, a5⟩ (p1.isList.at fun o e => hk _ o e) (p2'.isList.at fun o e => hk _ o e) (by omega) (by rw [lz, List.size_toArray]; omega) (fun j r hj => ?_) fun h3 tk d3 k3 => ?_
  · obtain ⟨ek, ev⟩ : ks[j]? = some r.1 ∧ is2[j]? = some r.2 := by
      rw [List.getElem?_zip_eq_some] at hj; exact hj
    obtain ⟨u, eu, ru⟩ := g1.get (show (ks.map kV)[j]? = some (kV r.1) by rw [List.getElem?_map, ek]; rfl)
    exact ⟨u, by simpa using eu, kV_is ru, by simpa using ev⟩
  · have fr : H1 h'.objs.size = none := I1.hok.fresh (by rw [a6]; omega)
    have b4 := fp 4
    have b3 := fp 3
    have b0 := fp 0
    have b1 := fp 1
    have b2 := fp 2
    have lay : ObjOk X.prog X.w (upd H1 h'.objs.size (.dK (putAll [] (ks.zip ys)))) h3 h'.objs.size (.dK (putAll [] (ks.zip ys))) := by
      refine ⟨?_, ?_, _, KV.putAll rel .nil, d3⟩
      · have := putAll_len (ks.zip ys) []
        rw [List.length_zip] at this
        have : ([] : List (Key × V)).length = 0 := rfl
        omega
      · have := J.big
        exact beq_eq_false_iff_ne.mpr (Nat.ne_of_gt this)
    refine ⟨.ref h'.objs.size, upd H1 h'.objs.size (.dK (putAll [] (ks.zip ys))), ?_, rfl, q _ fr⟩
    exact J.turnedT (its := [s1.heap.objs.size + 4, s1.heap.objs.size + 2, s1.heap.objs.size + 3, s1.heap.objs.size, s1.heap.objs.size + 1]) (fun c o nc e => by
      have nc' : c ≠ s1.heap.objs.size + 4 ∧ c ≠ s1.heap.objs.size + 2 ∧ c ≠ s1.heap.objs.size + 3 ∧ c ≠ s1.heap.objs.size ∧ c ≠ s1.heap.objs.size + 1 := by simpa using nc
      exact k3 c o nc'.1 nc'.2.2.1 nc'.2.2.2.1 nc'.2.2.2.2 e) (fun c hc' => by
      simp at hc'
      rcases hc' with rfl | rfl | rfl | rfl | rfl
      · exact b4
      · exact b2
      · exact b3
      · exact b0
      · exact b1) (Nat.le_refl _) lay
end
end L2
namespace L2
open PySem PySem.Spec PyProof.Rows
section
variable {prog : Program} {w : World} {A : Around} {R : Result → Shared → Prop} {s : Shared}
theorem comp_loopF {elt target iter tst : Expr} {scope : Scope} {pos : Pos} {it acc : Value} {env : Env} (I : Nat → Shared → Prop)
    (turn : ∀ n s, I n s → wpAny (model prog w) A (pyNext it) (fun r s₁ => match r with
      | none => R (.ok .next) s₁
      | some v => wpAny (model prog w) A (letOwnedTupleGo target it v) (fun _ s₂ => wpAny (model prog w) A (assign target env v) (fun _ s₃ => wpAny (model prog w) A (isTrue tst env (eval tst env)) (fun ok t₃ => match ok with
          | true => wpAny (model prog w) A (eval elt env) (fun x s₄ => wpAny (model prog w) A (call (.builtin "list.append") [acc, x]) (fun _ s₅ => ∃ m, m < n ∧ I m s₅) (fun _ _ => False) s₄) (fun _ _ => False) t₃
          | false => ∃ m, m < n ∧ I m t₃) (fun _ _ => False) s₃) (fun _ _ => False) s₂) (fun _ _ => False) s₁) (fun _ _ => False) s)
    (n : Nat) (h : I n s) : codeAny (model prog w) A (.compLoop (.ListComp elt [⟨target, iter, [tst], 0⟩] scope pos) 0 it acc env) R s := by
  refine codeAny_loop rfl I (fun n s hI => ?_) n h
  show wpAny _ _ ((compTurn (.ListComp elt [⟨target, iter, [tst], 0⟩] scope pos) 0 it acc env).onRaise (fun x => do noteFrame x env; theTreesLotGoes x)) _ _ s
  refine wpAny_noted ?_
  rw [compTurn_list]
  refine wpAny_bind (wpAny_standAt (wpAny_bind (wpAny_mono (turn n s hI) (fun r s₁ h₁ => ?_) fun _ _ z => z.elim)))
  cases r with
  | none => exact wpAny_pure h₁
  | some v =>
    refine wpAny_bind (wpAny_mono h₁ (fun _ s₂ h₂ => ?_) fun _ _ z => z.elim)
    refine wpAny_bind (wpAny_mono h₂ (fun _ s₃ h₃ => ?_) fun _ _ z => z.elim)
    refine wpAny_bind (wpAny_tests_one (wpAny_mono h₃ (fun ok t₃ h₃ => ?_) fun _ _ z => z.elim))
    cases ok with
    | false => exact wpAny_pure ⟨rfl, h₃⟩
    | true =>
      refine wpAny_bind (wpAny_bind (wpAny_mono h₃ (fun x s₄ h₄ => ?_) fun _ _ z => z.elim))
      exact wpAny_bind (wpAny_mono h₄ (fun _ s₅ h₅ => wpAny_pure (wpAny_pure ⟨rfl, h₅⟩)) fun _ _ z => z.elim)
end
def CompWF (J : It) (g : TG) (tt : TT) (te : TE) (σY : St) (H1 : Hp) (D : Addr) (Q : VK) : Prop := ∃ W : Nat → Nat → St → Hp → Prop, (∃ m, W 0 m σY H1) ∧ ∀ i m σ' H', W i m σ' H' →
  (J.stop i H' ∧ Q (.ref D) H') ∨ (J.go i H' ∧ ∃ N : St → Hp → Prop, (∀ σ2 H2, N σ2 H2 → ∃ m', m' < m ∧ W (i + 1) m' σ2 H2) ∧
    ∀ x H2, J.yld i H' x H2 → g x σ' H2 fun σ3 H3 => tt σ3 H3 fun b H4 => if b = true then te σ3 H4 fun v H5 => ∃ xs, H5 D = some (.lst xs) ∧ xs.length < sizeLine ∧ N σ3 (upd H5 D (.lst (xs ++ [v]))) else N σ3 H4)
def tCompF (wi : TI) (g : TG) (tt : TT) (te : TE) (σ0 : St → Hp → St → Prop) : TE := fun σ H Q => wi σ H fun J H1 => ∃ σY, σ0 σ H1 σY ∧ ∀ D, H1 D = none → CompWF J g tt te σY (upd H1 D (.lst [])) D Q
section
variable {X : Cx} {tg : Expr}
theorem comp_coreF {iter elt tst : Expr} {scope : Scope} {pos pos' : Pos} {cl : List (Str × Addr)} {NY : List Str} {wi : TI} {g : TG} {tt : TT} {te : TE} {σ0 : St → Hp → St → Prop} (hc : X.calm = true) (S : Sees X scope cl) (hi : PI X tg iter wi)
    (hY : ∀ (s3 : Shared) (H3 : Hp) (fp : List Addr), PG (X.comp scope cl NY s3 H3 fp) tg g ∧ PT (X.comp scope cl NY s3 H3 fp) tst tt ∧ PE (X.comp scope cl NY s3 H3 fp) elt te)
    (h0 : ∀ (pins : List (Addr × Obj)) (σ : St) (H : Hp) (s3 : Shared) (σY : St), Inv X pins σ H s3 → σ0 σ H σY → σY.length = NY.length ∧ ∀ (i : Nat) (x : Str) (v : V), NY[i]? = some x → σY[i]? = some (some v) →
      ∃ c u, (((compEnvC scope cl 0 X.env).kindOf x = some .cell ∨ (compEnvC scope cl 0 X.env).kindOf x = some .free)) ∧ cl.lookup x = some c ∧ RelV v u ∧ s3.heap.IsCell c (some u))
    (hs : ∀ x, foldedSetIterable iter X.env x = pure x) {use : Option (Value → Sem Unit)} {R : Value → Shared → Prop} {pins : List (Addr × Obj)} {s : Shared} {σ : St} {H : Hp} {Q : VK} (I : Inv X pins σ H s) (h : tCompF wi g tt te σ0 σ H Q)
    (fin : ∀ (C D : Addr) (H5 : Hp) (s6 : Shared), CompEnd X pins σ H5 s6 C → Q (.ref D) H5 → compPost (model X.prog X.w) X.A X.xe use R (.ref D) C (.ok .next) s6) :
    wpAny (model X.prog X.w) X.A (comprehension (.ListComp elt [⟨tg, iter, [tst], 0⟩] scope pos) scope X.env pos' (newList []) (firstAsync [⟨tg, iter, [tst], 0⟩]) (firstIter [⟨tg, iter, [tst], 0⟩] X.env) use) R X.xe s := by
  refine wpAny_comprehension_free rfl hs S.clos S.kind S.names (thn (hi pins s σ H _ I h) fun v s1 h1 => thn h1 fun itv s2 h2 => ?_)
  obtain ⟨it, fp, tn, J, H2, e, I2, T, st2, f2, σY, hσ, hW⟩ := h2
  subst e
  refine wpAny_newObj_type ?_
  have I3 : Inv X pins σ (upd H2 s2.heap.objs.size (.lst [])) { s2 with heap := s2.heap.push { cls := .type "list", data := .seq ([] : List Value).toArray } } := I2.lnew (t' := s2.toks) (its := []) .nil (Nat.zero_le _)
  obtain ⟨W, ⟨m0, w0⟩, turn⟩ := hW s2.heap.objs.size (I2.hok.fresh (Nat.le_refl _))
  have ob2 := T.obj _ _ st2
  have hfp : ∀ b ∈ fp, FpOk X pins (upd H2 s2.heap.objs.size (.lst [])) b := fun b hb => by
    obtain ⟨o, q, _⟩ := ob2 b hb
    exact ⟨by rw [zj (Nat.ne_of_lt (Heap.lt_size q))]; exact (f2 b hb).1, (f2 b hb).2⟩
  have hob : ∀ b ∈ fp, ∃ o, (s2.heap.push { cls := .type "list", data := .seq ([] : List Value).toArray }).get? b = some o := fun b hb => by
    obtain ⟨o, q, _⟩ := ob2 b hb
    exact ⟨o, Heap.get?_push_of_some _ q⟩
  refine wpAny_newFunctionEnv S.nocell (fun y hy => absurd hy (by simp)) (fun h1 hn1 hs1 => ?_) S.kind
  obtain ⟨hl, hY0⟩ := h0 pins σ H2 s2 σY I2 hσ
  have k23 : ∀ b o, s2.heap.get? b = some o → (s2.heap.push { cls := .type "list", data := .seq ([] : List Value).toArray }).get? b = some o := fun b o q => Heap.get?_push_of_some _ q
  have k34 : ∀ b o, (s2.heap.push { cls := .type "list", data := .seq ([] : List Value).toArray }).get? b = some o → h1.get? b = some o := fun b o q => (hs1.2 b (Nat.ne_of_lt (Heap.lt_size q))).trans (Heap.get?_push_of_some _ q)
  have I4 := comp_inv (scope := scope) (cl := cl) (NY := NY) (fp := fp) (h1 := h1) (t := s2.toks) (σY := σY) I3 S hfp hob hn1 k34 hl fun i x v e1 e2 => by
    obtain ⟨c, u, k, q, r, o, z1, z2⟩ := hY0 i x v e1 e2
    exact ⟨c, u, k, q, r, o, k23 _ _ z1, z2⟩
  have st4 : tn 0 h1 := T.keep _ _ _ st2 fun b hb o q => k34 _ _ (k23 _ _ q)
  have fr4 : ∀ b ∈ fp, (upd H2 s2.heap.objs.size (.lst [])) b = none := fun b hb => (hfp b hb).1
  obtain ⟨hg, ht, he⟩ := hY { s2 with heap := s2.heap.push { cls := .type "list", data := .seq ([] : List Value).toArray } } (upd H2 s2.heap.objs.size (.lst [])) fp
  have okY := I4.ok
  have statY : ∀ {H' : Hp}, (∀ b ∈ fp, H' b = none) → ∀ b ∈ fp, FpOk (X.comp scope cl NY { s2 with heap := s2.heap.push { cls := .type "list", data := .seq ([] : List Value).toArray } } (upd H2 s2.heap.objs.size (.lst [])) fp) [] H' b :=
    fun hn b hb => ⟨hn b hb, (okY.exf b hb).1, okY.exfs b hb, .inl hb, (okY.exf b hb).2, fun p hp => absurd hp (by simp)⟩
  have loop : codeAny (model X.prog X.w) X.A (.compLoop (.ListComp elt [⟨tg, iter, [tst], 0⟩] scope pos) 0 (.ref it) (.ref s2.heap.objs.size) (compEnvC scope cl (s2.heap.push { cls := .type "list", data := .seq ([] : List Value).toArray }).objs.size X.env))
      (compPost (model X.prog X.w) X.A X.xe use R (.ref s2.heap.objs.size) (s2.heap.push { cls := .type "list", data := .seq ([] : List Value).toArray }).objs.size) { s2 with heap := h1, toks := s2.toks } := by
    refine comp_loopF (fun n s' => ∃ i σ' H', Inv (X.comp scope cl NY { s2 with heap := s2.heap.push { cls := .type "list", data := .seq ([] : List Value).toArray } } (upd H2 s2.heap.objs.size (.lst [])) fp) [] σ' H' s' ∧ tn i s'.heap ∧ (∀ b ∈ fp, H' b = none) ∧ W i n σ' H') ?_ m0 ⟨0, σY, _, I4, st4, fr4, w0⟩
    rintro n s5 ⟨i, σ5, H5, I5, st5, fr5, w5⟩
    rcases turn i n σ5 H5 w5 with ⟨stop, q⟩ | ⟨go, N, hN, step⟩
    · refine thn (T.done (X.comp scope cl NY { s2 with heap := s2.heap.push { cls := .type "list", data := .seq ([] : List Value).toArray } } (upd H2 s2.heap.objs.size (.lst [])) fp) rfl rfl rfl hc i [] s5 σ5 H5 _ I5 (statY fr5) st5 stop) fun r s6 ⟨hr, I6⟩ => ?_
      subst hr
      obtain ⟨m, hm, _⟩ := I6.loc
      refine fin _ _ H5 s6 ⟨⟨m, hm⟩, I6.free, Ne.symm (Nat.ne_of_lt I3.lt), I3.sz, fun x c z => ?_, fun p hp => ?_, fun h' hs' => comp_back I3 hfp I6 hs'⟩ q
      · obtain ⟨_, o, z1, _⟩ := I3.cell x c z
        exact Nat.ne_of_lt (Heap.lt_size z1)
      · exact Nat.ne_of_lt (Heap.lt_size (I3.pin p hp).1)
    · refine thn (T.item (X.comp scope cl NY { s2 with heap := s2.heap.push { cls := .type "list", data := .seq ([] : List Value).toArray } } (upd H2 s2.heap.objs.size (.lst [])) fp) rfl rfl rfl hc i [] s5 σ5 H5 _ I5 (statY fr5) st5 go) fun r s6 ⟨u, hr, h6⟩ => ?_
      subst hr
      refine thn h6 fun _ s7 ⟨x, H7, I7, r7, y7, st7, fr7⟩ => ?_
      have I7' := I7.pinned (statY fr7) (T.obj _ _ st7)
      refine thn (hg _ s7 σ5 H7 x u _ I7' r7 (step x H7 y7)) fun _ s8 ⟨σ8, H8, I8, q8⟩ => ?_
      have pk : ∀ {H' : Hp} {s' : Shared} {σ' : St}, Inv (X.comp scope cl NY { s2 with heap := s2.heap.push { cls := .type "list", data := .seq ([] : List Value).toArray } } (upd H2 s2.heap.objs.size (.lst [])) fp) ([] ++ pinsAt fp s7.heap) σ' H' s' → tn (i + 1) s'.heap ∧ ∀ b ∈ fp, H' b = none := fun I' => by
        refine ⟨T.keep _ _ _ st7 fun b hb o q => (I'.pin (b, o) (List.mem_append_right _ (List.mem_append_right _ (yC hb q)))).1, fun b hb => ?_⟩
        obtain ⟨o, q, d⟩ := T.obj _ _ st7 b hb
        exact (I'.pin (b, o) (List.mem_append_right _ (List.mem_append_right _ (yC hb q)))).2.1
      refine thn (ht _ s8 σ8 H8 _ I8 q8) fun bb s8' ⟨H8', I8', q8'⟩ => ?_
      cases bb with
      | false =>
        have q8' := (show N σ8 H8' by simpa using q8')
        obtain ⟨m', hm, w10⟩ := hN _ _ q8'
        exact ⟨m', hm, i + 1, σ8, _, I8'.unpinned, (pk I8').1, (pk I8').2, w10⟩
      | true =>
        have q8' := (show te σ8 H8' _ by simpa using q8')
        refine thn (he _ s8' σ8 H8' _ I8' q8') fun z s9 ⟨v9, H9, I9, r9, xs, hx9, hz9, n9⟩ => ?_
        refine thn (xa _ s9 σ8 H9 (.ref s2.heap.objs.size) [v9] (.ref s2.heap.objs.size) [z] (fun _ H' => H' = upd H9 s2.heap.objs.size (.lst (xs ++ [v9]))) I9 rfl (.cons r9 .nil) ⟨s2.heap.objs.size, xs, v9, rfl, rfl, hx9, hz9, rfl⟩) fun y s10 ⟨v10, H10, I10, _, e10⟩ => ?_
        subst e10
        obtain ⟨m', hm, w10⟩ := hN _ _ n9
        exact ⟨m', hm, i + 1, σ8, _, I10.unpinned, (pk I10).1, (pk I10).2, w10⟩
  exact codeAny_compStart_list loop (T.self _ 0 _ _ _ st4 loop)
theorem pe_compF0 {iter elt tst : Expr} {scope : Scope} {pos : Pos} {cl : List (Str × Addr)} {NY : List Str} {wi : TI} {g : TG} {tt : TT} {te : TE} {σ0 : St → Hp → St → Prop} (hc : X.calm = true) (S : Sees X scope cl) (hi : PI X tg iter wi)
    (hY : ∀ (s3 : Shared) (H3 : Hp) (fp : List Addr), PG (X.comp scope cl NY s3 H3 fp) tg g ∧ PT (X.comp scope cl NY s3 H3 fp) tst tt ∧ PE (X.comp scope cl NY s3 H3 fp) elt te)
    (h0 : ∀ (pins : List (Addr × Obj)) (σ : St) (H : Hp) (s3 : Shared) (σY : St), Inv X pins σ H s3 → σ0 σ H σY → σY.length = NY.length ∧ ∀ (i : Nat) (x : Str) (v : V), NY[i]? = some x → σY[i]? = some (some v) →
      ∃ c u, (((compEnvC scope cl 0 X.env).kindOf x = some .cell ∨ (compEnvC scope cl 0 X.env).kindOf x = some .free)) ∧ cl.lookup x = some c ∧ RelV v u ∧ s3.heap.IsCell c (some u))
    (hs : ∀ x, foldedSetIterable iter X.env x = pure x := by intro _; rfl) :
    PE X (.ListComp elt [⟨tg, iter, [tst], 0⟩] scope pos) (tCompF wi g tt te σ0) := by
  intro pins s σ H Q I h
  rw [eval_ListComp]
  refine comp_coreF (use := none) hc S hi hY h0 hs I h fun C D H5 s6 e q => ?_
  obtain ⟨m, hm⟩ := e.ns
  exact ⟨m, hm, fun h' hs' => ⟨.ref D, H5, e.inv h' hs', rfl, q⟩⟩
end
abbrev tCompFC (wi : TI) (g : TG) (tt : TT) (te : TE) (cap : List (Option Nat)) : TE := tCompF wi g tt te fun σ _ σY => σY = capt cap σ
section
variable {X : Cx} {tg : Expr}
theorem pe_compF {iter elt tst : Expr} {scope : Scope} {pos : Pos} {wi : TI} {g : TG} {tt : TT} {te : TE} (NY : List Str) (cap : List (Option Nat)) (hc : X.calm = true) (hk : seesOk X scope = true) (hcap : capOk X scope NY cap = true) (hi : PI X tg iter wi)
    (hY : ∀ (s3 : Shared) (H3 : Hp) (fp : List Addr), PG (X.comp scope (clOf X.env scope) NY s3 H3 fp) tg g ∧ PT (X.comp scope (clOf X.env scope) NY s3 H3 fp) tst tt ∧ PE (X.comp scope (clOf X.env scope) NY s3 H3 fp) elt te)
    (hs : ∀ x, foldedSetIterable iter X.env x = pure x := by intro _; rfl) : PE X (.ListComp elt [⟨tg, iter, [tst], 0⟩] scope pos) (tCompFC wi g tt te cap) := by
  intro pins s σ H Q I h
  have S := sees_of I.ok hk
  refine pe_compF0 (NY := NY) hc S hi hY (fun pins σ H s3 σY I3 e => ?_) hs pins s σ H Q I h
  subst e
  exact capt_ok I3 (sees_of I3.ok hk) hcap
end
theorem compF_range {lo : Int} {n : Nat} {D : Addr} {g : TG} {tt : TT} {te : TE} {σY : St} {H1 : Hp} {Q : VK} (Pv : Nat → St → Hp → Prop) (h0 : Pv 0 σY H1)
    (hs : ∀ i σ H, i < n → Pv i σ H → g (.int (lo + i)) σ H fun σ3 H3 => tt σ3 H3 fun b H4 => if b = true then te σ3 H4 fun v H5 => ∃ ys, H5 D = some (.lst ys) ∧ ys.length < sizeLine ∧ Pv (i + 1) σ3 (upd H5 D (.lst (ys ++ [v]))) else Pv (i + 1) σ3 H4) (hd : ∀ σ H, Pv n σ H → Q (.ref D) H) :
    CompWF (Itr lo n) g tt te σY H1 D Q := by
  refine ⟨fun i m σ H => m = n - i ∧ i ≤ n ∧ Pv i σ H, ⟨n, by simp, Nat.zero_le _, h0⟩, ?_⟩
  rintro i m σ H ⟨rfl, hi, p⟩
  by_cases hlt : i < n
  · refine .inr ⟨hlt, Pv (i + 1), fun σ' H' p' => ⟨n - (i + 1), by omega, rfl, hlt, p'⟩, fun x H' y => ?_⟩
    obtain ⟨e, y⟩ := y
    subst e y
    exact hs i σ _ hlt p
  · have e : i = n := by omega
    subst e
    exact .inl ⟨Nat.le_refl _, hd σ H p⟩
end L2
namespace L2
open PySem PySem.Spec PyProof.Rows
section
variable {prog : Program} {w : World} {A : Around} {s : Shared}
end
section
variable {prog : Program} {w : World} {A : Around} {E : Value → Shared → Prop} {s : Shared}
end
section
variable {X : Cx} {e : Expr} {te : TE} {p p' pos pos' : Pos}
end
end L2
namespace L2
open PySem PySem.Spec PyProof.Rows PyProof
section
variable {X : Cx}
end
end L2
namespace L2
open PySem PySem.Spec PyProof.Rows PyProof
section
variable {X : Cx}
def rIndexV : V → List V → Hp → VK → Prop := fun x vs H Q => ∃ l xs y j, x = .ref l ∧ vs = [y] ∧ H l = some (.lst xs) ∧ flatV y = true ∧ xs.all flatV = true ∧ xs.length < 1000 ∧ (∃ z, xs[j]? = some z ∧ eqV z y = true) ∧ (∀ m z, m < j → xs[m]? = some z → eqV z y = false) ∧ Q (.int (j : Nat)) H
theorem vals_at : ∀ {xs : List V} {us : List Value}, Vals xs us → ∀ {i : Nat} {u : Value}, us[i]? = some u → ∃ z, xs[i]? = some z ∧ RelV z u
  | _, _, .nil, i, u, e => by cases e
  | y :: xs, _, .cons r t, 0, u, e => by cases (show some _ = some u from e); exact ⟨y, rfl, r⟩
  | y :: xs, _, .cons r t, i + 1, u, e => vals_at t e
theorem all_at {xs : List V} (h : xs.all flatV = true) {i : Nat} {z : V} (e : xs[i]? = some z) : flatV z = true := List.all_eq_true.mp h z (List.mem_of_getElem? e)
theorem mt_indexV : MtM X "list.index" rIndexV := by
  intro pins s σ H x vs v us Q I rx rv h
  obtain ⟨l, xs, y, j, rfl, rfl, hH, fy, fx, hz, ⟨z, ez, hz1⟩, hno, q⟩ := h
  cases rx
  obtain ⟨u, rfl, ru⟩ := vals1 rv
  obtain ⟨_, its, n, r, hl, e⟩ := I.lstM hH
  have le : its.length = xs.length := r.length.symm
  have jl : j < xs.length := (List.getElem?_eq_some_iff.mp ez).1
  have at1 : ∀ (m : Nat) (hm : m < its.toArray.size), ∃ z, xs[m]? = some z ∧ eqU y its.toArray[m] = eqV z y := fun m hm => by
    have hm' : m < its.length := by simpa using hm
    obtain ⟨z, a, b⟩ := vals_at r (i := m) (u := its[m]) (List.getElem?_eq_getElem hm')
    exact ⟨z, a, by simpa using eqU_of (x := y) b (all_at fx a)⟩
  refine call_meets F.slot_list_index ⟨_, e, rfl⟩ F.entry_list_index (F.args_list_index_2 _ _) (SeqAt.list_indexAt l its.toArray n _ _ u (eqU y) j (by simp; omega) (by omega) ?_ ?_) ⟨e, fun w hw => mem_eqAt ru fy r fx w (by simpa using hw), ⟨.int j, H, I.tok _, ⟨_, rfl⟩, q⟩⟩
  · obtain ⟨z', a, b⟩ := at1 j (by simp; omega)
    rw [b]
    rw [a] at ez
    cases ez
    exact hz1
  · intro m hm hlt
    obtain ⟨z', a, b⟩ := at1 m hm
    rw [b]
    exact hno m z' hlt a
end
end L2
namespace L2
open PySem PySem.Spec PyProof.Rows PyProof
section
variable {X : Cx}
theorem call_rangeV : CallR X (.type "range") (fun xs H Q => ∃ j : Int, xs = [.int j] ∧ ∀ l, H l = none → Q (.ref l) (upd H l (.rng 0 j))) := by
  intro pins s σ H xs us Q I r h
  obtain ⟨j, rfl, q⟩ := h
  obtain ⟨u, rfl, rx⟩ := vals1 r
  obtain ⟨t, rfl⟩ := rx
  refine call_range_1 ?_
  exact ⟨.ref s.heap.objs.size, _, I.laid (fun b o e => Heap.get?_push_of_some _ e) (Nat.le_refl _) (show ObjOk X.prog X.w _ _ _ (.rng 0 j) from ⟨_, _, _, Heap.get?_push_size _ rfl⟩), rfl, q _ (I.hok.fresh (Nat.le_refl _))⟩
def upto (n : Nat) : List Int := (List.range n).map Int.ofNat
theorem vals_upto : ∀ (n : Nat) (us : List Value), us.length = n → (∀ (i : Nat) (v : Value), us[i]? = some v → ∃ t, v = Value.int (0 + (i : Nat) * 1) t) → Vals ((upto n).map V.int) us := by
  intro n
  induction n with
  | zero => intro us hl _; cases us with
    | nil => exact .nil
    | cons _ _ => cases hl
  | succ n ih =>
    intro us hl h
    obtain ⟨ini, last, rfl⟩ : ∃ ini last, us = ini ++ [last] := ⟨us.dropLast, us.getLast (by intro e; rw [e] at hl; cases hl), (List.dropLast_concat_getLast _).symm⟩
    have hi : ini.length = n := by rw [List.length_append] at hl; simpa using hl
    have e : upto (n + 1) = upto n ++ [(n : Int)] := by unfold upto; rw [List.range_succ, List.map_append]; rfl
    rw [e, List.map_append]
    refine (ih ini hi fun i v hv => ?_).append (.cons ?_ .nil)
    · have : i < ini.length := (List.getElem?_eq_some_iff.mp hv).1
      exact h i v (by rw [List.getElem?_append_left this]; exact hv)
    · obtain ⟨t, rfl⟩ := h n last (by rw [List.getElem?_append_right (by omega), hi, Nat.sub_self]; rfl)
      exact ⟨t, by show Value.int (0 + (n : Int) * 1) t = Value.int n t; congr 1; omega⟩
theorem call_list_rng (hc : X.calm = true) : CallR X (.type "list") (fun xs H Q => ∃ (p : Addr) (n : Nat), xs = [.ref p] ∧ H p = some (.rng 0 n) ∧ n ≤ 1000 ∧ ∀ l, H l = none → Q (.ref l) (upd H l (.lst ((upto n).map V.int)))) := by
  intro pins s σ H xs us Q I r h
  obtain ⟨p, n, rfl, hp, hn, q⟩ := h
  obtain ⟨u, rfl, rx⟩ := vals1 r
  cases rx
  obtain ⟨t, u, v, e⟩ := I.hok p _ hp
  have hs : Builtin.Range.small 0 (n : Int) 1 = true := small_one (by omega) (by omega) (by omega) (by omega)
  have hz : Builtin.Range.rangeSize 0 (n : Int) 1 = n := by rw [rangeSize_one]; split <;> omega
  have SL : (1000 : Nat) ≤ sizeLine := by decide
  refine call_list_range (I.ok.hd hc) e hs hz (by omega) fun h' tk acc c' hk hS ha => ?_
  refine ⟨.ref s.heap.objs.size, _, I.laid (t' := tk) hk (Nat.le_refl _) (show ObjOk X.prog X.w _ h' _ (.lst ((upto n).map V.int)) from ⟨?_, acc.toList, c', vals_upto n acc.toList ?_ ?_, ?_⟩), rfl, q _ (I.hok.fresh (Nat.le_refl _))⟩
  · rw [List.length_map]; unfold upto; rw [List.length_map, List.length_range]; omega
  · simpa using ha.1
  · intro i v hv
    exact ha.2 i v (by simpa using hv)
  · simpa using hS
end
end L2
namespace L2
open PySem PySem.Spec PyProof.Rows
section
variable {X : Cx}
end
theorem cutV_takeV {xs : List V} {b : Int} (hb : 0 ≤ b) : cutV xs none (some b) = xs.take b.toNat := by
  unfold cutV
  rw [HT.sIx_none, sIx_pos hb, List.drop_zero, Nat.sub_zero]
  rw [List.take_eq_take_iff]
  omega
theorem cutV_dropV {xs : List V} {a : Int} (ha : 0 ≤ a) : cutV xs (some a) none = xs.drop a.toNat := by
  unfold cutV
  rw [HT.sIx_none, sIx_pos ha]
  by_cases h : a.toNat ≤ xs.length
  · rw [Nat.min_eq_left h]
    exact List.take_of_length_le (by rw [List.length_drop]; omega)
  · have e1 : xs.drop xs.length = [] := List.drop_length
    have e2 : xs.drop a.toNat = [] := List.drop_eq_nil_of_le (by omega)
    rw [Nat.min_eq_right (by omega), e1, e2]
    simp
end L2
namespace K35
open PySem L2
def top (i : Nat) : Stmt := PySem.Challenge.pw_rowbreadth_k35_gathered_and_cut.main.body.getD i (.Pass ⟨0, 0, 0, 0⟩)
abbrev y8 : Stmt := top 6
theorem sc_start_of : FnScope ["lengths", "row"] ["lengths", "row"] (ze y8) := ⟨rfl, rfl, rfl, by decide +kernel, rfl, by decide +kernel, by decide +kernel⟩
abbrev yO : Stmt := top 45
theorem sc_play_trim : FnScope ["bench", "step", "faulted", "lane"] ["bench", "step"] (ze yO) := ⟨rfl, rfl, rfl, by decide +kernel, rfl, by decide +kernel, by decide +kernel⟩
abbrev yP : Stmt := top 46
theorem sc_play_stop : FnScope ["bench", "step"] ["bench", "step"] (ze yP) := ⟨rfl, rfl, rfl, by decide +kernel, rfl, by decide +kernel, by decide +kernel⟩
abbrev yD : Stmt := top 51
theorem sc_play_store : FnScope ["bench", "step", "active", "lane", "number"] ["bench", "step"] (ze yD) := ⟨rfl, rfl, rfl, by decide +kernel, rfl, by decide +kernel, by decide +kernel⟩
abbrev yF : Stmt := top 60
theorem sc_has_effect : FnScope ["word"] ["word"] (ze yF) := ⟨rfl, rfl, rfl, by decide +kernel, rfl, by decide +kernel, by decide +kernel⟩
abbrev yx : Stmt := top 61
theorem sc_play_effect : FnScope ["bench", "step"] ["bench", "step"] (ze yx) := ⟨rfl, rfl, rfl, by decide +kernel, rfl, by decide +kernel, by decide +kernel⟩
abbrev yh : Stmt := top 65
theorem sc_numbers_loaded : FnScope ["bench", "step", "active", "lane"] ["bench", "step", "active"] (ze yh) := ⟨rfl, rfl, rfl, by decide +kernel, rfl, by decide +kernel, by decide +kernel⟩
abbrev z9 : Stmt := top 69
theorem sc_number_gathered : FnScope ["bench", "row", "place", "lane"] ["bench", "row", "place", "lane"] (ze z9) := ⟨rfl, rfl, rfl, by decide +kernel, rfl, by decide +kernel, by decide +kernel⟩
abbrev zR : Stmt := top 70
theorem sc_numbers_gathered : FnScope ["bench", "step", "active", "places", "place", "lane"] ["bench", "step", "active"] (ze zR) := ⟨rfl, rfl, rfl, by decide +kernel, rfl, by decide +kernel, by decide +kernel⟩
abbrev yR : Stmt := top 77
theorem sc_lays_seat : FnScope ["word"] ["word"] (ze yR) := ⟨rfl, rfl, rfl, by decide +kernel, rfl, by decide +kernel, by decide +kernel⟩
abbrev yg : Stmt := top 78
theorem sc_play_seat_step : FnScope ["bench", "step", "active"] ["bench", "step"] (ze yg) := ⟨rfl, rfl, rfl, by decide +kernel, rfl, by decide +kernel, by decide +kernel⟩
abbrev yE : Stmt := top 80
theorem sc_play_begin : FnScope ["bench", "step"] ["bench", "step"] (ze yE) := ⟨rfl, rfl, rfl, by decide +kernel, rfl, by decide +kernel, by decide +kernel⟩
abbrev yQ : Stmt := top 81
theorem sc_play_next : FnScope ["bench", "step", "base"] ["bench", "step"] (ze yQ) := ⟨rfl, rfl, rfl, by decide +kernel, rfl, by decide +kernel, by decide +kernel⟩
abbrev yq : Stmt := top 86
theorem sc_place_behind : FnScope ["bench", "step"] ["bench", "step"] (ze yq) := ⟨rfl, rfl, rfl, by decide +kernel, rfl, by decide +kernel, by decide +kernel⟩
abbrev s_ran : Stmt := top 87
theorem sc_ran : FnScope ["code", "lengths", "cells", "lanes", "dust", "picks", "bench"] ["code", "lengths", "cells", "lanes", "dust", "picks"] (ze s_ran) := ⟨rfl, rfl, rfl, by decide +kernel, rfl, by decide +kernel, by decide +kernel⟩
abbrev yS : Stmt := top 89
theorem sc_l_cell_at : FnScope ["_law_script", "_law_k"] ["_law_script", "_law_k"] (ze yS) := ⟨rfl, rfl, rfl, by decide +kernel, rfl, by decide +kernel, by decide +kernel⟩
abbrev xp : Stmt := top 90
theorem sc_l_some : FnScope ["_law_script", "_law_k", "_law_salt", "_law_many", "_law_cell", "_law_mixed"] ["_law_script", "_law_k", "_law_salt", "_law_many"] (ze xp) := ⟨rfl, rfl, rfl, by decide +kernel, rfl, by decide +kernel, by decide +kernel⟩
abbrev y9 : Stmt := top 91
theorem sc_l_number : FnScope ["_law_script", "_law_k", "_law_cell", "_law_mixed"] ["_law_script", "_law_k"] (ze y9) := ⟨rfl, rfl, rfl, by decide +kernel, rfl, by decide +kernel, by decide +kernel⟩
abbrev yT : Stmt := top 92
theorem sc_l_alike : FnScope ["_law_found", "_law_due", "_law_one", "_law_other"] ["_law_found", "_law_due"] (ze yT) := ⟨rfl, rfl, rfl, by decide +kernel, rfl, by decide +kernel, by decide +kernel⟩
abbrev xm : Stmt := top 93
theorem sc_l_lanes : FnScope ["_law_cell"] ["_law_cell"] (ze xm) := ⟨rfl, rfl, rfl, by decide +kernel, rfl, by decide +kernel, by decide +kernel⟩
abbrev xn : Stmt := top 94
theorem sc_l_group : FnScope ["_law_script", "_law_k", "_law_salt"] ["_law_script", "_law_k", "_law_salt"] (ze xn) := ⟨rfl, rfl, rfl, by decide +kernel, rfl, by decide +kernel, by decide +kernel⟩
abbrev s_l_dust : Stmt := top 95
theorem sc_l_dust : FnScope ["_law_script", "_law_k", "_law_salt", "_law_j"] ["_law_script", "_law_k", "_law_salt"] (ze s_l_dust) := ⟨rfl, rfl, rfl, by decide +kernel, rfl, by decide +kernel, by decide +kernel⟩
abbrev s_l_ran : Stmt := top 96
theorem sc_l_ran : FnScope ["_law_code", "_law_lengths", "_law_cells", "_law_lanes_here", "_law_dust_here", "_law_picks", "_law_handed", "_law_found"] ["_law_code", "_law_lengths", "_law_cells", "_law_lanes_here", "_law_dust_here", "_law_picks"] (ze s_l_ran) := ⟨rfl, rfl, rfl, by decide +kernel, rfl, by decide +kernel, by decide +kernel⟩
abbrev xk : Stmt := top 97
theorem sc_l_place : FnScope ["_law_script", "_law_j", "_law_wild", "_law_length", "_law_odd"] ["_law_script", "_law_j", "_law_wild", "_law_length"] (ze xk) := ⟨rfl, rfl, rfl, by decide +kernel, rfl, by decide +kernel, by decide +kernel⟩
abbrev xj : Stmt := top 98
theorem sc_l_strip : FnScope ["_law_places", "_law_base", "_law_width", "_law_source", "_law_start", "_law_due", "_law_touches", "_law_trims", "_law_lane", "_law_good", "_law_place_here", "_law_cut"] ["_law_places", "_law_base", "_law_width", "_law_source", "_law_start", "_law_due", "_law_touches", "_law_trims"] (ze xj) := ⟨rfl, rfl, rfl, by decide +kernel, rfl, by decide +kernel, by decide +kernel⟩
abbrev s_law : Stmt := top 99
theorem sc_law : FnScope ["_law_script", "_law_many", "_law_turn", "_law_source", "_law_k", "_law_wild", "_law_places", "_law_j", "_law_parts", "_law_lengths", "_law_part", "_law_cells", "_law_rows", "_law_start", "_law_row", "_law_lanes_here", "_law_group_here", "_law_p", "_law_q", "_law_trims", "_law_stops", "_law_n", "_law_code", "_law_due", "_law_touches", "_law_refusal", "_law_base", "_law_width", "_law_cut"] ["_law_script"] (ze s_law) := ⟨rfl, rfl, rfl, by decide +kernel, rfl, by decide +kernel, by decide +kernel⟩
abbrev yH : Stmt := yp (top 2) 0
theorem sc_Boxes_init : FnScope ["self", "lanes"] ["self", "lanes"] (ze yH) := ⟨rfl, rfl, rfl, by decide +kernel, rfl, by decide +kernel, by decide +kernel⟩
abbrev ym : Stmt := yp (top 2) 1
theorem sc_Boxes_spot_of : FnScope ["self", "group", "seat", "lane"] ["self", "group", "seat", "lane"] (ze ym) := ⟨rfl, rfl, rfl, by decide +kernel, rfl, by decide +kernel, by decide +kernel⟩
abbrev yV : Stmt := yp (top 2) 2
theorem sc_Boxes_lay : FnScope ["self", "group", "seat", "lane", "number"] ["self", "group", "seat", "lane", "number"] (ze yV) := ⟨rfl, rfl, rfl, by decide +kernel, rfl, by decide +kernel, by decide +kernel⟩
abbrev ya : Stmt := yp (top 2) 3
theorem sc_Boxes_number_at : FnScope ["self", "group", "seat", "lane"] ["self", "group", "seat", "lane"] (ze ya) := ⟨rfl, rfl, rfl, by decide +kernel, rfl, by decide +kernel, by decide +kernel⟩
abbrev yU : Stmt := yp (top 4) 0
theorem sc_Feed_init : FnScope ["self", "numbers"] ["self", "numbers"] (ze yU) := ⟨rfl, rfl, rfl, by decide +kernel, rfl, by decide +kernel, by decide +kernel⟩
abbrev yG : Stmt := yp (top 4) 1
theorem sc_Feed_taken : FnScope ["self", "number"] ["self"] (ze yG) := ⟨rfl, rfl, rfl, by decide +kernel, rfl, by decide +kernel, by decide +kernel⟩
abbrev yI : Stmt := yp (top 10) 0
theorem sc_Bench_init : FnScope ["self", "lengths", "cells", "lanes", "dust", "picks", "row", "mask"] ["self", "lengths", "cells", "lanes", "dust", "picks"] (ze yI) := ⟨rfl, rfl, rfl, by decide +kernel, rfl, by decide +kernel, by decide +kernel⟩
abbrev zU : Stmt := yp (top 10) 1
theorem sc_Bench_open_round : FnScope ["self", "many", "group"] ["self", "many", "group"] (ze zU) := ⟨rfl, rfl, rfl, by decide +kernel, rfl, by decide +kernel, by decide +kernel⟩
abbrev zQ : Stmt := yp (top 10) 2
theorem sc_Bench_begin_strip : FnScope ["self", "base"] ["self", "base"] (ze zQ) := ⟨rfl, rfl, rfl, by decide +kernel, rfl, by decide +kernel, by decide +kernel⟩
abbrev zN : Stmt := yp (top 10) 3
theorem sc_Bench_active_under : FnScope ["self", "mask", "truths", "lane"] ["self", "mask"] (ze zN) := ⟨rfl, rfl, rfl, by decide +kernel, rfl, by decide +kernel, by decide +kernel⟩
abbrev zV : Stmt := yp (top 10) 4
theorem sc_Bench_numbers_in : FnScope ["self", "seat", "active", "lane"] ["self", "seat", "active"] (ze zV) := ⟨rfl, rfl, rfl, by decide +kernel, rfl, by decide +kernel, by decide +kernel⟩
abbrev yi : Stmt := yp (top 10) 5
theorem sc_Bench_lay_seat : FnScope ["self", "seat", "active", "numbers", "told", "lane", "number"] ["self", "seat", "active", "numbers"] (ze yi) := ⟨rfl, rfl, rfl, by decide +kernel, rfl, by decide +kernel, by decide +kernel⟩
abbrev yj : Stmt := yp (top 10) 6
theorem sc_Bench_lay_mask : FnScope ["self", "mask", "chosen", "truths", "lane"] ["self", "mask", "chosen"] (ze yj) := ⟨rfl, rfl, rfl, by decide +kernel, rfl, by decide +kernel, by decide +kernel⟩
abbrev yy : Stmt := yp (top 10) 7
theorem sc_Bench_touch : FnScope ["self", "kind", "address"] ["self", "kind", "address"] (ze yy) := ⟨rfl, rfl, rfl, by decide +kernel, rfl, by decide +kernel, by decide +kernel⟩
abbrev yb : Stmt := yp (top 10) 8
theorem sc_Bench_read_cell : FnScope ["self", "row", "place", "address"] ["self", "row", "place"] (ze yb) := ⟨rfl, rfl, rfl, by decide +kernel, rfl, by decide +kernel, by decide +kernel⟩
abbrev zS : Stmt := yp (top 10) 9
theorem sc_Bench_write_cell : FnScope ["self", "row", "place", "number", "address"] ["self", "row", "place", "number"] (ze zS) := ⟨rfl, rfl, rfl, by decide +kernel, rfl, by decide +kernel, by decide +kernel⟩
section
variable {P : Program} {w : World} {K : PySem.W.Frag} {mg : Str → Option Value} {base : Heap}
end
end K35
namespace K35
open PySem L2
section
variable {P : Program} {w : World} {K : PySem.W.Frag} {mg : Str → Option Value} {base : Heap}
structure FCls (K : PySem.W.Frag) (C : Addr) : Prop where
  c : Cls K C
  n1 : NoAttr K C "numbers"
  n2 : NoAttr K C "at"
abbrev zD (C dx : Addr) (l : Addr) (p : Int) : HO := .ins C dx [("numbers", .ref l), ("at", .int p)]
def fAt (ns : List Int) (q : Nat) : Int := if ns.length = 0 then 0 else ((q % ns.length : Nat) : Int)
def fVal (ns : List Int) (q : Nat) : Int := ns.getD (q % ns.length) 0
def spInitF (K : PySem.W.Frag) (C : Addr) : Sp := fun vs H Q _ => ∃ (x dx a : Addr) (ns : List Int), vs = [.ref x, .ref a] ∧ H x = some (.ins C dx []) ∧ SqL K H a (ns.map V.int) ∧
  ∀ (H' : Hp) (l : Addr), (∀ b o, b ≠ x → H b = some o → H' b = some o) → H l = none → H' x = some (zD C dx l 0) → H' l = some (.lst (ns.map V.int)) → Q .non H'
theorem ok_initF {C : Addr} (d : InitIn K C "Feed.__init__" yU ["self", "numbers"]) (b : FCls K C) (hlist : mg "list" = none) : OkI P w K mg base CX0 1 C ["self", "numbers"] (spInitF K C) := by
  obtain ⟨f, fd, m, F, bd⟩ := d
  refine ⟨f, fd, m, bd, F.ok sc_Feed_init (fun vs H Q E ⟨_, _, _, _, e, _⟩ => by rw [e]; rfl) fun cdv A outer s H vs Q E hr h => ?_⟩
  obtain ⟨x, dx, a, ns, rfl, hx, hS, k⟩ := h
  refine ⟨_, (zb (zy (pv 0) (yc yd (by rfl) hlist PyProof.Rows.boot_list (za (pv 1) zd)) rfl)
      (zh (zy (pv 0) zc rfl))), ?_⟩
  refine ⟨_, rfl, a, _, rfl, .inl hS, fun l nl => ?_⟩
  have nx : x ≠ l := zo hx nl
  refine ⟨_, rfl, x, C, dx, [], rfl, by rw [zj nx]; exact hx, b.c, b.n1, by decide, ?_⟩
  refine ⟨_, rfl, x, C, dx, [("numbers", .ref l)], rfl, zf, b.c, b.n2, (by show 1 < 1000; decide), ?_⟩
  refine k _ l (fun c o nc z => ?_) nl zf ?_
  · rw [zj nc, zj nc, zj (zo z nl)]
    exact z
  · rw [zj (Ne.symm nx), zj (Ne.symm nx), zf]
def spTaken (C : Addr) : Sp := fun vs H Q _ => ∃ (x dx l : Addr) (ns : List Int) (q : Nat), vs = [.ref x] ∧ H x = some (zD C dx l (fAt ns q)) ∧ H l = some (.lst (ns.map V.int)) ∧
  ∀ H', (∀ b o, b ≠ x → H b = some o → H' b = some o) → H' x = some (zD C dx l (fAt ns (q + 1))) → Q (.int (fVal ns q)) H'
theorem ok_taken {C : Addr} (d : zZ K C "taken" "Feed.taken" yG ["self"]) (b : FCls K C) (hlen : mg "len" = none) : OkM P w K mg base CX0 1 C "taken" ["self"] (spTaken C) := by
  obtain ⟨f, fd, m, F, bd⟩ := d
  refine ⟨f, fd, m, bd, F.ok sc_Feed_taken (fun vs H Q E ⟨_, _, _, _, _, e, _⟩ => by rw [e]; rfl) fun cdv A outer s H vs Q E hr h => ?_⟩
  obtain ⟨x, dx, l, ns, q, rfl, hx, hl, k⟩ := h
  have nd := sc_Feed_taken.nd
  refine ⟨_, (zb (yr (zX op_eq (zF ye (by rfl) hlen PySem.boot_len (za (zp (pv 0) rfl) zd)) zc (zW _)) (zh (zu zc)) zK)
      (zb (zt (i := 1) nd rfl (Or.inl rfl) (zE zB (zp (pv 0) rfl) (zp (pv 0) rfl) (fun _ _ => rfl)))
      (zb (zy (pv 0) (zi yB (zi zv (zp (pv 0) rfl) zc) (zF ye (by rfl) hlen PySem.boot_len (za (zp (pv 0) rfl) zd))) rfl)
      (zh (zu (pv 1)))))), ?_⟩
  refine ⟨_, rfl, x, C, dx, _, .ref l, rfl, hx, b.c, b.n1, rfl, l, _, rfl, .inl (SqL.of hl), rfl, _, rfl, ?_⟩
  rw [List.length_map]
  refine ite2 (fun z => ?_) (fun z => ?_)
  · have z : (ns.length : Int) = 0 := by simpa using z
    have e : ns = [] := List.length_eq_zero_iff.mp (by omega)
    subst e
    exact k H (fun b o _ z => z) hx
  · have z : ns.length ≠ 0 := by simpa using z
    have lt : q % ns.length < ns.length := Nat.mod_lt _ (by omega)
    have e1 : fAt ns q = ((q % ns.length : Nat) : Int) := if_neg z
    have e2 : fAt ns (q + 1) = (((q + 1) % ns.length : Nat) : Int) := if_neg z
    have nx : x ≠ l := ne_of hx hl (by intro y; cases y)
    refine ⟨_, rfl, x, C, dx, _, .ref l, rfl, hx, b.c, b.n1, rfl, _, rfl, x, C, dx, _, .int (fAt ns q), rfl, hx, b.c, b.n2, rfl, l, _, _, _, rfl, rfl, SqL.of hl, at_int (q % ns.length) lt e1, ?_⟩
    refine ⟨_, rfl, x, C, dx, _, .int (fAt ns q), rfl, hx, b.c, b.n2, rfl, _, _, rfl, rfl, _, rfl, x, C, dx, _, .ref l, rfl, hx, b.c, b.n1, rfl, l, _, rfl, .inl (SqL.of hl), _, _, rfl, rfl, (by rw [List.length_map]; omega), ?_⟩
    refine ⟨_, rfl, x, C, dx, _, rfl, hx, b.c, b.n2, (by show 2 < 1000; decide), ?_⟩
    refine ⟨_, rfl, k _ (fun c o nc z => by rw [zj nc]; exact z) ?_⟩
    have e3 : (fAt ns q + 1) % ((ns.map V.int).length : Int) = fAt ns (q + 1) := by
      rw [e1, e2, List.length_map]
      have h1 : (((q % ns.length : Nat) : Int) + 1) = ((q % ns.length + 1 : Nat) : Int) := by omega
      rw [h1, ← Int.natCast_emod, Nat.mod_add_mod]
    rw [zf, ← e3]
    rfl
structure BCls (K : PySem.W.Frag) (C : Addr) : Prop where
  c : Cls K C
  n1 : NoAttr K C "lanes"
  n2 : NoAttr K C "numbers"
abbrev boxO (C dx : Addr) (L : Int) (l : Addr) : HO := .ins C dx [("lanes", .int L), ("numbers", .ref l)]
def spInitB (C : Addr) : Sp := fun vs H Q _ => ∃ (x dx : Addr) (L : Int), vs = [.ref x, .int L] ∧ H x = some (.ins C dx []) ∧ 1 ≤ L ∧ L ≤ 64 ∧
  ∀ (H' : Hp) (l : Addr), (∀ b o, b ≠ x → H b = some o → H' b = some o) → H l = none → H' x = some (boxO C dx L l) → H' l = some (.lst ((List.replicate (8 * L).toNat (0 : Int)).map V.int)) → Q .non H'
theorem ok_initB {C : Addr} {t : Tok} (d : InitIn K C "Boxes.__init__" yH ["self", "lanes"]) (b : BCls K C) (hMB : mg "MANY_BOXES" = some (.int 8 t)) : OkI P w K mg base CX0 1 C ["self", "lanes"] (spInitB C) := by
  obtain ⟨f, fd, m, F, bd⟩ := d
  refine ⟨f, fd, m, bd, F.ok sc_Boxes_init (fun vs H Q E ⟨_, _, _, e, _⟩ => by rw [e]; rfl) fun cdv A outer s H vs Q E hr h => ?_⟩
  obtain ⟨x, dx, L, rfl, hx, h1, h2, k⟩ := h
  refine ⟨_, zb (zy (pv 0) (pv 1) rfl) (zh (zy (pv 0) (zi op_rep (yL (za zc zd)) (zi zY (pe_gint hMB) (pv 1))) rfl)), ?_⟩
  refine ⟨_, rfl, _, rfl, x, C, dx, [], rfl, hx, b.c, b.n1, by decide, ?_⟩
  refine ⟨(by show 1 ≤ sizeLine; decide), fun t nt => ⟨_, rfl, _, _, rfl, rfl, .inl ⟨by decide, by decide⟩, t, _, _, rfl, rfl, zf, by omega, by omega, ?_, fun l nl => ?_⟩⟩
  · show 1 * (8 * L).toNat ≤ sizeLine
    have : (600 : Nat) ≤ sizeLine := by decide
    omega
  have nx : x ≠ t := zo (o := .ins C dx [("lanes", .int L)]) zf nt
  have nl' : x ≠ l := zo (o := .ins C dx [("lanes", .int L)]) (by rw [zj nx, zf]; rfl) nl
  refine ⟨_, rfl, x, C, dx, [("lanes", .int L)], rfl, ?_, b.c, b.n2, (by show 1 < 1000; decide), ?_⟩
  · rw [zj nl', zj nx, zf]; rfl
  rw [rep_ints]
  have lt : l ≠ t := Ne.symm (zo (o := .lst [.int 0]) zf nl)
  have hl : H l = none := by
    have z := nl
    rw [zj lt, zj (Ne.symm nl')] at z
    exact z
  have ht : H t = none := by
    have z := nt
    rw [zj (Ne.symm nx)] at z
    exact z
  refine k _ l (fun c o nc z => ?_) hl zf ?_
  · rw [zj nc, zj (zo z hl), zj (zo z ht), zj nc]
    exact z
  · rw [zj (Ne.symm nl'), zf]
def spSpot (C : Addr) : Sp := fun vs H Q _ => ∃ (x dx l : Addr) (L g p j : Int), vs = [.ref x, .int g, .int p, .int j] ∧ H x = some (boxO C dx L l) ∧ 1 ≤ L ∧ L ≤ 64 ∧ 1 ≤ g ∧ g ≤ 4 ∧ Q (.int (p * g * L + j)) H
theorem ok_spot {C : Addr} (d : zZ K C "spot_of" "Boxes.spot_of" ym ["self", "group", "seat", "lane"]) (b : BCls K C) : OkM P w K mg base CX0 1 C "spot_of" ["self", "group", "seat", "lane"] (spSpot C) := by
  obtain ⟨f, fd, m, F, bd⟩ := d
  refine ⟨f, fd, m, bd, F.ok sc_Boxes_spot_of (fun vs H Q E ⟨_, _, _, _, _, _, _, e, _⟩ => by rw [e]; rfl) fun cdv A outer s H vs Q E hr h => ?_⟩
  obtain ⟨x, dx, l, L, g, p, j, rfl, hx, h1, h2, h3, h4, k⟩ := h
  refine ⟨_, (zh (zu (zi zv (zi zY (zi zY (pv 2) (pv 1)) (zp (pv 0) rfl)) (pv 3)))), ?_⟩
  exact ⟨_, rfl, _, rfl, _, _, rfl, rfl, .inr ⟨by omega, by omega⟩, _, rfl, x, C, dx, _, .int L, rfl, hx, b.c, b.n1, rfl, _, _, rfl, rfl, .inr ⟨by omega, by omega⟩, _, rfl, _, _, rfl, rfl, k⟩
def spLay (C : Addr) : Sp := fun vs H Q _ => ∃ (x dx l : Addr) (L g p j n : Int) (nums : List Int), vs = [.ref x, .int g, .int p, .int j, .int n] ∧ H x = some (boxO C dx L l) ∧ H l = some (.lst (nums.map V.int)) ∧ 1 ≤ L ∧ L ≤ 64 ∧ 1 ≤ g ∧ g ≤ 4 ∧ 0 ≤ p * g * L + j ∧ p * g * L + j < nums.length ∧
  Q .non (upd H l (.lst ((nums.set (p * g * L + j).toNat n).map V.int)))
theorem ok_lay {C : Addr} (d : zZ K C "lay" "Boxes.lay" yV ["self", "group", "seat", "lane", "number"]) (b : BCls K C) (SO : OkM P w K mg base CX0 1 C "spot_of" ["self", "group", "seat", "lane"] (spSpot C)) : OkM P w K mg base CX0 2 C "lay" ["self", "group", "seat", "lane", "number"] (spLay C) := by
  obtain ⟨f, fd, m, F, bd⟩ := d
  refine ⟨f, fd, m, bd, F.ok sc_Boxes_lay (fun vs H Q E ⟨_, _, _, _, _, _, _, _, _, e, _⟩ => by rw [e]; rfl) fun cdv A outer s H vs Q E hr h => ?_⟩
  obtain ⟨x, dx, l, L, g, p, j, n, nums, rfl, hx, hl, h1, h2, h3, h4, h5, h6, k⟩ := h
  have hr1 := hr
  have cC := b.c
  refine ⟨_, (zh (ps_asg (pv 4) (pg_sub (zp (pv 0) rfl) (yz SO cC hr1 zr (pv 0) (za (pv 1) (za (pv 2) (za (pv 3) zd)))) set_list))), ?_⟩
  refine ⟨_, rfl, _, rfl, x, C, dx, _, .ref l, rfl, hx, b.c, b.n2, rfl, _, rfl, x, dx, _, rfl, hx, rfl, _, rfl, _, rfl, _, rfl, x, dx, l, L, g, p, j, rfl, hx, h1, h2, h3, h4, ?_⟩
  refine ⟨l, _, _, _, rfl, rfl, hl, ixN_nat h5 (by rw [List.length_map]; exact h6), ?_⟩
  rw [set_ints]
  exact k
def spNum (C : Addr) : Sp := fun vs H Q _ => ∃ (x dx l : Addr) (L g p j : Int) (nums : List Int), vs = [.ref x, .int g, .int p, .int j] ∧ H x = some (boxO C dx L l) ∧ H l = some (.lst (nums.map V.int)) ∧ 1 ≤ L ∧ L ≤ 64 ∧ 1 ≤ g ∧ g ≤ 4 ∧ 0 ≤ p * g * L + j ∧ p * g * L + j < nums.length ∧
  Q (.int (nums.getD (p * g * L + j).toNat 0)) H
theorem ok_num {C : Addr} (d : zZ K C "number_at" "Boxes.number_at" ya ["self", "group", "seat", "lane"]) (b : BCls K C) (SO : OkM P w K mg base CX0 1 C "spot_of" ["self", "group", "seat", "lane"] (spSpot C)) : OkM P w K mg base CX0 2 C "number_at" ["self", "group", "seat", "lane"] (spNum C) := by
  obtain ⟨f, fd, m, F, bd⟩ := d
  refine ⟨f, fd, m, bd, F.ok sc_Boxes_number_at (fun vs H Q E ⟨_, _, _, _, _, _, _, _, e, _⟩ => by rw [e]; rfl) fun cdv A outer s H vs Q E hr h => ?_⟩
  obtain ⟨x, dx, l, L, g, p, j, nums, rfl, hx, hl, h1, h2, h3, h4, h5, h6, k⟩ := h
  have hr1 := hr
  have cC := b.c
  refine ⟨_, (zh (zu (zE zB (zp (pv 0) rfl) (yz SO cC hr1 zr (pv 0) (za (pv 1) (za (pv 2) (za (pv 3) zd)))) (fun _ _ => rfl)))), ?_⟩
  exact ⟨_, rfl, x, C, dx, _, .ref l, rfl, hx, b.c, b.n2, rfl, _, rfl, x, dx, _, rfl, hx, rfl, _, rfl, _, rfl, _, rfl, x, dx, l, L, g, p, j, rfl, hx, h1, h2, h3, h4, l, _, _, _, rfl, rfl, SqL.of hl, at_int (p * g * L + j).toNat (by omega) (by omega), k⟩
end
end K35
namespace L2
open PySem
theorem pe_fldK {X : Cx} {K : PySem.W.Frag} {e : Expr} {f : Str} {pos : Pos} {ta : TE} (h : X.K = K) (he : PE X e ta) (hb : attributeBase e f X.env (eval e X.env) = eval e X.env) : PE X (.Attribute e f pos) (tFld K ta f) := h ▸ zp he hb
end L2
namespace K35
open PySem L2
structure MCs where
  bx : Addr
  fe : Addr
  bn : Addr
structure Mc where
  lens : List Int
  starts : List Int
  cells : List Int
  lanes : Nat
  nums : List Int
  masks : List (List Bool)
  slots : List (Key × V)
  dust : List Int
  dq : Nat
  picks : List Int
  pq : Nat
  touches : List (Int × Str × Int)
  pc : Int
  opened : Int
  many : Int
  group : Int
  base : Int
  begun : Int
  width : Int
  faults : List (Key × V)
  cut : Option Int
  carried : Option Int
  raised : Bool
  turns : List (Int × Int)
  refusal : Option (Int × Int × Str)
structure Ma where
  b : Addr
  db : Addr
  aL : Addr
  aS : Addr
  aC : Addr
  bx : Addr
  dbx : Addr
  aN : Addr
  aM : Addr
  aSl : Addr
  fd : Addr
  dfd : Addr
  aD : Addr
  fp : Addr
  dfp : Addr
  aP : Addr
  aT : Addr
  aF : Addr
  aU : Addr
  ms : List Addr
  ts : List Addr
  us : List Addr
  rf : V
def oV : Option Int → V
  | none => .non
  | some n => .int n
def flds (A : Ma) (M : Mc) : List (Str × V) := [("lengths", .ref A.aL), ("starts", .ref A.aS), ("cells", .ref A.aC), ("lanes", .int M.lanes), ("boxes", .ref A.bx), ("masks", .ref A.aM), ("slots", .ref A.aSl), ("dust", .ref A.fd), ("picks", .ref A.fp), ("touches", .ref A.aT), ("at", .int M.pc), ("opened", .int M.opened), ("many", .int M.many), ("group", .int M.group), ("base", .int M.base), ("begun", .int M.begun), ("width", .int M.width), ("faults", .ref A.aF), ("cut", oV M.cut), ("carried", oV M.carried), ("raised", .bl M.raised), ("turns", .ref A.aU), ("refusal", A.rf)]
def mskO (A : Ma) (M : Mc) : List (Addr × HO) := (A.ms.zip M.masks).map fun p => (p.1, .lst (p.2.map V.bl))
def objs (c : MCs) (A : Ma) (M : Mc) (R : List (Addr × HO)) : List (Addr × HO) :=
  (A.b, .ins c.bn A.db (flds A M)) :: (A.aC, .lst (M.cells.map V.int)) :: (A.aN, .lst (M.nums.map V.int)) :: (A.aSl, .dK M.slots) :: (A.fd, zD c.fe A.dfd A.aD (fAt M.dust M.dq)) :: (A.fp, zD c.fe A.dfp A.aP (fAt M.picks M.pq)) :: (A.aT, .lst (A.ts.map V.ref)) :: (A.aF, .dK M.faults) :: (A.aU, .lst (A.us.map V.ref)) :: (mskO A M ++ R)
structure BenchB (c : MCs) (B : Hp) (A : Ma) (M : Mc) : Prop where
  lens : B A.aL = some (.lst (M.lens.map V.int))
  starts : B A.aS = some (.lst (M.starts.map V.int))
  bx : B A.bx = some (boxO c.bx A.dbx M.lanes A.aN)
  msk : B A.aM = some (.lst (A.ms.map V.ref))
  ml : A.ms.length = M.masks.length
  dl : B A.aD = some (.lst (M.dust.map V.int))
  pl : B A.aP = some (.lst (M.picks.map V.int))
  tl : A.ts.length = M.touches.length
  tt : ∀ (i : Nat) (t : Addr) (p : Int × Str × Int), A.ts[i]? = some t → M.touches[i]? = some p → B t = some (.tup [.int p.1, .str p.2.1, .int p.2.2])
  ul : A.us.length = M.turns.length
  uu : ∀ (i : Nat) (t : Addr) (p : Int × Int), A.us[i]? = some t → M.turns[i]? = some p → B t = some (.tup [.int p.1, .int p.2])
  rf : match M.refusal with
    | none => A.rf = .non
    | some r => ∃ t, A.rf = .ref t ∧ B t = some (.tup [.int r.1, .int r.2.1, .str r.2.2])
theorem BenchB.same {c : MCs} {B B' : Hp} {A : Ma} {M : Mc} (h : BenchB c B A M) (s : Same B B') : BenchB c B' A M := by
  refine ⟨s _ _ h.lens, s _ _ h.starts, s _ _ h.bx, s _ _ h.msk, h.ml, s _ _ h.dl, s _ _ h.pl, h.tl, fun i t p a b => s _ _ (h.tt i t p a b), h.ul, fun i t p a b => s _ _ (h.uu i t p a b), ?_⟩
  have := h.rf
  revert this
  cases M.refusal with
  | none => exact fun z => z
  | some r => exact fun ⟨t, a, b⟩ => ⟨t, a, s _ _ b⟩
structure NCls (K : PySem.W.Frag) (C : Addr) : Prop where
  c : Cls K C
  lengths : NoAttr K C "lengths"
  starts : NoAttr K C "starts"
  cells : NoAttr K C "cells"
  lanes : NoAttr K C "lanes"
  boxes : NoAttr K C "boxes"
  masks : NoAttr K C "masks"
  slots : NoAttr K C "slots"
  dust : NoAttr K C "dust"
  picks : NoAttr K C "picks"
  touches : NoAttr K C "touches"
  pc : NoAttr K C "at"
  opened : NoAttr K C "opened"
  many : NoAttr K C "many"
  group : NoAttr K C "group"
  base : NoAttr K C "base"
  begun : NoAttr K C "begun"
  width : NoAttr K C "width"
  faults : NoAttr K C "faults"
  cut : NoAttr K C "cut"
  carried : NoAttr K C "carried"
  raised : NoAttr K C "raised"
  turns : NoAttr K C "turns"
  refusal : NoAttr K C "refusal"
structure MCls (K : PySem.W.Frag) (c : MCs) : Prop where
  b : BCls K c.bx
  f : FCls K c.fe
  n : NCls K c.bn
structure MAt (c : MCs) (B : Hp) (A : Ma) (M : Mc) (R : List (Addr × HO)) (H : Hp) : Prop where
  bb : BenchB c B A M
  h : Hd B (objs c A M R) H
theorem MAt.b {c : MCs} {B : Hp} {A : Ma} {M : Mc} {R : List (Addr × HO)} {H : Hp} (m : MAt c B A M R H) : H A.b = some (.ins c.bn A.db (flds A M)) := m.h.get 0 rfl
theorem MAt.grow {c : MCs} {B : Hp} {A : Ma} {M : Mc} {R : List (Addr × HO)} {H : Hp} {t : Addr} {o : HO} (m : MAt c B A M R H) (n : H t = none) : MAt c (upd B t o) A M R (upd H t o) := by
  have sB : Same B (upd B t o) := zg (Same.refl _) (m.h.free n)
  refine ⟨m.bb.same sB, m.h.nd, fun p q => ?_, fun p q => ?_, fun b u z => ?_⟩
  · rw [zj (zo (m.h.st p q) n)]; exact m.h.nw p q
  · rw [zj (zo (m.h.st p q) n)]; exact m.h.st p q
  · by_cases e : b = t
    · subst e; rw [zf] at z ⊢; exact z
    · rw [zj e] at z ⊢; exact m.h.sm _ _ z
section
variable {P : Program} {w : World} {K : PySem.W.Frag} {mg : Str → Option Value} {base : Heap}
def Mc.touched (M : Mc) (kind : Str) (a : Int) : Mc := { M with touches := M.touches ++ [(M.pc, kind, a)] }
def spTouch (c : MCs) : Sp := fun vs H Q _ => ∃ (B : Hp) (A : Ma) (M : Mc) (R : List (Addr × HO)) (kind : Str) (a : Int), vs = [.ref A.b, .str kind, .int a] ∧ MAt c B A M R H ∧ M.touches.length < 100000 ∧
  ∀ B' A' H', Same B B' → A'.b = A.b → MAt c B' A' (M.touched kind a) R H' → Q .non H'
theorem ok_touch {c : MCs} (d : zZ K c.bn "touch" "Bench.touch" yy ["self", "kind", "address"]) (CN : NCls K c.bn) : OkM P w K mg base CX0 1 c.bn "touch" ["self", "kind", "address"] (spTouch c) := by
  obtain ⟨f, fd, m, F, bd⟩ := d
  refine ⟨f, fd, m, bd, F.ok sc_Bench_touch (fun vs H Q E ⟨_, _, _, _, _, _, e, _⟩ => by rw [e]; rfl) fun cdv A outer s H vs Q E hr h => ?_⟩
  obtain ⟨B, A, M, R, kind, a, rfl, m, hl, k⟩ := h
  refine ⟨_, (zh (yo (pe_bm PySem.F.plainAttrs_list PySem.F.slot_list_append PySem.F.type_list_append xa (zp (pv 0) rfl) (za (yJ (za (zp (pv 0) rfl) (za (pv 1) (za (pv 2) zd)))) zd)))), ?_⟩
  refine ⟨_, rfl, A.b, _, _, _, .ref A.aT, rfl, m.b, CN.c, CN.touches, rfl, .inl ⟨rfl, _, m.h.lst 6 rfl⟩, _, rfl, A.b, _, _, _, .int M.pc, rfl, m.b, CN.c, CN.pc, rfl, _, rfl, _, rfl, (by show 3 ≤ sizeLine; decide), fun t nt => ?_⟩
  have sB : Same B (upd B t (.tup [.int M.pc, .str kind, .int a])) := zg (Same.refl _) (m.h.free nt)
  have m1 := m.grow (o := .tup [.int M.pc, .str kind, .int a]) nt
  have e1 : upd B t (.tup [.int M.pc, .str kind, .int a]) t = some (.tup [.int M.pc, .str kind, .int a]) := zf
  generalize upd B t (.tup [.int M.pc, .str kind, .int a]) = B1 at sB m1 e1
  have tl := m.bb.tl
  refine ⟨A.aT, _, _, rfl, rfl, m1.h.get 6 rfl, (by rw [List.length_map]; exact Nat.lt_of_le_of_lt (show A.ts.length ≤ 100000 by omega) (by decide)), ?_⟩
  have h2 := m1.h.put (o' := .lst ((A.ts ++ [t]).map V.ref)) 6 rfl
  rw [List.map_append] at h2
  refine k B1 { A with ts := A.ts ++ [t] } _ sB rfl ⟨⟨m1.bb.lens, m1.bb.starts, m1.bb.bx, m1.bb.msk, m1.bb.ml, m1.bb.dl, m1.bb.pl, ?_, fun i t' p a1 a2 => ?_, m1.bb.ul, m1.bb.uu, m1.bb.rf⟩, ?_⟩
  · show (A.ts ++ [t]).length = (M.touches ++ [_]).length
    rw [List.length_append, List.length_append, tl]; rfl
  · have a1 : (A.ts ++ [t])[i]? = some t' := a1
    have a2 : (M.touches ++ [(M.pc, kind, a)])[i]? = some p := a2
    by_cases z : i < A.ts.length
    · rw [List.getElem?_append_left z] at a1
      rw [List.getElem?_append_left (by omega)] at a2
      exact m1.bb.tt i t' p a1 a2
    · rw [List.getElem?_append_right (by omega)] at a1 a2
      rw [tl] at a1
      cases e : i - M.touches.length with
      | zero => rw [e] at a1 a2; cases a1; cases a2; exact e1
      | succ j => rw [e] at a1; cases a1
  · show Hd B1 (objs c { A with ts := A.ts ++ [t] } (M.touched kind a) R) _
    have e : (A.ts ++ [t]).map V.ref = A.ts.map V.ref ++ [V.ref t] := by rw [List.map_append]; rfl
    unfold objs
    rw [e]
    exact h2
end
end K35
namespace K35
open PySem L2
section
variable {c : MCs} {B : Hp} {A : Ma} {M : Mc} {R : List (Addr × HO)} {H J : Hp} {a : Addr} {o o' : HO}
theorem MAt.adopt (m : MAt c B A M R H) (h : Hd H [(a, o)] J) : MAt c (upd B a o) A M R J := by
  have na : H a = none := h.nw _ (List.mem_singleton.mpr rfl)
  have nb : B a = none := m.h.free na
  have sB : Same B (upd B a o) := zg (Same.refl _) nb
  refine ⟨m.bb.same sB, m.h.nd, fun p q => ?_, fun p q => h.sm _ _ (m.h.st p q), fun b u z => ?_⟩
  · rw [zj (zo (m.h.st p q) na)]; exact m.h.nw p q
  · by_cases e : b = a
    · subst e; rw [zf] at z; cases z; exact h.get 0 rfl
    · rw [zj e] at z; exact h.sm _ _ (m.h.sm _ _ z)
theorem MAt.newR (m : MAt c B A M R H) (n : H a = none) : MAt c B A M ((a, o) :: R) (upd H a o) := by
  refine ⟨m.bb, (m.h.new (o := o) n).perm ?_⟩
  unfold objs
  rw [← List.cons_append, ← List.cons_append, ← List.cons_append, ← List.cons_append, ← List.cons_append, ← List.cons_append, ← List.cons_append, ← List.cons_append, ← List.cons_append]
  rw [← List.cons_append, ← List.cons_append, ← List.cons_append, ← List.cons_append, ← List.cons_append, ← List.cons_append, ← List.cons_append, ← List.cons_append, ← List.cons_append]
  exact (List.perm_middle (a := (a, o)) (l₁ := _ :: _ :: _ :: _ :: _ :: _ :: _ :: _ :: _ :: mskO A M) (l₂ := R)).symm
theorem atR : (objs c A M ((a, o) :: R))[9 + (mskO A M).length]? = some (a, o) := by
  unfold objs
  rw [show 9 + (mskO A M).length = (mskO A M).length + 1 + 1 + 1 + 1 + 1 + 1 + 1 + 1 + 1 by omega]
  simp only [List.getElem?_cons_succ]
  rw [List.getElem?_append_right (Nat.le_refl _), Nat.sub_self]; rfl
theorem setR : (objs c A M ((a, o) :: R)).set (9 + (mskO A M).length) (a, o') = objs c A M ((a, o') :: R) := by
  unfold objs
  rw [show 9 + (mskO A M).length = (mskO A M).length + 1 + 1 + 1 + 1 + 1 + 1 + 1 + 1 + 1 by omega]
  simp only [List.set_cons_succ]
  rw [List.set_append_right _ _ (Nat.le_refl _), Nat.sub_self]; rfl
theorem MAt.getR (m : MAt c B A M ((a, o) :: R) H) : H a = some o := m.h.get _ atR
theorem MAt.putR (m : MAt c B A M ((a, o) :: R) H) : MAt c B A M ((a, o') :: R) (upd H a o') := by
  have h := m.h.put (o' := o') _ atR
  rw [setR] at h
  exact ⟨m.bb, h⟩
theorem MAt.settle (m : MAt c B A M ((a, o) :: R) H) : MAt c (upd B a o) A M R H := by
  have nb : B a = none := m.h.nw (a, o) (List.mem_of_getElem? atR)
  have sB : Same B (upd B a o) := zg (Same.refl _) nb
  have sub : List.Sublist (objs c A M R) (objs c A M ((a, o) :: R)) := by
    unfold objs
    exact .cons₂ _ (.cons₂ _ (.cons₂ _ (.cons₂ _ (.cons₂ _ (.cons₂ _ (.cons₂ _ (.cons₂ _ (.cons₂ _ (List.Sublist.append (List.Sublist.refl _) (List.sublist_cons_self _ _))))))))))
  have h := m.h.sub sub
  refine ⟨m.bb.same sB, h.nd, fun p q => ?_, h.st, fun b u z => ?_⟩
  · rw [zj ?_]
    · exact h.nw p q
    · intro e
      have nd := m.h.nd
      have p1 : p ∈ objs c A M ((a, o) :: R) := sub.subset q
      have : ((a, o) :: objs c A M R).Perm (objs c A M ((a, o) :: R)) := by
        unfold objs
        exact (List.perm_middle (a := (a, o)) (l₁ := _ :: _ :: _ :: _ :: _ :: _ :: _ :: _ :: _ :: mskO A M) (l₂ := R)).symm
      have nd2 := (this.map Prod.fst).symm.nodup nd
      exact (List.nodup_cons.mp nd2).1 (by have := List.mem_map_of_mem (f := Prod.fst) q; rw [e] at this; exact this)
  · by_cases e : b = a
    · subst e; rw [zf] at z; cases z; exact m.getR
    · rw [zj e] at z; exact m.h.sm _ _ z
theorem MAt.mask (m : MAt c B A M R H) {k : Nat} (hk : k < M.masks.length) : ∃ x, A.ms[k]? = some x ∧ H x = some (.lst ((M.masks.getD k []).map V.bl)) := by
  have ml := m.bb.ml
  refine ⟨A.ms[k], by rw [List.getElem?_eq_getElem (by omega)], ?_⟩
  refine m.h.get (9 + k) ?_
  unfold objs
  rw [show 9 + k = k + 1 + 1 + 1 + 1 + 1 + 1 + 1 + 1 + 1 by omega]
  simp only [List.getElem?_cons_succ]
  have lm : (mskO A M).length = A.ms.length := by unfold mskO; rw [List.length_map, List.length_zip]; omega
  rw [List.getElem?_append_left (by omega)]
  unfold mskO
  have e : (A.ms.zip M.masks)[k]? = some (A.ms[k], M.masks[k]) := by rw [List.getElem?_zip_eq_some]; exact ⟨by rw [List.getElem?_eq_getElem (by omega)], by rw [List.getElem?_eq_getElem hk]⟩
  rw [List.getElem?_map, e]
  show some _ = some _
  rw [List.getD_eq_getElem?_getD, List.getElem?_eq_getElem hk]
  rfl
end
section
variable {P : Program} {w : World} {K : PySem.W.Frag} {mg : Str → Option Value} {base : Heap}
def Mc.adr (M : Mc) (row : Nat) (place : Int) : Int := M.starts.getD row 0 + place
def spRead (c : MCs) : Sp := fun vs H Q _ => ∃ (B : Hp) (A : Ma) (M : Mc) (R : List (Addr × HO)) (row : Nat) (place : Int), vs = [.ref A.b, .int row, .int place] ∧ MAt c B A M R H ∧ M.touches.length < 100000 ∧ row < M.starts.length ∧ 0 ≤ M.adr row place ∧ (M.adr row place).toNat < M.cells.length ∧
  ∀ B' A' H', Same B B' → A'.b = A.b → MAt c B' A' (M.touched "read" (M.adr row place)) R H' → Q (.int (M.cells.getD (M.adr row place).toNat 0)) H'
theorem ok_read {c : MCs} (d : zZ K c.bn "read_cell" "Bench.read_cell" yb ["self", "row", "place"]) (CN : NCls K c.bn) (TO : OkM P w K mg base CX0 1 c.bn "touch" ["self", "kind", "address"] (spTouch c)) : OkM P w K mg base CX0 2 c.bn "read_cell" ["self", "row", "place"] (spRead c) := by
  obtain ⟨f, fd, m, F, bd⟩ := d
  refine ⟨f, fd, m, bd, F.ok sc_Bench_read_cell (fun vs H Q E ⟨_, _, _, _, _, _, e, _⟩ => by rw [e]; rfl) fun cdv A outer s H vs Q E hr h => ?_⟩
  obtain ⟨B, A, M, R, row, place, rfl, m, hl, h0, h1, h2, k⟩ := h
  have nd := sc_Bench_read_cell.nd
  have hr1 := hr
  refine ⟨_, (zb (zt (i := 3) nd rfl (Or.inl rfl) (zi zv (zE zB (zp (pv 0) rfl) (pv 1) (fun _ _ => rfl)) (pv 2)))
      (zb (yo (yz TO CN.c hr1 zr (pv 0) (za yY (za (pv 3) zd))))
      (zh (zu (zE zB (zp (pv 0) rfl) (pv 3) (fun _ _ => rfl)))))), ?_⟩
  refine ⟨_, rfl, A.b, _, _, _, .ref A.aS, rfl, m.b, CN.c, CN.starts, rfl, _, rfl, A.aS, _, _, _, rfl, rfl, SqL.of (m.h.sm _ _ m.bb.starts), at_int row h0 rfl, _, rfl, _, _, rfl, rfl, ?_⟩
  refine ⟨_, rfl, A.b, _, _, rfl, m.b, rfl, _, rfl, B, A, M, R, "read", M.adr row place, rfl, m, hl, fun B1 A1 H1 s1 eb m1 => ?_⟩
  refine ⟨_, rfl, A1.b, _, _, _, .ref A1.aC, by rw [eb], m1.b, CN.c, CN.cells, rfl, _, rfl, A1.aC, _, _, _, rfl, rfl, m1.h.lst 1 rfl, at_int (M.adr row place).toNat h2 (show M.adr row place = _ by omega), ?_⟩
  exact k B1 A1 H1 s1 eb m1
def Mc.wrote (M : Mc) (row : Nat) (place n : Int) : Mc := { M.touched "write" (M.adr row place) with cells := M.cells.set (M.adr row place).toNat n }
def spWrite (c : MCs) : Sp := fun vs H Q _ => ∃ (B : Hp) (A : Ma) (M : Mc) (R : List (Addr × HO)) (row : Nat) (place n : Int), vs = [.ref A.b, .int row, .int place, .int n] ∧ MAt c B A M R H ∧ M.touches.length < 100000 ∧ row < M.starts.length ∧ 0 ≤ M.adr row place ∧ (M.adr row place).toNat < M.cells.length ∧
  ∀ B' A' H', Same B B' → A'.b = A.b → MAt c B' A' (M.wrote row place n) R H' → Q .non H'
theorem ok_write {c : MCs} (d : zZ K c.bn "write_cell" "Bench.write_cell" zS ["self", "row", "place", "number"]) (CN : NCls K c.bn) (TO : OkM P w K mg base CX0 1 c.bn "touch" ["self", "kind", "address"] (spTouch c)) : OkM P w K mg base CX0 2 c.bn "write_cell" ["self", "row", "place", "number"] (spWrite c) := by
  obtain ⟨f, fd, m, F, bd⟩ := d
  refine ⟨f, fd, m, bd, F.ok sc_Bench_write_cell (fun vs H Q E ⟨_, _, _, _, _, _, _, e, _⟩ => by rw [e]; rfl) fun cdv A outer s H vs Q E hr h => ?_⟩
  obtain ⟨B, A, M, R, row, place, n, rfl, m, hl, h0, h1, h2, k⟩ := h
  have nd := sc_Bench_write_cell.nd
  have hr1 := hr
  refine ⟨_, (zb (zt (i := 4) nd rfl (Or.inl rfl) (zi zv (zE zB (zp (pv 0) rfl) (pv 1) (fun _ _ => rfl)) (pv 2)))
      (zb (yo (yz TO CN.c hr1 zr (pv 0) (za yY (za (pv 4) zd))))
      (zh (ps_asg (pv 3) (pg_sub (zp (pv 0) rfl) (pv 4) set_list))))), ?_⟩
  refine ⟨_, rfl, A.b, _, _, _, .ref A.aS, rfl, m.b, CN.c, CN.starts, rfl, _, rfl, A.aS, _, _, _, rfl, rfl, SqL.of (m.h.sm _ _ m.bb.starts), at_int row h0 rfl, _, rfl, _, _, rfl, rfl, ?_⟩
  refine ⟨_, rfl, A.b, _, _, rfl, m.b, rfl, _, rfl, B, A, M, R, "write", M.adr row place, rfl, m, hl, fun B1 A1 H1 s1 eb m1 => ?_⟩
  refine ⟨_, rfl, _, rfl, A1.b, _, _, _, .ref A1.aC, by rw [eb], m1.b, CN.c, CN.cells, rfl, _, rfl, A1.aC, _, _, (M.adr row place).toNat, rfl, rfl, m1.h.get 1 rfl, ?_, ?_⟩
  · show ixN (M.cells.map V.int).length (M.adr row place) = _
    unfold ixN
    rw [if_pos h1, if_pos (by rw [List.length_map]; omega)]
  · have h := m1.h.put (o' := .lst ((M.cells.set (M.adr row place).toNat n).map V.int)) 1 rfl
    rw [List.map_set] at h
    refine k B1 A1 _ s1 eb ⟨⟨m1.bb.lens, m1.bb.starts, m1.bb.bx, m1.bb.msk, m1.bb.ml, m1.bb.dl, m1.bb.pl, m1.bb.tl, m1.bb.tt, m1.bb.ul, m1.bb.uu, m1.bb.rf⟩, ?_⟩
    show Hd B1 (objs c A1 (M.wrote row place n) R) _
    unfold objs
    rw [show ((M.wrote row place n).cells.map V.int) = (M.cells.map V.int).set (M.adr row place).toNat (.int n) from List.map_set ..]
    exact h
end
end K35
namespace K35
open PySem L2
theorem at_bl {bs : List Bool} {j : Int} (i : Nat) (h : i < bs.length) (e : j = i) : atI (bs.map V.bl) j = some (.bl (bs.getD i false)) := by
  subst e
  refine zM ?_
  rw [List.getElem?_map, List.getElem?_eq_getElem h, List.getD_eq_getElem?_getD, List.getElem?_eq_getElem h]; rfl
def Mc.isAct (M : Mc) (k j : Nat) : Bool := (M.masks.getD k []).getD j false && !(yl M.faults (.inl (j : Int))).isSome
def Mc.actTo (M : Mc) (k n : Nat) : List Int := ((List.range n).filter (M.isAct k)).map fun j : Nat => (j : Int)
def Mc.act (M : Mc) (k : Nat) : List Int := M.actTo k M.width.toNat
theorem Mc.actTo_succ (M : Mc) (k n : Nat) : M.actTo k (n + 1) = M.actTo k n ++ if M.isAct k n then [(n : Int)] else [] := by
  unfold Mc.actTo
  rw [List.range_succ, List.filter_append, List.map_append]
  congr 1
  by_cases z : M.isAct k n = true
  · rw [List.filter_cons_of_pos z, if_pos z]; rfl
  · rw [List.filter_cons_of_neg z, if_neg z]; rfl
theorem Mc.actTo_len (M : Mc) (k n : Nat) : (M.actTo k n).length ≤ n := by
  unfold Mc.actTo
  rw [List.length_map]
  have := List.length_filter_le (M.isAct k) (List.range n)
  rw [List.length_range] at this; exact this
theorem Mc.act_mem {M : Mc} {k : Nat} {j : Int} (h : j ∈ M.act k) : 0 ≤ j ∧ j.toNat < M.width.toNat ∧ M.isAct k j.toNat = true := by
  obtain ⟨i, hi, rfl⟩ := List.mem_map.mp h
  obtain ⟨a, b⟩ := List.mem_filter.mp hi
  have := List.mem_range.mp a
  exact ⟨by omega, by omega, b⟩
section
variable {P : Program} {w : World} {K : PySem.W.Frag} {mg : Str → Option Value} {base : Heap}
def spAct (c : MCs) : Sp := fun vs H Q _ => ∃ (B : Hp) (A : Ma) (M : Mc) (R : List (Addr × HO)) (k : Nat), vs = [.ref A.b, .int k] ∧ MAt c B A M R H ∧ k < M.masks.length ∧ 0 ≤ M.width ∧ M.width.toNat ≤ (M.masks.getD k []).length ∧ M.width.toNat ≤ 1000 ∧
  ∀ B' H' l, Same B B' → MAt c B' A M R H' → B' l = some (.lst ((M.act k).map V.int)) → Q (.ref l) H'
theorem ok_act {c : MCs} (d : zZ K c.bn "active_under" "Bench.active_under" zN ["self", "mask"]) (hrg : mg "range" = none) (CN : NCls K c.bn) : OkM P w K mg base CX0 1 c.bn "active_under" ["self", "mask"] (spAct c) := by
  obtain ⟨f, fd, m, F, bd⟩ := d
  refine ⟨f, fd, m, bd, F.ok sc_Bench_active_under (fun vs H Q E ⟨_, _, _, _, _, e, _⟩ => by rw [e]; rfl) fun cdv A outer s H vs Q E hr h => ?_⟩
  obtain ⟨B, A, M, R, k, rfl, m, hk, w0, w1, w2, q⟩ := h
  have nd := sc_Bench_active_under.nd
  have hu := Nat.lt_of_le_of_lt (Nat.add_le_add_left (show 1 ≤ 64 by decide) _) hr.units
  obtain ⟨x, ex, hx⟩ := m.mask hk
  have SL : (3000 : Nat) < sizeLine := by decide
  refine ⟨_, (zb (zt (i := 2) nd rfl (Or.inr rfl) (zE zB (zp (pv 0) rfl) (pv 1) (fun _ _ => rfl)))
      (zh (zu (pe_compF ["lane", "truths", "self"] [none, some 2, some 0] rfl rfl rfl (yk rfl hrg (za (zp (pv 0) rfl) zd)) (fun s3 H3 fp => ⟨zI (i := 0) (show ((["lane", "truths", "self"] : List Str)).Nodup by decide +kernel) rfl (Or.inl rfl), (PW.pt (pw_and (yA (zE (ix_listK (K := K) rfl) (pv 1) (pv 0) (fun _ _ => rfl))) (xg (pt_cmp (pc_dnotin hu (pv 0) (pe_fldK (K := K) rfl (pv 2) rfl)) rfl)))), (pv 0)⟩))))), ?_⟩
  refine ⟨_, rfl, A.b, _, _, _, .ref A.aM, rfl, m.b, CN.c, CN.masks, rfl, _, rfl, A.aM, _, _, .ref x, rfl, rfl, SqL.of (m.h.sm _ _ m.bb.msk), zM (by rw [List.getElem?_map, ex]; rfl), ?_⟩
  refine ⟨_, rfl, A.b, _, _, _, .int M.width, rfl, m.b, CN.c, CN.width, rfl, _, rfl, (by show -(2 ^ 62) ≤ M.width; omega), (by show M.width < 2 ^ 62; omega), _, rfl, fun D nD => ?_⟩
  have h0 : Hd H [(D, .lst ((M.actTo k 0).map V.int))] (upd H D (.lst [])) := Hd.base.new nD
  generalize upd H D (.lst []) = H1 at h0 ⊢
  refine compF_range (n := M.width.toNat) (fun i σ J => ∃ u, σ = [u, some (.ref x), some (.ref A.b)] ∧ Hd H [(D, .lst ((M.actTo k i).map V.int))] J) ⟨none, rfl, h0⟩ ?_ ?_
  · clear h0
    rintro i σ J hi ⟨u, rfl, h⟩
    have la := M.actTo_len k i
    rw [M.actTo_succ k i]
    have fin : M.isAct k i = false → ∃ u, [some (V.int (0 + (i : Int))), some (.ref x), some (.ref A.b)] = [u, some (.ref x), some (.ref A.b)] ∧ Hd H [(D, .lst ((M.actTo k i ++ if M.isAct k i = true then [(i : Int)] else []).map V.int))] J := fun e => ⟨_, rfl, by rw [e, if_neg (by decide), List.append_nil]; exact h⟩
    refine ⟨_, rfl, _, rfl, x, _, _, _, rfl, rfl, SqL.of (h.sm _ _ hx), at_bl i (by omega) (by omega), _, rfl, ?_⟩
    refine ite2 (fun z1 => ?_) (fun z1 => yn (fin (by unfold Mc.isAct; rw [Bool.eq_false_iff.mpr z1, Bool.false_and])))
    refine ⟨_, rfl, _, rfl, A.b, _, _, _, .ref A.aF, rfl, h.sm _ _ m.b, CN.c, CN.faults, rfl, A.aF, _, rfl, DGet.k (k := .inl (0 + (i : Int))) (h.sm _ _ (m.h.get 7 rfl)), _, rfl, ?_⟩
    rw [Int.zero_add] at *
    refine ite2 (fun z2 => ?_) (fun z2 => fin (by unfold Mc.isAct; rw [z1, Bool.eq_false_iff.mpr z2]; rfl))
    refine ⟨_, rfl, _, h.get 0 rfl, (by rw [List.length_map]; omega), _, rfl, ?_⟩
    have e : M.isAct k i = true := by unfold Mc.isAct; rw [z1, z2]; rfl
    rw [e, if_pos rfl, List.map_append]
    exact h.put 0 rfl
  · rintro σ J ⟨u, rfl, h⟩
    exact q _ J D (zg (Same.refl _) (m.h.free (h.nw _ (List.mem_singleton.mpr rfl)))) (m.adopt h) zf
def Mc.numAt (M : Mc) (p : Nat) (j : Int) : Int := M.nums.getD ((p : Int) * M.group * M.lanes + j).toNat 0
structure MOk (M : Mc) : Prop where
  l1 : 1 ≤ M.lanes
  l64 : M.lanes ≤ 64
  g : M.group = 1 ∨ M.group = 2 ∨ M.group = 4
  nl : M.nums.length = 8 * M.lanes
  ml : M.masks.length = 16
  mm : ∀ m ∈ M.masks, m.length = 4 * M.lanes
  w0 : 0 ≤ M.width
  w1 : M.width ≤ M.group * M.lanes
def spNums (c : MCs) (K : PySem.W.Frag) : Sp := fun vs H Q _ => ∃ (B : Hp) (A : Ma) (M : Mc) (R : List (Addr × HO)) (p : Nat) (aa : Addr) (js : List Int), vs = [.ref A.b, .int p, .ref aa] ∧ MAt c B A M R H ∧ MOk M ∧ ((p : Int) + 1) * M.group ≤ 8 ∧ B aa = some (.lst (js.map V.int)) ∧ (∀ j ∈ js, 0 ≤ j ∧ j < M.group * M.lanes) ∧ js.length ≤ 1000 ∧
  ∀ B' H' l, Same B B' → MAt c B' A M R H' → B' l = some (.lst ((js.map (M.numAt p)).map V.int)) → Q (.ref l) H'
theorem seat_in {g L p j : Int} (hg : g = 1 ∨ g = 2 ∨ g = 4) (h1 : 1 ≤ L) (hp : 0 ≤ p) (h8 : (p + 1) * g ≤ 8) (j0 : 0 ≤ j) (j1 : j < g * L) : 0 ≤ p * g * L + j ∧ p * g * L + j < 8 * L := by
  have e : (p + 1) * g * L ≤ 8 * L := Int.mul_le_mul_of_nonneg_right h8 (by omega)
  have e2 : (p + 1) * g * L = p * g * L + g * L := by rw [Int.add_mul, Int.add_mul, Int.one_mul]
  have e3 : 0 ≤ p * g * L := Int.mul_nonneg (Int.mul_nonneg hp (by omega)) (by omega)
  omega
theorem ok_nums {c : MCs} (d : zZ K c.bn "numbers_in" "Bench.numbers_in" zV ["self", "seat", "active"]) (CC : MCls K c) (NA : OkM P w K mg base CX0 2 c.bx "number_at" ["self", "group", "seat", "lane"] (spNum c.bx)) : OkM P w K mg base CX0 3 c.bn "numbers_in" ["self", "seat", "active"] (spNums c K) := by
  obtain ⟨f, fd, m, F, bd⟩ := d
  refine ⟨f, fd, m, bd, F.ok sc_Bench_numbers_in (fun vs H Q E ⟨_, _, _, _, _, _, _, e, _⟩ => by rw [e]; rfl) fun cdv A outer s H vs Q E hr h => ?_⟩
  obtain ⟨B, A, M, R, p, aa, js, rfl, m, ok, h8, ea, hj, hl, q⟩ := h
  have nd := sc_Bench_numbers_in.nd
  have hr2 := hr
  have CN := CC.n
  have SL : (3000 : Nat) < sizeLine := by decide
  have l1 := ok.l1
  have l64 := ok.l64
  have hg := ok.g
  refine ⟨_, (zh (zu (y3 ["lane", "seat", "self"] [none, some 1, some 0] rfl rfl rfl (pi_list (pv 2)) (fun s3 H3 fp => ⟨zI (i := 0) (show ((["lane", "seat", "self"] : List Str)).Nodup by decide +kernel) rfl (Or.inl rfl), (yz NA CC.b.c hr2 zr (pe_fldK (K := K) rfl (pv 2) rfl) (za (pe_fldK (K := K) rfl (pv 2) rfl) (za (pv 1) (za (pv 0) zd))))⟩)))), ?_⟩
  refine ⟨_, rfl, aa, rfl, ⟨_, SqL.of (m.h.sm _ _ ea)⟩, _, rfl, fun D nD => ?_⟩
  have h0 : Hd H [(D, .lst (((js.take 0).map (M.numAt p)).map V.int))] (upd H D (.lst [])) := Hd.base.new nD
  generalize upd H D (.lst []) = H1 at h0 ⊢
  refine comp_list (K := K) (a := aa) (D := D) (xs := js.map V.int) (fun i σ J => ∃ u, σ = [u, some (.int (p : Int)), some (.ref A.b)] ∧ Hd H [(D, .lst (((js.take i).map (M.numAt p)).map V.int))] J) ⟨none, rfl, h0⟩ (fun i σ J _ ⟨_, _, h⟩ => SqL.of (h.sm _ _ (m.h.sm _ _ ea))) ?_ ?_
  · clear h0
    rintro i y σ J hy ⟨u, rfl, h⟩
    obtain ⟨hlt, rfl⟩ := map_int_at hy
    have mj := L2.getD_mem hlt
    have e9 : js[i]? = some (js.getD i 0) := by rw [List.getD_eq_getElem?_getD, List.getElem?_eq_getElem hlt]; rfl
    generalize js.getD i 0 = j at mj e9
    obtain ⟨j0, j1⟩ := hj j mj
    obtain ⟨s0, s1⟩ := seat_in hg (show (1 : Int) ≤ M.lanes by omega) (show (0 : Int) ≤ p by omega) h8 j0 j1
    refine ⟨_, rfl, A.b, _, _, _, .ref A.bx, rfl, h.sm _ _ m.b, CN.c, CN.boxes, rfl, A.bx, _, _, rfl, h.sm _ _ (m.h.sm _ _ m.bb.bx), rfl, _, rfl, A.b, _, _, _, .int M.group, rfl, h.sm _ _ m.b, CN.c, CN.group, rfl, _, rfl, _, rfl, A.bx, A.dbx, A.aN, M.lanes, M.group, p, j, M.nums, rfl, h.sm _ _ (m.h.sm _ _ m.bb.bx), h.sm _ _ (m.h.get 2 rfl), by omega, by omega, by omega, by omega, s0, by rw [ok.nl]; omega, ?_⟩
    refine ⟨_, h.get 0 rfl, (by rw [List.length_map, List.length_map, List.length_take]; omega), _, rfl, ?_⟩
    have h3 := h.put (o' := .lst (((js.take (i + 1)).map (M.numAt p)).map V.int)) 0 rfl
    have e : (((js.take (i + 1)).map (M.numAt p)).map V.int) = (((js.take i).map (M.numAt p)).map V.int) ++ [V.int (M.numAt p j)] := by
      rw [List.take_add_one, e9, List.map_append, List.map_append]; rfl
    rw [e] at h3 ⊢
    exact h3
  · rintro σ J ⟨u, rfl, h⟩
    rw [List.length_map, List.take_length] at h
    exact q _ J D (zg (Same.refl _) (m.h.free (h.nw _ (List.mem_singleton.mpr rfl)))) (m.adopt h) zf
end
end K35
namespace K35
open PySem L2
section
variable {c : MCs} {B : Hp} {A : Ma} {M : Mc} {R : List (Addr × HO)} {H H' : Hp}
theorem mskO_len (m : MAt c B A M R H) : (mskO A M).length = A.ms.length := by
  unfold mskO; rw [List.length_map, List.length_zip, m.bb.ml]; omega
theorem MAt.putMask (m : MAt c B A M R H) {k : Nat} {x : Addr} (ex : A.ms[k]? = some x) (hk : k < M.masks.length) (b : List Bool) : MAt c B A { M with masks := M.masks.set k b } R (upd H x (.lst (b.map V.bl))) := by
  have lm := mskO_len m
  have ml := m.bb.ml
  have lk : k < A.ms.length := (List.getElem?_eq_some_iff.mp ex).1
  have e0 : (A.ms.zip M.masks)[k]? = some (x, M.masks[k]) := by rw [List.getElem?_zip_eq_some]; exact ⟨ex, by rw [List.getElem?_eq_getElem hk]⟩
  have e : (objs c A M R)[9 + k]? = some (x, .lst ((M.masks[k]).map V.bl)) := by
    unfold objs
    rw [show 9 + k = k + 1 + 1 + 1 + 1 + 1 + 1 + 1 + 1 + 1 by omega]
    simp only [List.getElem?_cons_succ]
    rw [List.getElem?_append_left (by omega)]
    unfold mskO
    rw [List.getElem?_map, e0]; rfl
  have h := m.h.put (o' := .lst (b.map V.bl)) _ e
  refine ⟨⟨m.bb.lens, m.bb.starts, m.bb.bx, m.bb.msk, by show A.ms.length = (M.masks.set k b).length; rw [List.length_set, ml], m.bb.dl, m.bb.pl, m.bb.tl, m.bb.tt, m.bb.ul, m.bb.uu, m.bb.rf⟩, ?_⟩
  have es : (objs c A M R).set (9 + k) (x, .lst (b.map V.bl)) = objs c A { M with masks := M.masks.set k b } R := by
    unfold objs
    rw [show 9 + k = k + 1 + 1 + 1 + 1 + 1 + 1 + 1 + 1 + 1 by omega]
    simp only [List.set_cons_succ]
    rw [List.set_append_left _ _ (by omega)]
    have : (mskO A M).set k (x, .lst (b.map V.bl)) = mskO A { M with masks := M.masks.set k b } := by
      unfold mskO
      show ((A.ms.zip M.masks).map _).set k _ = (A.ms.zip (M.masks.set k b)).map _
      have ez : A.ms.zip (M.masks.set k b) = (A.ms.zip M.masks).set k (x, b) := by
        apply List.ext_getElem?
        intro j
        rw [List.getElem?_set]
        split
        · rename_i e
          subst e
          rw [if_pos (by rw [List.length_zip]; omega), List.getElem?_zip_eq_some]
          exact ⟨ex, by rw [List.getElem?_set_self hk]⟩
        · rename_i ne
          cases hz : (A.ms.zip M.masks)[j]? with
          | none =>
            rw [List.getElem?_eq_none_iff] at hz ⊢
            rw [List.length_zip] at hz ⊢
            rw [List.length_set]; exact hz
          | some q =>
            rw [List.getElem?_zip_eq_some] at hz ⊢
            exact ⟨hz.1, by rw [List.getElem?_set_ne ne]; exact hz.2⟩
      rw [ez, List.map_set]
    rw [this]
    rfl
  rw [es] at h
  exact h
theorem MAt.mask' (m : MAt c B A M R H) {k : Nat} {x : Addr} (ex : A.ms[k]? = some x) (hk : k < M.masks.length) : H x = some (.lst ((M.masks.getD k []).map V.bl)) := by
  obtain ⟨y, ey, hy⟩ := m.mask hk
  rw [ex] at ey; cases ey; exact hy
theorem MAt.took (m : MAt c B A M R H) (k : ∀ b o, b ≠ A.fd → H b = some o → H' b = some o) (e : H' A.fd = some (zD c.fe A.dfd A.aD (fAt M.dust (M.dq + 1)))) : MAt c B A { M with dq := M.dq + 1 } R H' :=
  ⟨⟨m.bb.lens, m.bb.starts, m.bb.bx, m.bb.msk, m.bb.ml, m.bb.dl, m.bb.pl, m.bb.tl, m.bb.tt, m.bb.ul, m.bb.uu, m.bb.rf⟩, m.h.chg 4 rfl k e⟩
end
def clr (m : List Bool) (n : Nat) : List Bool := (List.range n).foldl (fun m j => m.set j false) m
def sel (m : List Bool) (js : List Int) : List Bool := js.foldl (fun m j => m.set j.toNat true) m
def dst (d : List Int) (q : Nat) (m : List Bool) (lo k : Nat) : List Bool := (List.range k).foldl (fun m t => m.set (lo + t) (decide (fVal d (q + t) % 2 = 1))) m
theorem clr_len (m : List Bool) : ∀ n, (clr m n).length = m.length
  | 0 => rfl
  | n + 1 => by unfold clr; rw [List.range_succ, List.foldl_append]; show (List.set _ _ _).length = _; rw [List.length_set]; exact clr_len m n
theorem sel_len : ∀ (js : List Int) (m : List Bool), (sel m js).length = m.length
  | [], _ => rfl
  | j :: js, m => by show (sel (m.set j.toNat true) js).length = _; rw [sel_len js, List.length_set]
theorem dst_len (d : List Int) (q : Nat) (m : List Bool) (lo : Nat) : ∀ k, (dst d q m lo k).length = m.length
  | 0 => rfl
  | n + 1 => by unfold dst; rw [List.range_succ, List.foldl_append]; show (List.set _ _ _).length = _; rw [List.length_set]; exact dst_len d q m lo n
theorem clr_succ (m : List Bool) (n : Nat) : clr m (n + 1) = (clr m n).set n false := by unfold clr; rw [List.range_succ, List.foldl_append]; rfl
theorem dst_succ (d : List Int) (q : Nat) (m : List Bool) (lo n : Nat) : dst d q m lo (n + 1) = (dst d q m lo n).set (lo + n) (decide (fVal d (q + n) % 2 = 1)) := by unfold dst; rw [List.range_succ, List.foldl_append]; rfl
theorem sel_snoc (m : List Bool) (js : List Int) (j : Int) : sel m (js ++ [j]) = (sel m js).set j.toNat true := by unfold sel; rw [List.foldl_append]; rfl
def Mc.room (M : Mc) : Nat := (M.group * M.lanes).toNat
def Mc.maskOf (M : Mc) (k : Nat) (js : List Int) : List Bool := dst M.dust M.dq (sel (clr (M.masks.getD k []) M.width.toNat) js) M.width.toNat (M.room - M.width.toNat)
def Mc.laidMask (M : Mc) (k : Nat) (js : List Int) : Mc := { M with masks := M.masks.set k (M.maskOf k js), dq := M.dq + (M.room - M.width.toNat) }
section
variable {P : Program} {w : World} {K : PySem.W.Frag} {mg : Str → Option Value} {base : Heap}
def spMask (c : MCs) (K : PySem.W.Frag) : Sp := fun vs H Q _ => ∃ (B : Hp) (A : Ma) (M : Mc) (R : List (Addr × HO)) (k : Nat) (aa : Addr) (js : List Int), vs = [.ref A.b, .int k, .ref aa] ∧ MAt c B A M R H ∧ MOk M ∧ k < 16 ∧ B aa = some (.lst (js.map V.int)) ∧ (∀ j ∈ js, 0 ≤ j ∧ j < M.group * M.lanes) ∧
  ∀ H', MAt c B A (M.laidMask k js) R H' → Q .non H'
theorem ok_mask {c : MCs} (d : zZ K c.bn "lay_mask" "Bench.lay_mask" yj ["self", "mask", "chosen"]) (hrg : mg "range" = none) (CC : MCls K c) (TK : OkM P w K mg base CX0 1 c.fe "taken" ["self"] (spTaken c.fe)) : OkM P w K mg base CX0 2 c.bn "lay_mask" ["self", "mask", "chosen"] (spMask c K) := by
  obtain ⟨f, fd, m, F, bd⟩ := d
  refine ⟨f, fd, m, bd, F.ok sc_Bench_lay_mask (fun vs H Q E ⟨_, _, _, _, _, _, _, e, _⟩ => by rw [e]; rfl) fun cdv A outer s H vs Q E hr h => ?_⟩
  obtain ⟨B, A, M, R, k, aa, js, rfl, m, ok, hk, ea, hj, q⟩ := h
  have nd := sc_Bench_lay_mask.nd
  have hr1 := hr
  have CN := CC.n
  have ml := ok.ml
  have hk' : k < M.masks.length := by omega
  have l1 := ok.l1
  have l64 := ok.l64
  have hg := ok.g
  have w0 := ok.w0
  have w1 := ok.w1
  have rb : M.group * M.lanes ≤ 4 * M.lanes ∧ 1 ≤ M.group * M.lanes := by rcases hg with e | e | e <;> rw [e] <;> omega
  have lm : (M.masks.getD k []).length = 4 * M.lanes := by
    rw [List.getD_eq_getElem?_getD, List.getElem?_eq_getElem hk']; exact ok.mm _ (List.getElem_mem hk')
  obtain ⟨x, ex, hx⟩ := m.mask hk'
  refine ⟨_, (zb (zt (i := 3) nd rfl (Or.inl rfl) (zE zB (zp (pv 0) rfl) (pv 1) (fun _ _ => rfl)))
      (zb (ps_for PassesOwn.never rfl (yk rfl hrg (za (zp (pv 0) rfl) zd)) (zI (i := 4) nd rfl (Or.inl rfl)) (zh (ps_asg pe_bl (pg_sub (pv 3) (pv 4) set_list))))
      (zb (ps_for PassesOwn.never rfl (pi_list (pv 2)) (zI (i := 4) nd rfl (Or.inl rfl)) (zh (ps_asg pe_bl (pg_sub (pv 3) (pv 4) set_list))))
      (zh (ps_for PassesOwn.never rfl (pi_range2 rfl hrg (za (zp (pv 0) rfl) (za (zi zY (zp (pv 0) rfl) (zp (pv 0) rfl)) zd))) (zI (i := 4) nd rfl (Or.inl rfl)) (zh (ps_asg (xh op_eq (zi yB (pe_okM0 TK CC.f.c hr1 zr (zp (pv 0) rfl)) zc) zc (zW _)) (pg_sub (pv 3) (pv 4) set_list)))))))), ?_⟩
  refine ⟨_, rfl, A.b, _, _, _, .ref A.aM, rfl, m.b, CN.c, CN.masks, rfl, _, rfl, A.aM, _, _, .ref x, rfl, rfl, SqL.of (m.h.sm _ _ m.bb.msk), zM (by rw [List.getElem?_map, ex]; rfl), ?_⟩
  have set_one : ∀ {n : Nat} {bs : List Bool} {i : Int}, i = (n : Int) → n < bs.length → ixN (bs.map V.bl).length i = some n := fun {n bs i} e h => by
    subst e; unfold ixN; rw [if_pos (by omega), if_pos (by rw [List.length_map]; omega)]; congr 1
  have st : ∀ (b : List Bool), ({ M with masks := M.masks.set k b } : Mc).masks.getD k [] = b := fun b => by
    show (M.masks.set k b).getD k [] = b
    rw [List.getD_eq_getElem?_getD, List.getElem?_set_self hk']; rfl
  have ss : ∀ (b b' : List Bool), ({ ({ M with masks := M.masks.set k b } : Mc) with masks := (M.masks.set k b).set k b' } : Mc) = { M with masks := M.masks.set k b' } := fun b b' => by rw [List.set_set]
  refine ⟨_, rfl, A.b, _, _, _, .int M.width, rfl, m.b, CN.c, CN.width, rfl, _, rfl, (by show -(2 ^ 62) ≤ M.width; omega), (by show M.width < 2 ^ 62; omega), ?_⟩
  have m0 : MAt c B A { M with masks := M.masks.set k (clr (M.masks.getD k []) 0) } R H := by
    have e : M.masks.set k (clr (M.masks.getD k []) 0) = M.masks := by
      show M.masks.set k (M.masks.getD k []) = M.masks
      rw [List.getD_eq_getElem?_getD, List.getElem?_eq_getElem hk']
      exact List.set_getElem_self hk'
    rw [e]; exact m
  show ∃ W : Nat → Nat → St → Hp → Prop, _
  refine xo (n := M.width.toNat) (fun i σ J => ∃ u, σ = [some (.ref A.b), some (.int (k : Int)), some (.ref aa), some (.ref x), u] ∧ MAt c B A { M with masks := M.masks.set k (clr (M.masks.getD k []) i) } R J) ⟨none, rfl, m0⟩ ?_ ?_
  · rintro i σ J hi ⟨u, rfl, m1⟩
    have hx1 := m1.mask' ex (by show k < (M.masks.set k _).length; rw [List.length_set]; exact hk')
    rw [st] at hx1
    refine ⟨_, rfl, _, rfl, x, _, _, i, rfl, rfl, hx1, set_one (by omega) (by rw [clr_len, lm]; omega), _, rfl, ?_⟩
    have m2 := m1.putMask ex (by show k < (M.masks.set k _).length; rw [List.length_set]; exact hk') (clr (M.masks.getD k []) (i + 1))
    rw [ss] at m2
    have e : ((clr (M.masks.getD k []) (i + 1)).map V.bl) = ((clr (M.masks.getD k []) i).map V.bl).set i (.bl false) := by rw [clr_succ, List.map_set]
    rw [e] at m2
    exact m2
  clear m0 hx
  rintro σ J ⟨u, rfl, m1⟩
  refine ⟨_, rfl, aa, rfl, ⟨_, SqL.of (m1.h.sm _ _ ea)⟩, ?_⟩
  refine for_list (K := K) (a := aa) (xs := js.map V.int) (fun i σ J => ∃ u, σ = [some (.ref A.b), some (.int (k : Int)), some (.ref aa), some (.ref x), u] ∧ MAt c B A { M with masks := M.masks.set k (sel (clr (M.masks.getD k []) M.width.toNat) (js.take i)) } R J) ⟨u, rfl, m1⟩ (fun i σ J _ ⟨_, _, m⟩ => SqL.of (m.h.sm _ _ ea)) ?_ ?_
  · rintro i y σ J hy ⟨u, rfl, m1⟩
    obtain ⟨hlt, rfl⟩ := map_int_at hy
    have mj := L2.getD_mem hlt
    have e9 : js[i]? = some (js.getD i 0) := by rw [List.getD_eq_getElem?_getD, List.getElem?_eq_getElem hlt]; rfl
    generalize js.getD i 0 = j at mj e9
    obtain ⟨j0, j1⟩ := hj j mj
    have hx1 := m1.mask' ex (by show k < (M.masks.set k _).length; rw [List.length_set]; exact hk')
    rw [st] at hx1
    refine ⟨_, rfl, _, rfl, x, _, _, j.toNat, rfl, rfl, hx1, set_one (by omega) (by rw [sel_len, clr_len, lm]; omega), _, rfl, ?_⟩
    have m2 := m1.putMask ex (by show k < (M.masks.set k _).length; rw [List.length_set]; exact hk') (sel (clr (M.masks.getD k []) M.width.toNat) (js.take (i + 1)))
    rw [ss] at m2
    have e : ((sel (clr (M.masks.getD k []) M.width.toNat) (js.take (i + 1))).map V.bl) = ((sel (clr (M.masks.getD k []) M.width.toNat) (js.take i)).map V.bl).set j.toNat (.bl true) := by
      rw [List.take_add_one, e9]
      show ((sel _ (js.take i ++ [j])).map V.bl) = _
      rw [sel_snoc, List.map_set]
    rw [e] at m2
    exact m2
  rintro σ J1 ⟨u, rfl, m1⟩
  rw [List.length_map, List.take_length] at m1
  generalize hb : sel (clr (M.masks.getD k []) M.width.toNat) js = b1 at m1
  have lb1 : b1.length = 4 * M.lanes := by rw [← hb, sel_len, clr_len, lm]
  obtain ⟨wn, ew⟩ : ∃ n : Nat, M.width = n := ⟨M.width.toNat, by omega⟩
  obtain ⟨rn, er⟩ : ∃ n : Nat, M.group * M.lanes = n := ⟨(M.group * M.lanes).toNat, by omega⟩
  refine ⟨_, rfl, A.b, _, _, _, .int M.width, rfl, m1.b, CN.c, CN.width, rfl, _, rfl, A.b, _, _, _, .int M.group, rfl, m1.b, CN.c, CN.group, rfl, _, rfl, A.b, _, _, _, .int M.lanes, rfl, m1.b, CN.c, CN.lanes, rfl, _, _, rfl, rfl, .inl ⟨by omega, by omega⟩, _, _, rfl, ?_⟩
  refine ⟨⟨by omega, by omega, by show -(2 ^ 62) ≤ M.group * M.lanes; omega, by show M.group * M.lanes < 2 ^ 62; omega⟩, ?_⟩
  have en : (M.group * M.lanes - M.width).toNat = M.room - M.width.toNat := by unfold Mc.room; omega
  show ∃ W : Nat → Nat → St → Hp → Prop, _
  refine xo (lo := M.width) (n := (M.group * M.lanes - M.width).toNat) (fun i σ J => ∃ u, σ = [some (.ref A.b), some (.int (k : Int)), some (.ref aa), some (.ref x), u] ∧ MAt c B A { M with masks := M.masks.set k (dst M.dust M.dq b1 M.width.toNat i), dq := M.dq + i } R J) ⟨u, rfl, m1⟩ ?_ ?_
  · rintro i σ J hi ⟨u, rfl, m2⟩
    refine ⟨_, rfl, A.b, _, _, _, .ref A.fd, rfl, m2.b, CN.c, CN.dust, rfl, A.fd, _, _, rfl, m2.h.get 4 rfl, rfl, A.fd, A.dfd, A.aD, M.dust, M.dq + i, rfl, m2.h.get 4 rfl, m2.h.sm _ _ m2.bb.dl, fun J3 k3 e3 => ?_⟩
    have m3 := m2.took k3 e3
    refine ⟨_, _, rfl, rfl, (by show (0 : Int) < 2; decide), rfl, _, rfl, _, rfl, ?_⟩
    have hx1 := m3.mask' ex (by show k < (M.masks.set k _).length; rw [List.length_set]; exact hk')
    have e0 : (M.masks.set k (dst M.dust M.dq b1 M.width.toNat i)).getD k [] = dst M.dust M.dq b1 M.width.toNat i := by rw [List.getD_eq_getElem?_getD, List.getElem?_set_self hk']; rfl
    have hx1 : J3 x = some (.lst ((dst M.dust M.dq b1 M.width.toNat i).map V.bl)) := by rw [← e0]; exact hx1
    refine ⟨x, _, _, M.width.toNat + i, rfl, rfl, hx1, set_one (by omega) (by rw [dst_len, lb1]; omega), _, rfl, ?_⟩
    have m4 := m3.putMask ex (by show k < (M.masks.set k _).length; rw [List.length_set]; exact hk') (dst M.dust M.dq b1 M.width.toNat (i + 1))
    have e : ((dst M.dust M.dq b1 M.width.toNat (i + 1)).map V.bl) = ((dst M.dust M.dq b1 M.width.toNat i).map V.bl).set (M.width.toNat + i) (.bl (decide (V.int (fVal M.dust (M.dq + i) % 2) = V.int 1))) := by
      rw [dst_succ, List.map_set]
      congr 2
      by_cases z : fVal M.dust (M.dq + i) % 2 = 1
      · rw [z]; rfl
      · rw [decide_eq_false z, decide_eq_false (fun q => z (V.int.inj q))]
    rw [e] at m4
    have e2 : ({ ({ ({ M with masks := M.masks.set k (dst M.dust M.dq b1 M.width.toNat i), dq := M.dq + i } : Mc) with dq := M.dq + i + 1 } : Mc) with masks := (M.masks.set k (dst M.dust M.dq b1 M.width.toNat i)).set k (dst M.dust M.dq b1 M.width.toNat (i + 1)) } : Mc) = { M with masks := M.masks.set k (dst M.dust M.dq b1 M.width.toNat (i + 1)), dq := M.dq + (i + 1) } := by rw [List.set_set]; rfl
    have m4 : MAt c B A { M with masks := M.masks.set k (dst M.dust M.dq b1 M.width.toNat (i + 1)), dq := M.dq + (i + 1) } R _ := e2 ▸ m4
    exact m4
  · rintro σ J2 ⟨u, rfl, m2⟩
    refine q J2 ?_
    rw [en] at m2
    unfold Mc.laidMask Mc.maskOf
    rw [hb]
    exact m2
def Mc.layOne (told : List (Key × V)) (p : Nat) (M : Mc) (t : Nat) : Mc := match yl told (.inl (t : Int)) with
  | some (.int n) => { M with nums := M.nums.set ((p : Int) * M.group * M.lanes + t).toNat n }
  | _ => { M with nums := M.nums.set ((p : Int) * M.group * M.lanes + t).toNat (fVal M.dust M.dq), dq := M.dq + 1 }
def Mc.layTo (told : List (Key × V)) (p : Nat) (M : Mc) (n : Nat) : Mc := (List.range n).foldl (fun M t => M.layOne told p t) M
def Mc.laidSeat (M : Mc) (told : List (Key × V)) (p : Nat) : Mc := M.layTo told p M.room
theorem Mc.layTo_succ (told : List (Key × V)) (p : Nat) (M : Mc) (n : Nat) : M.layTo told p (n + 1) = (M.layTo told p n).layOne told p n := by unfold Mc.layTo; rw [List.range_succ, List.foldl_append]; rfl
structure SeatSame (M N : Mc) : Prop where
  g : N.group = M.group
  l : N.lanes = M.lanes
  n : N.nums.length = M.nums.length
  d : N.dust = M.dust
theorem Mc.layOne_same (told : List (Key × V)) (p : Nat) (M : Mc) (t : Nat) : SeatSame M (M.layOne told p t) := by
  unfold Mc.layOne
  split
  · exact ⟨rfl, rfl, List.length_set .., rfl⟩
  · exact ⟨rfl, rfl, List.length_set .., rfl⟩
theorem Mc.layTo_same (told : List (Key × V)) (p : Nat) (M : Mc) : ∀ n, SeatSame M (M.layTo told p n)
  | 0 => ⟨rfl, rfl, rfl, rfl⟩
  | n + 1 => by
    have a := Mc.layTo_same told p M n
    have b := Mc.layOne_same told p (M.layTo told p n) n
    rw [M.layTo_succ]
    exact ⟨b.g.trans a.g, b.l.trans a.l, b.n.trans a.n, b.d.trans a.d⟩
end
end K35
namespace K35
open PySem L2
section
variable {c : MCs} {B : Hp} {A : Ma} {M : Mc} {R : List (Addr × HO)} {H H' : Hp}
theorem MAt.putNums (m : MAt c B A M R H) (ns : List Int) : MAt c B A { M with nums := ns } R (upd H A.aN (.lst (ns.map V.int))) :=
  ⟨⟨m.bb.lens, m.bb.starts, m.bb.bx, m.bb.msk, m.bb.ml, m.bb.dl, m.bb.pl, m.bb.tl, m.bb.tt, m.bb.ul, m.bb.uu, m.bb.rf⟩, m.h.put (o' := .lst (ns.map V.int)) 2 rfl⟩
end
def yX (js : List Int) (vs : List (Option Int)) : List (Key × V) := putAll [] ((js.map Sum.inl).zip (vs.map oV))
theorem putAll_val : ∀ (ps : List (Key × V)) (kvs : List (Key × V)) (P : V → Prop), (∀ p ∈ ps, P p.2) → (∀ k v, yl kvs k = some v → P v) → ∀ k v, yl (putAll kvs ps) k = some v → P v
  | [], _, _, _, h, k, v, e => h k v e
  | p :: ps, kvs, P, hp, h, k, v, e => by
    refine putAll_val ps (putK kvs p.1 p.2) P (fun q hq => hp q (List.mem_cons_of_mem _ hq)) (fun k' v' e' => ?_) k v e
    rw [valV_put] at e'
    split at e'
    · cases e'; exact hp p List.mem_cons_self
    · exact h k' v' e'
theorem told_val {js : List Int} {vs : List (Option Int)} {k : Key} {v : V} (e : yl (yX js vs) k = some v) : v = .non ∨ ∃ n, v = .int n := by
  refine putAll_val _ [] (fun v => v = .non ∨ ∃ n, v = .int n) (fun p hp => ?_) (fun k v e => by cases e) k v e
  obtain ⟨o, _, eo⟩ := List.mem_map.mp (List.of_mem_zip hp).2
  cases o with
  | none => exact .inl eo.symm
  | some n => exact .inr ⟨n, eo.symm⟩
section
variable {P : Program} {w : World} {K : PySem.W.Frag} {mg : Str → Option Value} {base : Heap}
def spSeat (c : MCs) (K : PySem.W.Frag) : Sp := fun vs H Q _ => ∃ (B : Hp) (A : Ma) (M : Mc) (R : List (Addr × HO)) (p : Nat) (aa an : Addr) (js : List Int) (ns : List (Option Int)), vs = [.ref A.b, .int p, .ref aa, .ref an] ∧ MAt c B A M R H ∧ MOk M ∧ ((p : Int) + 1) * M.group ≤ 8 ∧ B aa = some (.lst (js.map V.int)) ∧ B an = some (.lst (ns.map oV)) ∧ js.length = ns.length ∧
  ∀ B' H', Same B B' → MAt c B' A (M.laidSeat (yX js ns) p) R H' → Q .non H'
theorem ok_seat {c : MCs} (d : zZ K c.bn "lay_seat" "Bench.lay_seat" yi ["self", "seat", "active", "numbers"]) (hrg : mg "range" = none) (hdict : mg "dict" = none) (hzip : mg "zip" = none) (CC : MCls K c) (TK : OkM P w K mg base CX0 1 c.fe "taken" ["self"] (spTaken c.fe)) (LA : OkM P w K mg base CX0 2 c.bx "lay" ["self", "group", "seat", "lane", "number"] (spLay c.bx)) : OkM P w K mg base CX0 3 c.bn "lay_seat" ["self", "seat", "active", "numbers"] (spSeat c K) := by
  obtain ⟨f, fd, m, F, bd⟩ := d
  refine ⟨f, fd, m, bd, F.ok sc_Bench_lay_seat (fun vs H Q E ⟨_, _, _, _, _, _, _, _, _, e, _⟩ => by rw [e]; rfl) fun cdv A outer s H vs Q E hr h => ?_⟩
  obtain ⟨B, A, M, R, p, aa, an, js, ns, rfl, m, ok, h8, ea, en, le, q⟩ := h
  have nd := sc_Bench_lay_seat.nd
  have hr2 := hr
  have hr1 := hr.mono (show 1 ≤ 2 by decide)
  have hu := Nat.lt_of_le_of_lt (Nat.add_le_add_left (show 1 ≤ 64 by decide) _) hr.units
  have CN := CC.n
  have l1 := ok.l1
  have l64 := ok.l64
  have hg := ok.g
  have rb : M.group * M.lanes ≤ 4 * M.lanes ∧ 1 ≤ M.group * M.lanes := by rcases hg with e | e | e <;> rw [e] <;> omega
  refine ⟨_, (zb (zt (i := 4) nd rfl (Or.inl rfl) (pe_dictzip rfl (by rfl) hdict (by rfl) hzip (za (pv 2) (za (pv 3) zd))))
      (zh (ps_for PassesOwn.never rfl (yk rfl hrg (za (zi zY (zp (pv 0) rfl) (zp (pv 0) rfl)) zd)) (zI (i := 5) nd rfl (Or.inl rfl)) (zb (zt (i := 6) nd rfl (Or.inl rfl) (pe_dget1 hu (pv 4) (pv 5) ⟨rfl, rfl, rfl, rfl⟩))
      (zb (ps_mid (yr (zX op_isN (pv 6) yZ (zW _)) (zh (zt (i := 6) nd rfl (Or.inl rfl) (pe_okM0 TK CC.f.c hr1 zr (zp (pv 0) rfl)))) zK))
      (zh (yo (yz LA CC.b.c hr2 zr (zp (pv 0) rfl) (za (zp (pv 0) rfl) (za (pv 1) (za (pv 5) (za (pv 6) zd)))))))))))), ?_⟩
  have ek : (js.map (Sum.inl : Int → Key)).map kV = js.map V.int := by rw [List.map_map]; rfl
  refine ⟨_, rfl, _, rfl, aa, an, js.map Sum.inl, ns.map oV, rfl, (by rw [ek]; exact SqL.of (m.h.sm _ _ ea)), SqL.of (m.h.sm _ _ en), (by rw [List.length_map, List.length_map, le]), fun dt ndt => ?_⟩
  show gName 4 (.ref dt) _ (upd H dt (.dK (yX js ns))) _
  generalize et : yX js ns = told at q
  have tv : ∀ k v, yl told k = some v → v = .non ∨ ∃ n, v = .int n := fun k v e => by rw [← et] at e; exact told_val e
  have sB : Same B (upd B dt (.dK told)) := zg (Same.refl _) (m.h.free ndt)
  have m1 := m.grow (o := .dK told) ndt
  have ed : upd B dt (.dK told) dt = some (.dK told) := zf
  generalize upd B dt (.dK told) = B1 at sB m1 ed
  generalize upd H dt (.dK told) = H1 at m1
  refine ⟨_, rfl, A.b, _, _, _, .int M.group, rfl, m1.b, CN.c, CN.group, rfl, _, rfl, A.b, _, _, _, .int M.lanes, rfl, m1.b, CN.c, CN.lanes, rfl, _, _, rfl, rfl, .inl ⟨by omega, by omega⟩, _, rfl, (by show -(2 ^ 62) ≤ M.group * M.lanes; omega), (by show M.group * M.lanes < 2 ^ 62; omega), ?_⟩
  show ∃ W : Nat → Nat → St → Hp → Prop, _
  refine xo (n := M.room) (fun i σ J => ∃ u5 u6, σ = [some (.ref A.b), some (.int (p : Int)), some (.ref aa), some (.ref an), some (.ref dt), u5, u6] ∧ MAt c B1 A (M.layTo told p i) R J) ⟨none, none, rfl, m1⟩ ?_ ?_
  · rintro i σ J hi ⟨u5, u6, rfl, m2⟩
    have ss := M.layTo_same told p i
    have edJ := m2.h.sm _ _ ed
    have hi' : (i : Int) < M.group * M.lanes := by unfold Mc.room at hi; omega
    obtain ⟨s0, s1⟩ := seat_in hg (show (1 : Int) ≤ M.lanes by omega) (show (0 : Int) ≤ p by omega) h8 (show (0 : Int) ≤ i by omega) hi'
    refine ⟨_, rfl, dt, rfl, .inl ⟨told, .inl edJ⟩, _, rfl, _, DGet.k (k := .inl (0 + (i : Int))) edJ, ?_⟩
    rw [Int.zero_add]
    rw [M.layTo_succ]
    generalize hM : M.layTo told p i = N at m2 ss ⊢
    refine ⟨fun σ' H' => ∃ (n : Int) (N' : Mc), σ' = [some (.ref A.b), some (.int (p : Int)), some (.ref aa), some (.ref an), some (.ref dt), some (.int (i : Int)), some (.int n)] ∧ MAt c B1 A N' R H' ∧ SeatSame M N' ∧ N.layOne told p i = { N' with nums := N'.nums.set ((p : Int) * M.group * M.lanes + i).toNat n }, ?_, ?_⟩
    · cases ev : yl told (.inl (i : Int)) with
      | none =>
        refine ⟨_, rfl, rfl, _, rfl, ite2 (fun z => ?_) (fun z => absurd (show decide (V.non = V.non) = true by decide) z)⟩
        refine ⟨_, rfl, A.b, _, _, _, .ref A.fd, rfl, m2.b, CN.c, CN.dust, rfl, A.fd, _, _, rfl, m2.h.get 4 rfl, rfl, A.fd, A.dfd, A.aD, N.dust, N.dq, rfl, m2.h.get 4 rfl, m2.h.sm _ _ m2.bb.dl, fun J3 k3 e3 => ?_⟩
        refine ⟨_, _, rfl, m2.took k3 e3, ⟨ss.g, ss.l, ss.n, ss.d⟩, ?_⟩
        unfold Mc.layOne; rw [ev, ss.g, ss.l]
      | some v =>
        rcases tv _ _ ev with rfl | ⟨n, rfl⟩
        · refine ⟨_, rfl, rfl, _, rfl, ite2 (fun z => ?_) (fun z => absurd (show decide (V.non = V.non) = true by decide) z)⟩
          refine ⟨_, rfl, A.b, _, _, _, .ref A.fd, rfl, m2.b, CN.c, CN.dust, rfl, A.fd, _, _, rfl, m2.h.get 4 rfl, rfl, A.fd, A.dfd, A.aD, N.dust, N.dq, rfl, m2.h.get 4 rfl, m2.h.sm _ _ m2.bb.dl, fun J3 k3 e3 => ?_⟩
          refine ⟨_, _, rfl, m2.took k3 e3, ⟨ss.g, ss.l, ss.n, ss.d⟩, ?_⟩
          unfold Mc.layOne; rw [ev, ss.g, ss.l]
        · refine ⟨_, rfl, rfl, _, rfl, ite2 (fun z => absurd z (fun y => by cases of_decide_eq_true y)) (fun z => ?_)⟩
          refine ⟨n, N, rfl, m2, ss, ?_⟩
          unfold Mc.layOne; rw [ev, ss.g, ss.l]
    rintro σ' H' ⟨n, N', rfl, m3, ss', e⟩
    rw [e]
    have eg := ss'.g
    have el := ss'.l
    refine ⟨_, rfl, A.b, _, _, _, .ref A.bx, rfl, m3.b, CN.c, CN.boxes, rfl, A.bx, _, _, rfl, m3.h.sm _ _ m3.bb.bx, rfl, _, rfl, A.b, _, _, _, .int N'.group, rfl, m3.b, CN.c, CN.group, rfl, _, rfl, _, rfl, _, rfl, A.bx, A.dbx, A.aN, N'.lanes, N'.group, p, (i : Int), n, N'.nums, rfl, m3.h.sm _ _ m3.bb.bx, m3.h.get 2 rfl, by rw [el]; omega, by rw [el]; omega, by rw [eg]; omega, by rw [eg]; omega, ?_, ?_, ?_⟩
    · rw [eg, el]; exact s0
    · rw [eg, el, ss'.n, ok.nl]; omega
    · refine ⟨_, _, rfl, ?_⟩
      have := m3.putNums (N'.nums.set ((p : Int) * N'.group * N'.lanes + i).toNat n)
      rw [← eg, ← el]
      exact this
  · rintro σ J ⟨u5, u6, rfl, m2⟩
    exact q B1 J sB m2
end
end K35
namespace K35
open PySem L2
section
variable {c : MCs} {B : Hp} {A : Ma} {M : Mc} {R : List (Addr × HO)} {H H' : Hp}
theorem MAt.s_pc (m : MAt c B A M R H) (v : Int) : MAt c B A { M with pc := v } R (upd H A.b (.ins c.bn A.db (zw "at" (.int v) (flds A M)))) :=
  ⟨⟨m.bb.lens, m.bb.starts, m.bb.bx, m.bb.msk, m.bb.ml, m.bb.dl, m.bb.pl, m.bb.tl, m.bb.tt, m.bb.ul, m.bb.uu, m.bb.rf⟩, m.h.put (o' := .ins c.bn A.db (zw "at" (.int v) (flds A M))) 0 rfl⟩
theorem MAt.s_opened (m : MAt c B A M R H) (v : Int) : MAt c B A { M with opened := v } R (upd H A.b (.ins c.bn A.db (zw "opened" (.int v) (flds A M)))) :=
  ⟨⟨m.bb.lens, m.bb.starts, m.bb.bx, m.bb.msk, m.bb.ml, m.bb.dl, m.bb.pl, m.bb.tl, m.bb.tt, m.bb.ul, m.bb.uu, m.bb.rf⟩, m.h.put (o' := .ins c.bn A.db (zw "opened" (.int v) (flds A M))) 0 rfl⟩
theorem MAt.s_many (m : MAt c B A M R H) (v : Int) : MAt c B A { M with many := v } R (upd H A.b (.ins c.bn A.db (zw "many" (.int v) (flds A M)))) :=
  ⟨⟨m.bb.lens, m.bb.starts, m.bb.bx, m.bb.msk, m.bb.ml, m.bb.dl, m.bb.pl, m.bb.tl, m.bb.tt, m.bb.ul, m.bb.uu, m.bb.rf⟩, m.h.put (o' := .ins c.bn A.db (zw "many" (.int v) (flds A M))) 0 rfl⟩
theorem MAt.s_group (m : MAt c B A M R H) (v : Int) : MAt c B A { M with group := v } R (upd H A.b (.ins c.bn A.db (zw "group" (.int v) (flds A M)))) :=
  ⟨⟨m.bb.lens, m.bb.starts, m.bb.bx, m.bb.msk, m.bb.ml, m.bb.dl, m.bb.pl, m.bb.tl, m.bb.tt, m.bb.ul, m.bb.uu, m.bb.rf⟩, m.h.put (o' := .ins c.bn A.db (zw "group" (.int v) (flds A M))) 0 rfl⟩
theorem MAt.s_base (m : MAt c B A M R H) (v : Int) : MAt c B A { M with base := v } R (upd H A.b (.ins c.bn A.db (zw "base" (.int v) (flds A M)))) :=
  ⟨⟨m.bb.lens, m.bb.starts, m.bb.bx, m.bb.msk, m.bb.ml, m.bb.dl, m.bb.pl, m.bb.tl, m.bb.tt, m.bb.ul, m.bb.uu, m.bb.rf⟩, m.h.put (o' := .ins c.bn A.db (zw "base" (.int v) (flds A M))) 0 rfl⟩
theorem MAt.s_begun (m : MAt c B A M R H) (v : Int) : MAt c B A { M with begun := v } R (upd H A.b (.ins c.bn A.db (zw "begun" (.int v) (flds A M)))) :=
  ⟨⟨m.bb.lens, m.bb.starts, m.bb.bx, m.bb.msk, m.bb.ml, m.bb.dl, m.bb.pl, m.bb.tl, m.bb.tt, m.bb.ul, m.bb.uu, m.bb.rf⟩, m.h.put (o' := .ins c.bn A.db (zw "begun" (.int v) (flds A M))) 0 rfl⟩
theorem MAt.s_width (m : MAt c B A M R H) (v : Int) : MAt c B A { M with width := v } R (upd H A.b (.ins c.bn A.db (zw "width" (.int v) (flds A M)))) :=
  ⟨⟨m.bb.lens, m.bb.starts, m.bb.bx, m.bb.msk, m.bb.ml, m.bb.dl, m.bb.pl, m.bb.tl, m.bb.tt, m.bb.ul, m.bb.uu, m.bb.rf⟩, m.h.put (o' := .ins c.bn A.db (zw "width" (.int v) (flds A M))) 0 rfl⟩
theorem MAt.s_cut (m : MAt c B A M R H) (v : Option Int) : MAt c B A { M with cut := v } R (upd H A.b (.ins c.bn A.db (zw "cut" (oV v) (flds A M)))) :=
  ⟨⟨m.bb.lens, m.bb.starts, m.bb.bx, m.bb.msk, m.bb.ml, m.bb.dl, m.bb.pl, m.bb.tl, m.bb.tt, m.bb.ul, m.bb.uu, m.bb.rf⟩, m.h.put (o' := .ins c.bn A.db (zw "cut" (oV v) (flds A M))) 0 rfl⟩
theorem MAt.s_carried (m : MAt c B A M R H) (v : Option Int) : MAt c B A { M with carried := v } R (upd H A.b (.ins c.bn A.db (zw "carried" (oV v) (flds A M)))) :=
  ⟨⟨m.bb.lens, m.bb.starts, m.bb.bx, m.bb.msk, m.bb.ml, m.bb.dl, m.bb.pl, m.bb.tl, m.bb.tt, m.bb.ul, m.bb.uu, m.bb.rf⟩, m.h.put (o' := .ins c.bn A.db (zw "carried" (oV v) (flds A M))) 0 rfl⟩
theorem MAt.s_faults (m : MAt c B A M R H) {n : Addr} (nn : H n = none) : MAt c B { A with aF := n } { M with faults := [] } R (upd (upd H n (.dK [])) A.b (.ins c.bn A.db (zw "faults" (.ref n) (flds A M)))) := by
  have h := (m.h.new (o := .dK []) nn).put (o' := .ins c.bn A.db (zw "faults" (.ref n) (flds A M))) 1 rfl
  refine ⟨⟨m.bb.lens, m.bb.starts, m.bb.bx, m.bb.msk, m.bb.ml, m.bb.dl, m.bb.pl, m.bb.tl, m.bb.tt, m.bb.ul, m.bb.uu, m.bb.rf⟩, ?_⟩
  have h2 := h.sub (L' := (n, .dK []) :: (A.b, .ins c.bn A.db (zw "faults" (.ref n) (flds A M))) :: (A.aC, .lst (M.cells.map V.int)) :: (A.aN, .lst (M.nums.map V.int)) :: (A.aSl, .dK M.slots) :: (A.fd, zD c.fe A.dfd A.aD (fAt M.dust M.dq)) :: (A.fp, zD c.fe A.dfp A.aP (fAt M.picks M.pq)) :: (A.aT, .lst (A.ts.map V.ref)) :: (A.aU, .lst (A.us.map V.ref)) :: (mskO A M ++ R)) (.cons₂ _ (.cons₂ _ (.cons₂ _ (.cons₂ _ (.cons₂ _ (.cons₂ _ (.cons₂ _ (.cons₂ _ (.cons _ (List.Sublist.refl _))))))))))
  refine h2.perm ?_
  exact (List.perm_middle (a := (n, HO.dK [])) (l₁ := [_, _, _, _, _, _, _]) (l₂ := _ :: _)).symm
end
structure MOk0 (M : Mc) : Prop where
  l1 : 1 ≤ M.lanes
  l64 : M.lanes ≤ 64
  nl : M.nums.length = 8 * M.lanes
  ml : M.masks.length = 16
  mm : ∀ m ∈ M.masks, m.length = 4 * M.lanes
theorem MOk.zero {M : Mc} (ok : MOk M) : MOk0 M := ⟨ok.l1, ok.l64, ok.nl, ok.ml, ok.mm⟩
theorem MOk0.strip {M : Mc} (ok : MOk0 M) (hg : M.group = 1 ∨ M.group = 2 ∨ M.group = 4) {w b : Int} (h0 : 0 ≤ w) (h1 : w ≤ M.group * M.lanes) : MOk { M with base := b, width := w, begun := w, faults := [], cut := none } := ⟨ok.l1, ok.l64, hg, ok.nl, ok.ml, ok.mm, h0, h1⟩
def Mc.wide (M : Mc) (b : Int) : Int := if M.group * M.lanes < M.many - b then M.group * M.lanes else M.many - b
def Mc.strip (M : Mc) (b : Int) : Mc := ({ M with base := b, width := M.wide b, begun := M.wide b, faults := [], cut := none } : Mc).laidMask 0 (upto (M.wide b).toNat)
section
variable {P : Program} {w : World} {K : PySem.W.Frag} {mg : Str → Option Value} {base : Heap}
def spStrip (c : MCs) : Sp := fun vs H Q _ => ∃ (B : Hp) (A : Ma) (M : Mc) (R : List (Addr × HO)) (b : Int), vs = [.ref A.b, .int b] ∧ MAt c B A M R H ∧ MOk0 M ∧ (M.group = 1 ∨ M.group = 2 ∨ M.group = 4) ∧ b ≤ M.many ∧
  ∀ B' A' H', Same B B' → A'.b = A.b → MAt c B' A' (M.strip b) R H' → Q .non H'
theorem ok_strip {c : MCs} (d : zZ K c.bn "begin_strip" "Bench.begin_strip" zQ ["self", "base"]) (hrg : mg "range" = none) (hlist : mg "list" = none) (hmin : mg "min" = none) (CC : MCls K c) (LM : OkM P w K mg base CX0 2 c.bn "lay_mask" ["self", "mask", "chosen"] (spMask c K)) : OkM P w K mg base CX0 3 c.bn "begin_strip" ["self", "base"] (spStrip c) := by
  obtain ⟨f, fd, m, F, bd⟩ := d
  refine ⟨f, fd, m, bd, F.ok sc_Bench_begin_strip (fun vs H Q E ⟨_, _, _, _, _, e, _⟩ => by rw [e]; rfl) fun cdv A outer s H vs Q E hr h => ?_⟩
  obtain ⟨B, A, M, R, b, rfl, m, ok, hg, hb, q⟩ := h
  have nd := sc_Bench_begin_strip.nd
  have hr2 := hr
  have CN := CC.n
  have l1 := ok.l1
  have l64 := ok.l64
  have rb : M.group * M.lanes ≤ 4 * M.lanes ∧ 1 ≤ M.group * M.lanes := by rcases hg with e | e | e <;> rw [e] <;> omega
  have w01 : 0 ≤ M.wide b ∧ M.wide b ≤ M.group * M.lanes := by unfold Mc.wide; split <;> omega
  refine ⟨_, (zb (zy (pv 0) (pv 1) rfl)
      (zb (zy (pv 0) (zF (call_min2 rfl) (by rfl) hmin PyProof.Rows.boot_min (za (zi op_sub (zp (pv 0) rfl) (pv 1)) (za (zi zY (zp (pv 0) rfl) (zp (pv 0) rfl)) zd))) rfl)
      (zb (zy (pv 0) (zp (pv 0) rfl) rfl)
      (zb (zy (pv 0) pe_dnewK rfl)
      (zb (zy (pv 0) yZ rfl)
      (zh (yo (yz LM CC.n.c hr2 zr (pv 0) (za zc (za (yc (call_list_rng rfl) (by rfl) hlist PyProof.Rows.boot_list (za (yc call_rangeV (by rfl) hrg PyProof.Rows.boot_range (za (zp (pv 0) rfl) zd)) zd)) zd)))))))))), ?_⟩
  refine ⟨_, rfl, _, rfl, A.b, _, _, _, rfl, m.b, CN.c, CN.base, (by show 23 < 1000; decide), ?_⟩
  have m := m.s_base b
  refine ⟨_, rfl, A.b, _, _, _, .int M.many, rfl, m.b, CN.c, CN.many, rfl, _, rfl, _, _, rfl, rfl, _, rfl, A.b, _, _, _, .int M.group, rfl, m.b, CN.c, CN.group, rfl, _, rfl, A.b, _, _, _, .int M.lanes, rfl, m.b, CN.c, CN.lanes, rfl, _, _, rfl, rfl, .inl ⟨by omega, by omega⟩, _, _, rfl, _, rfl, A.b, _, _, _, rfl, m.b, CN.c, CN.width, (by show 23 < 1000; decide), ?_⟩
  have m := m.s_width (M.wide b)
  refine ⟨_, rfl, A.b, _, _, _, .int (M.wide b), rfl, m.b, CN.c, CN.width, rfl, _, rfl, A.b, _, _, _, rfl, m.b, CN.c, CN.begun, (by show 23 < 1000; decide), ?_⟩
  have m := m.s_begun (M.wide b)
  refine fun n nn => ?_
  have mf := m.s_faults nn
  refine ⟨_, rfl, A.b, _, _, _, rfl, (by rw [zj (zo m.b nn)]; exact m.b), CN.c, CN.faults, (by show 23 < 1000; decide), ?_⟩
  have m := mf
  refine ⟨_, rfl, A.b, _, _, _, rfl, m.b, CN.c, CN.cut, (by show 23 < 1000; decide), ?_⟩
  have m := m.s_cut none
  obtain ⟨wn, ew⟩ : ∃ wn : Nat, M.wide b = wn := ⟨(M.wide b).toNat, by omega⟩
  have ok2 : MOk { M with base := b, width := M.wide b, begun := M.wide b, faults := [], cut := none } := ok.strip hg w01.1 w01.2
  refine ⟨_, rfl, A.b, _, _, rfl, m.b, rfl, _, rfl, A.b, _, _, _, .int (M.wide b), rfl, m.b, CN.c, CN.width, rfl, _, rfl, fun rg nrg => ?_⟩
  have m1 := m.grow (o := .rng 0 (M.wide b)) nrg
  have s1 : Same B (upd B rg (.rng 0 (M.wide b))) := zg (Same.refl _) (m.h.free nrg)
  have e1 : upd B rg (.rng 0 (M.wide b)) rg = some (.rng 0 (M.wide b)) := zf
  generalize upd B rg (.rng 0 (M.wide b)) = B1 at m1 s1 e1
  refine ⟨rg, wn, rfl, (by rw [← ew]; exact m1.h.sm _ _ e1), by omega, fun l nl => ?_⟩
  have m2 := m1.grow (o := .lst ((upto wn).map V.int)) nl
  have s2 : Same B1 (upd B1 l (.lst ((upto wn).map V.int))) := zg (Same.refl _) (m1.h.free nl)
  have e2 : upd B1 l (.lst ((upto wn).map V.int)) l = some (.lst ((upto wn).map V.int)) := zf
  generalize upd B1 l (.lst ((upto wn).map V.int)) = B2 at m2 s2 e2
  refine ⟨B2, { A with aF := n }, { M with base := b, width := M.wide b, begun := M.wide b, faults := [], cut := none }, R, 0, l, upto wn, rfl, m2, ok2, by decide, e2, (fun j hj => ?_), fun H9 m9 => ?_⟩
  · obtain ⟨i, hi, rfl⟩ := List.mem_map.mp hj
    have := List.mem_range.mp hi
    show 0 ≤ (i : Int) ∧ (i : Int) < M.group * M.lanes
    omega
  · refine q B2 { A with aF := n } H9 (s1.trans s2) rfl ?_
    unfold Mc.strip
    rw [ew, Int.toNat_natCast]
    rw [ew] at m9
    exact m9
def Mc.round (M : Mc) (many group : Int) : Mc := ({ M with opened := M.pc, many := many, group := group, carried := none } : Mc).strip 0
def spRound (c : MCs) : Sp := fun vs H Q _ => ∃ (B : Hp) (A : Ma) (M : Mc) (R : List (Addr × HO)) (many group : Int), vs = [.ref A.b, .int many, .int group] ∧ MAt c B A M R H ∧ MOk0 M ∧ (group = 1 ∨ group = 2 ∨ group = 4) ∧ 0 ≤ many ∧
  ∀ B' A' H', Same B B' → A'.b = A.b → MAt c B' A' (M.round many group) R H' → Q .non H'
theorem ok_round {c : MCs} (d : zZ K c.bn "open_round" "Bench.open_round" zU ["self", "many", "group"]) (CC : MCls K c) (BS : OkM P w K mg base CX0 3 c.bn "begin_strip" ["self", "base"] (spStrip c)) : OkM P w K mg base CX0 4 c.bn "open_round" ["self", "many", "group"] (spRound c) := by
  obtain ⟨f, fd, m, F, bd⟩ := d
  refine ⟨f, fd, m, bd, F.ok sc_Bench_open_round (fun vs H Q E ⟨_, _, _, _, _, _, e, _⟩ => by rw [e]; rfl) fun cdv A outer s H vs Q E hr h => ?_⟩
  obtain ⟨B, A, M, R, many, group, rfl, m, ok, hg, hm, q⟩ := h
  have nd := sc_Bench_open_round.nd
  have hr3 := hr
  have CN := CC.n
  refine ⟨_, (zb (zy (pv 0) (zp (pv 0) rfl) rfl)
      (zb (zy (pv 0) (pv 1) rfl)
      (zb (zy (pv 0) (pv 2) rfl)
      (zb (zy (pv 0) yZ rfl)
      (zh (yo (yz BS CC.n.c hr3 zr (pv 0) (za zc zd)))))))), ?_⟩
  refine ⟨_, rfl, A.b, _, _, _, .int M.pc, rfl, m.b, CN.c, CN.pc, rfl, _, rfl, A.b, _, _, _, rfl, m.b, CN.c, CN.opened, (by show 23 < 1000; decide), ?_⟩
  have m := m.s_opened M.pc
  refine ⟨_, rfl, _, rfl, A.b, _, _, _, rfl, m.b, CN.c, CN.many, (by show 23 < 1000; decide), ?_⟩
  have m := m.s_many many
  refine ⟨_, rfl, _, rfl, A.b, _, _, _, rfl, m.b, CN.c, CN.group, (by show 23 < 1000; decide), ?_⟩
  have m := m.s_group group
  refine ⟨_, rfl, A.b, _, _, _, rfl, m.b, CN.c, CN.carried, (by show 23 < 1000; decide), ?_⟩
  have m := m.s_carried none
  exact ⟨_, rfl, A.b, _, _, rfl, m.b, rfl, B, A, { M with opened := M.pc, many := many, group := group, carried := none }, R, 0, rfl, m, ⟨ok.l1, ok.l64, ok.nl, ok.ml, ok.mm⟩, hg, hm, fun B' A' H' s eb m' => q B' A' H' s eb m'⟩
end
end K35
namespace L2
open PySem
theorem ix_tupK {X : Cx} {K : PySem.W.Frag} (e : X.K = K) : IxR X (rIxT K) := by subst e; exact yM
end L2
namespace K35
open PySem L2
def zP (K : PySem.W.Frag) (mg : Str → Option Value) (aS : Addr) (sg nm : Str) : Prop := ∃ f, PySem.W.nsIn K aS sg = some (some (.ref f)) ∧ mg nm = some (.ref f)
structure TabA where
  s : Addr
  e : Addr
  w : Addr
structure Tabs (w : World) (K : PySem.W.Frag) (mg : Str → Option Value) (t : TabA) : Prop where
  Ts : TopDict w K t.s
  Te : TopDict w K t.e
  Tw : TopDict w K t.w
  ls : (t.s == sysModules) = false
  le : (t.e == sysModules) = false
  hs : mg "SEAT_STEPS" = some (.ref t.s)
  he : mg "EFFECTS" = some (.ref t.e)
  hw : mg "WAYS" = some (.ref t.w)
  s_number : zP K mg t.s "number" "numbers_written"
  s_here : zP K mg t.s "here" "numbers_of_here"
  s_load : zP K mg t.s "load" "numbers_loaded"
  s_spread : zP K mg t.s "spread" "numbers_spread"
  s_shift : zP K mg t.s "shift" "numbers_shifted"
  s_gather : zP K mg t.s "gather" "numbers_gathered"
  s_op : zP K mg t.s "op" "numbers_joined"
  s_pick : zP K mg t.s "pick" "numbers_picked"
  s_copy : zP K mg t.s "copy" "numbers_copied"
  s_bring : zP K mg t.s "bring" "numbers_brought"
  e_reach : zP K mg t.e "reach" "play_reach"
  es_reach : PySem.W.nsIn K t.s "reach" = some none
  e_trim : zP K mg t.e "trim" "play_trim"
  es_trim : PySem.W.nsIn K t.s "trim" = some none
  e_stop : zP K mg t.e "stop" "play_stop"
  es_stop : PySem.W.nsIn K t.s "stop" = some none
  e_choose : zP K mg t.e "choose" "play_choose"
  es_choose : PySem.W.nsIn K t.s "choose" = some none
  e_other : zP K mg t.e "other" "play_other"
  es_other : PySem.W.nsIn K t.s "other" = some none
  e_save : zP K mg t.e "save" "play_save"
  es_save : PySem.W.nsIn K t.s "save" = some none
  e_store : zP K mg t.e "store" "play_store"
  es_store : PySem.W.nsIn K t.s "store" = some none
  e_put : zP K mg t.e "put" "play_put"
  es_put : PySem.W.nsIn K t.s "put" = some none
  e_fold : zP K mg t.e "fold" "play_fold"
  es_fold : PySem.W.nsIn K t.s "fold" = some none
  e_running : zP K mg t.e "running" "play_running"
  es_running : PySem.W.nsIn K t.s "running" = some none
  e_any : zP K mg t.e "any" "play_any"
  es_any : PySem.W.nsIn K t.s "any" = some none
  w_begin : zP K mg t.w "begin" "play_begin"
  ws_begin : PySem.W.nsIn K t.s "begin" = some none
  we_begin : PySem.W.nsIn K t.e "begin" = some none
  w_next : zP K mg t.w "next" "play_next"
  ws_next : PySem.W.nsIn K t.s "next" = some none
  we_next : PySem.W.nsIn K t.e "next" = some none
  w_turns : zP K mg t.w "turns" "play_turns"
  ws_turns : PySem.W.nsIn K t.s "turns" = some none
  we_turns : PySem.W.nsIn K t.e "turns" = some none
  w_quiet : zP K mg t.w "quiet" "play_quiet"
  ws_quiet : PySem.W.nsIn K t.s "quiet" = some none
  we_quiet : PySem.W.nsIn K t.e "quiet" = some none
  w_till : zP K mg t.w "till" "play_till"
  ws_till : PySem.W.nsIn K t.s "till" = some none
  we_till : PySem.W.nsIn K t.e "till" = some none
abbrev FnM := List V → Mc → List Int → Option (Mc × List (Option Int))
structure FnMOk (f : FnM) : Prop where
  ok : ∀ {tv M js M' ns}, f tv M js = some (M', ns) → MOk M → MOk M'
  g : ∀ {tv M js M' ns}, f tv M js = some (M', ns) → M'.group = M.group
  n : ∀ {tv M js M' ns}, f tv M js = some (M', ns) → ns.length = js.length
section
variable {P : Program} {w : World} {K : PySem.W.Frag} {mg : Str → Option Value} {base : Heap}
def spFn (c : MCs) (f : FnM) : Sp := fun vs H Q _ => ∃ (B : Hp) (A : Ma) (M : Mc) (R : List (Addr × HO)) (st aa : Addr) (tv : List V) (js : List Int) (M' : Mc) (ns : List (Option Int)), vs = [.ref A.b, .ref st, .ref aa] ∧ MAt c B A M R H ∧ B st = some (.tup tv) ∧ B aa = some (.lst (js.map V.int)) ∧ f tv M js = some (M', ns) ∧ MOk M ∧ (∀ j ∈ js, 0 ≤ j ∧ j < M.group * M.lanes) ∧ js.length ≤ 1000 ∧
  ∀ B' A' H' l, Same B B' → A'.b = A.b → MAt c B' A' M' R H' → B' l = some (.lst (ns.map oV)) → Q (.ref l) H'
def seatM (f : FnM) (tv : List V) (M : Mc) : Option Mc := match (tv[1]? : Option V), tv.getLast? with
  | some (V.int p), some (V.int k) => if 0 ≤ p ∧ (p + 1) * M.group ≤ 8 ∧ 0 ≤ k ∧ k < 16 then (f tv M (M.act k.toNat)).map fun r => r.1.laidSeat (yX (M.act k.toNat) r.2) p.toNat else none
  | _, _ => none
def spPSS (c : MCs) (S : Str → FnM → Prop) : Sp := fun vs H Q _ => ∃ (word : Str) (f : FnM) (B : Hp) (A : Ma) (M : Mc) (R : List (Addr × HO)) (st : Addr) (tv : List V) (M' : Mc), S word f ∧ vs = [.ref A.b, .ref st] ∧ MAt c B A M R H ∧ B st = some (.tup tv) ∧ tv[0]? = some (.str word) ∧ seatM f tv M = some M' ∧ MOk M ∧
  ∀ B' A' H', Same B B' → A'.b = A.b → MAt c B' A' M' R H' → Q .non H'
theorem mask_room {M : Mc} (ok : MOk M) {k : Nat} (hk : k < 16) : M.width.toNat ≤ (M.masks.getD k []).length ∧ M.width.toNat ≤ 1000 := by
  have ml := ok.ml
  have hk' : k < M.masks.length := by omega
  have l1 := ok.l1
  have l64 := ok.l64
  have w0 := ok.w0
  have w1 := ok.w1
  have lm : (M.masks.getD k []).length = 4 * M.lanes := by
    rw [List.getD_eq_getElem?_getD, List.getElem?_eq_getElem hk']; exact ok.mm _ (List.getElem_mem hk')
  have rb : M.group * M.lanes ≤ 4 * M.lanes := by rcases ok.g with e | e | e <;> rw [e] <;> omega
  rw [lm]; omega
theorem act_in {M : Mc} (ok : MOk M) (k : Nat) : (∀ j ∈ M.act k, 0 ≤ j ∧ j < M.group * M.lanes) ∧ (M.act k).length ≤ 1000 := by
  have w0 := ok.w0
  have w1 := ok.w1
  refine ⟨fun j hj => ?_, ?_⟩
  · obtain ⟨a, b, _⟩ := Mc.act_mem hj
    omega
  · have := M.actTo_len k M.width.toNat
    have rb : M.group * M.lanes ≤ 4 * M.lanes := by rcases ok.g with e | e | e <;> rw [e] <;> omega
    have := ok.l64
    unfold Mc.act
    omega
theorem atI_lst {tv : List V} {v : V} (h : tv.getLast? = some v) : atI tv (-1) = some v := by
  obtain ⟨l, rfl⟩ : ∃ l, tv = l ++ [v] := by
    rw [List.getLast?_eq_some_iff] at h; exact h
  exact atI_last _ _
def SeatWords (P : Program) (w : World) (K : PySem.W.Frag) (mg : Str → Option Value) (base : Heap) (c : MCs) (t : TabA) (S : Str → FnM → Prop) (rm : Nat) : Prop := ∀ word f, S word f → ∃ (nm : Str) (ps : List Str), zP K mg t.s word nm ∧ Ok P w K mg base CX0 rm nm ps (spFn c f) ∧ FnMOk f
theorem ok_pss {c : MCs} {t : TabA} {S : Str → FnM → Prop} {rm : Nat} (d : zC K mg "play_seat_step" yg ["bench", "step"]) (CC : MCls K c) (TT : Tabs w K mg t) (hrm : rm ≤ 6) (AU : OkM P w K mg base CX0 1 c.bn "active_under" ["self", "mask"] (spAct c)) (LS : OkM P w K mg base CX0 3 c.bn "lay_seat" ["self", "seat", "active", "numbers"] (spSeat c K))
    (SW : SeatWords P w K mg base c t S rm) : Ok P w K mg base CX0 7 "play_seat_step" ["bench", "step"] (spPSS c S) := by
  obtain ⟨g, fd, m, F, b⟩ := d
  refine ⟨g, fd, m, F.kp, b, F.ok sc_play_seat_step (fun vs H Q E ⟨_, _, _, _, _, _, _, _, _, _, e, _⟩ => by rw [e]; rfl) fun cdv A outer s H vs Q E hr h => ?_⟩
  obtain ⟨word, f, B, A, M, R, st, tv, M', hS, rfl, m, es, e0, eM, ok, q⟩ := h
  obtain ⟨nm, ps, sg, FN, fo⟩ := SW word f hS
  have nd := sc_play_seat_step.nd
  have hr3 := hr.mono (show 3 ≤ 6 by decide)
  have hr1 := hr.mono (show 1 ≤ 6 by decide)
  have hrF : Room rm _ := hr.mono hrm
  have CN := CC.n
  unfold seatM at eM
  split at eM
  case h_2 => cases eM
  rename_i p k e1 el
  split at eM
  case isFalse => cases eM
  rename_i hc
  obtain ⟨p0, p8, k0, k16⟩ := hc
  obtain ⟨⟨M1, ns⟩, ef, rfl⟩ := Option.map_eq_some_iff.mp eM
  obtain ⟨pn, rfl⟩ : ∃ n : Nat, p = n := ⟨p.toNat, by omega⟩
  obtain ⟨kn, rfl⟩ : ∃ n : Nat, k = n := ⟨k.toNat, by omega⟩
  rw [Int.toNat_natCast] at ef
  have kn16 : kn < 16 := by omega
  obtain ⟨mr1, mr2⟩ := mask_room ok kn16
  obtain ⟨ai, al⟩ := act_in ok kn
  have ml := ok.ml
  refine ⟨_, (zb (zt (i := 2) nd rfl (Or.inl rfl) (yz AU CC.n.c hr1 zr (pv 0) (za (zE yM (pv 1) (pe_un un_neg zc) (fun _ _ => rfl)) zd)))
      (zh (yo (yz LS CC.n.c hr3 zr (pv 0) (za (zE yM (pv 1) zc (fun _ _ => rfl)) (za (pv 2) (za (pe_callV (CX := CX0) (k := rm) (zE ix_top (pe_gref TT.hs) (zE yM (pv 1) zc (fun _ _ => rfl)) (fun _ _ => rfl)) hrF zr (za (pv 0) (za (pv 1) (za (pv 2) zd)))) zd))))))), ?_⟩
  refine ⟨_, rfl, A.b, _, _, rfl, m.b, rfl, _, rfl, _, rfl, st, _, _, _, rfl, rfl, SqT.of (m.h.sm _ _ es), atI_lst el, B, A, M, R, kn, rfl, m, by omega, ok.w0, mr1, mr2, fun B1 H1 l s1 m1 ea => ?_⟩
  obtain ⟨fn, efn, mfn⟩ := sg
  obtain ⟨f2, fd2, mf2, kp, bb, FO⟩ := FN
  cases mfn.symm.trans mf2
  refine ⟨_, rfl, A.b, _, _, rfl, m1.b, rfl, _, rfl, st, _, _, _, rfl, rfl, SqT.of (m1.h.sm _ _ (s1 _ _ es)), zM e1, _, rfl, _, rfl, st, _, _, _, rfl, rfl, SqT.of (m1.h.sm _ _ (s1 _ _ es)), zM (j := 0) e0, t.s, word, .ref fn, .ref fn, rfl, rfl, TT.Ts, efn, rfl, ?_⟩
  refine ⟨fn, fd2, ps, spFn c f, rfl, FO, kp, bb, _, rfl, _, rfl, _, rfl, B1, A, M, R, st, l, tv, M.act kn, M1, ns, rfl, m1, s1 _ _ es, ea, ef, ok, ai, al, fun B2 A2 H2 l2 s2 eb m2 en => ?_⟩
  refine ⟨B2, A2, M1, R, pn, l, l2, M.act kn, ns, by rw [eb]; rfl, m2, fo.ok ef ok, by rw [fo.g ef]; exact p8, s2 _ _ ea, en, (fo.n ef).symm, fun B3 H3 s3 m3 => ?_⟩
  rw [Int.toNat_natCast, Int.toNat_natCast] at q
  exact q B3 A2 H3 ((s1.trans s2).trans s3) eb m3
end
end K35
namespace K35
open PySem L2
def Mc.reads (M : Mc) (row : Nat) (js : List Int) : Mc := { M with touches := M.touches ++ js.map fun j => (M.pc, ("read" : Str), M.adr row (M.base + j)) }
def Mc.valAt (M : Mc) (row : Nat) (j : Int) : Int := M.cells.getD (M.adr row (M.base + j)).toNat 0
theorem Mc.reads_snoc (M : Mc) (row : Nat) (js : List Int) (j : Int) : M.reads row (js ++ [j]) = (M.reads row js).touched "read" (M.adr row (M.base + j)) := by
  unfold Mc.reads Mc.touched
  rw [List.map_append, ← List.append_assoc]; rfl
def rowIn (M : Mc) (row : Nat) (js : List Int) : Prop := row < M.starts.length ∧ ∀ j ∈ js, 0 ≤ M.adr row (M.base + j) ∧ (M.adr row (M.base + j)).toNat < M.cells.length
open Classical in
noncomputable def loadM : FnM := fun tv M js => match (tv[2]? : Option V) with
  | some (V.int r) => if 0 ≤ r ∧ rowIn M r.toNat js ∧ M.touches.length + js.length < 100000 then some (M.reads r.toNat js, js.map fun j => some (M.valAt r.toNat j)) else none
  | _ => none
theorem loadM_is {tv : List V} {M M' : Mc} {js : List Int} {ns : List (Option Int)} (h : loadM tv M js = some (M', ns)) : ∃ r : Nat, tv[2]? = some (.int r) ∧ rowIn M r js ∧ M.touches.length + js.length < 100000 ∧ M' = M.reads r js ∧ ns = js.map fun j => some (M.valAt r j) := by
  unfold loadM at h
  split at h
  · rename_i r e
    split at h
    · rename_i hc
      obtain ⟨r0, h1, h2⟩ := hc
      cases h
      exact ⟨r.toNat, by rw [e]; congr 2; omega, h1, h2, rfl, rfl⟩
    · cases h
  · cases h
theorem loadM_ok : FnMOk loadM where
  ok := fun h ok => by
    obtain ⟨r, _, _, _, rfl, _⟩ := loadM_is h
    exact ⟨ok.l1, ok.l64, ok.g, ok.nl, ok.ml, ok.mm, ok.w0, ok.w1⟩
  g := fun h => by
    obtain ⟨r, _, _, _, rfl, _⟩ := loadM_is h
    rfl
  n := fun h => by
    obtain ⟨r, _, _, _, _, rfl⟩ := loadM_is h
    rw [List.length_map]
section
variable {P : Program} {w : World} {K : PySem.W.Frag} {mg : Str → Option Value} {base : Heap}
theorem ok_loaded {c : MCs} (d : zC K mg "numbers_loaded" yh ["bench", "step", "active"]) (CC : MCls K c) (RC : OkM P w K mg base CX0 2 c.bn "read_cell" ["self", "row", "place"] (spRead c)) : Ok P w K mg base CX0 3 "numbers_loaded" ["bench", "step", "active"] (spFn c loadM) := by
  obtain ⟨g, fd, m, F, b⟩ := d
  refine ⟨g, fd, m, F.kp, b, F.ok sc_numbers_loaded (fun vs H Q E ⟨_, _, _, _, _, _, _, _, _, _, e, _⟩ => by rw [e]; rfl) fun cdv A outer s H vs Q E hr h => ?_⟩
  obtain ⟨B, A, M, R, st, aa, tv, js, M', ns, rfl, m, es, ea, ef, ok, hj, hl, q⟩ := h
  obtain ⟨r, e2, ⟨hr0, hin⟩, ht, rfl, rfl⟩ := loadM_is ef
  have nd := sc_numbers_loaded.nd
  have hr2 := hr
  have CN := CC.n
  have SL : (3000 : Nat) < sizeLine := by decide
  refine ⟨_, (zh (zu (y3 ["lane", "bench", "step"] [none, some 0, some 1] rfl rfl rfl (pi_list (pv 2)) (fun s3 H3 fp => ⟨zI (i := 0) (show ((["lane", "bench", "step"] : List Str)).Nodup by decide +kernel) rfl (Or.inl rfl), (yz RC CC.n.c hr2 zr (pv 1) (za (zE (ix_tupK (K := K) rfl) (pv 2) zc (fun _ _ => rfl)) (za (zi zv (pe_fldK (K := K) rfl (pv 1) rfl) (pv 0)) zd)))⟩)))), ?_⟩
  refine ⟨_, rfl, aa, rfl, ⟨_, SqL.of (m.h.sm _ _ ea)⟩, _, rfl, fun D nD => ?_⟩
  have m0 : MAt c B A (M.reads r (js.take 0)) ((D, .lst (((js.take 0).map fun j => some (M.valAt r j)).map oV)) :: R) (upd H D (.lst [])) := by
    have e : M.reads r (js.take 0) = M := by unfold Mc.reads; rw [List.take_zero]; show { M with touches := M.touches ++ [] } = M; rw [List.append_nil]
    rw [e]; exact m.newR nD
  generalize upd H D (.lst []) = H1 at m0 ⊢
  refine comp_list (K := K) (a := aa) (D := D) (xs := js.map V.int) (fun i σ J => ∃ (u : Option V) (B1 : Hp) (A1 : Ma), σ = [u, some (.ref A.b), some (.ref st)] ∧ Same B B1 ∧ A1.b = A.b ∧ MAt c B1 A1 (M.reads r (js.take i)) ((D, .lst (((js.take i).map fun j => some (M.valAt r j)).map oV)) :: R) J) ⟨none, B, A, rfl, Same.refl _, rfl, m0⟩ (fun i σ J _ ⟨_, B1, A1, _, s1, _, m1⟩ => SqL.of (m1.h.sm _ _ (s1 _ _ ea))) ?_ ?_
  · clear m0
    rintro i y σ J hy ⟨u, B1, A1, rfl, s1, eb, m1⟩
    obtain ⟨hlt, rfl⟩ := map_int_at hy
    have mj := L2.getD_mem hlt
    have e9 : js[i]? = some (js.getD i 0) := by rw [List.getD_eq_getElem?_getD, List.getElem?_eq_getElem hlt]; rfl
    generalize js.getD i 0 = j at mj e9
    obtain ⟨j0, j1⟩ := hin j mj
    refine ⟨_, rfl, A1.b, _, _, by rw [eb], m1.b, rfl, _, rfl, st, _, _, _, rfl, rfl, SqT.of (m1.h.sm _ _ (s1 _ _ es)), zM (j := 2) e2, _, rfl, A1.b, _, _, _, .int M.base, by rw [eb], m1.b, CN.c, CN.base, rfl, _, rfl, _, _, rfl, rfl, B1, A1, M.reads r (js.take i), _, r, M.base + j, by rw [eb]; rfl, m1, ?_, hr0, j0, j1, fun B2 A2 H2 s2 eb2 m2 => ?_⟩
    · show (M.touches ++ _).length < _
      rw [List.length_append, List.length_map, List.length_take]; omega
    refine ⟨_, m2.getR, (by rw [List.length_map, List.length_map, List.length_take]; omega), _, B2, A2, rfl, s1.trans s2, eb2.trans eb, ?_⟩
    have m3 := m2.putR (o' := .lst (((js.take (i + 1)).map fun j => some (M.valAt r j)).map oV))
    have et : js.take (i + 1) = js.take i ++ [j] := by rw [List.take_add_one, e9]; rfl
    rw [et, M.reads_snoc]
    rw [et, List.map_append, List.map_append] at m3
    rw [List.map_append, List.map_append]
    exact m3
  · rintro σ J ⟨u, B1, A1, rfl, s1, eb, m1⟩
    rw [List.length_map, List.take_length] at m1
    have nb : B1 D = none := m1.h.nw (D, _) (List.mem_of_getElem? atR)
    exact q _ A1 J D (s1.trans (zg (Same.refl _) nb)) eb m1.settle zf
abbrev EfM := List V → Mc → Option Mc
def spEf (c : MCs) (f : EfM) : Sp := fun vs H Q _ => ∃ (B : Hp) (A : Ma) (M : Mc) (R : List (Addr × HO)) (st : Addr) (tv : List V) (M' : Mc), vs = [.ref A.b, .ref st] ∧ MAt c B A M R H ∧ B st = some (.tup tv) ∧ f tv M = some M' ∧ MOk M ∧
  ∀ B' A' H', Same B B' → A'.b = A.b → MAt c B' A' M' R H' → Q .non H'
def spPE (c : MCs) (S : Str → EfM → Prop) : Sp := fun vs H Q _ => ∃ (word : Str) (f : EfM) (B : Hp) (A : Ma) (M : Mc) (R : List (Addr × HO)) (st : Addr) (tv : List V) (M' : Mc), S word f ∧ vs = [.ref A.b, .ref st] ∧ MAt c B A M R H ∧ B st = some (.tup tv) ∧ tv[0]? = some (.str word) ∧ f tv M = some M' ∧ MOk M ∧
  ∀ B' A' H', Same B B' → A'.b = A.b → MAt c B' A' M' R H' → Q .non H'
def EffWords (P : Program) (w : World) (K : PySem.W.Frag) (mg : Str → Option Value) (base : Heap) (c : MCs) (t : TabA) (S : Str → EfM → Prop) (rm : Nat) : Prop := ∀ word f, S word f → PySem.W.nsIn K t.s word = some none ∧ ∃ (nm : Str) (ps : List Str), zP K mg t.e word nm ∧ Ok P w K mg base CX0 rm nm ps (spEf c f)
theorem ok_pe {c : MCs} {t : TabA} {S : Str → EfM → Prop} {rm : Nat} (hrm : rm ≤ 7) (d : zC K mg "play_effect" yx ["bench", "step"]) (TT : Tabs w K mg t) (EW : EffWords P w K mg base c t S rm) : Ok P w K mg base CX0 8 "play_effect" ["bench", "step"] (spPE c S) := by
  obtain ⟨g, fd, m, F, b⟩ := d
  refine ⟨g, fd, m, F.kp, b, F.ok sc_play_effect (fun vs H Q E ⟨_, _, _, _, _, _, _, _, _, _, e, _⟩ => by rw [e]; rfl) fun cdv A outer s H vs Q E hr h => ?_⟩
  obtain ⟨word, f, B, A, M, R, st, tv, M', hS, rfl, m, es, e0, eM, ok, q⟩ := h
  obtain ⟨_, nm, ps, sg, FN⟩ := EW word f hS
  have hr4 := hr.mono (show 4 ≤ 7 by decide)
  have hrF : Room rm _ := hr.mono hrm
  obtain ⟨fn, efn, mfn⟩ := sg
  obtain ⟨f2, fd2, mf2, kp, bb, FO⟩ := FN
  cases mfn.symm.trans mf2
  refine ⟨_, (zh (yo (pe_callV (CX := CX0) (k := rm) (zE ix_top (pe_gref TT.he) (zE yM (pv 1) zc (fun _ _ => rfl)) (fun _ _ => rfl)) hrF zr (za (pv 0) (za (pv 1) zd))))), ?_⟩
  exact ⟨_, rfl, st, _, _, _, rfl, rfl, SqT.of (m.h.sm _ _ es), zM (j := 0) e0, t.e, word, .ref fn, .ref fn, rfl, rfl, TT.Te, efn, rfl, fn, fd2, ps, spEf c f, rfl, FO, kp, bb, _, rfl, _, rfl, B, A, M, R, st, tv, M', rfl, m, es, eM, ok, q⟩
def spIn (aD : Addr) (K : PySem.W.Frag) : Sp := fun vs H Q _ => ∃ (word : Str) (r : Option Value), vs = [.str word] ∧ PySem.W.nsIn K aD word = some r ∧ Q (.bl r.isSome) H
theorem ok_lsw {t : TabA} (d : zC K mg "lays_seat" yR ["word"]) (TT : Tabs w K mg t) : Ok P w K mg base CX0 1 "lays_seat" ["word"] (spIn t.s K) := by
  obtain ⟨g, fd, m, F, b⟩ := d
  refine ⟨g, fd, m, F.kp, b, F.ok sc_lays_seat (fun vs H Q E ⟨_, _, e, _⟩ => by rw [e]; rfl) fun cdv A outer s H vs Q E hr h => ?_⟩
  obtain ⟨word, r, rfl, e, q⟩ := h
  refine ⟨_, (zh (zu (xh op_in_top (pv 0) (pe_gref TT.hs) rfl))), ?_⟩
  exact ⟨_, rfl, word, t.s, r, rfl, rfl, TT.Ts, TT.ls, e, q⟩
theorem ok_hew {t : TabA} (d : zC K mg "has_effect" yF ["word"]) (TT : Tabs w K mg t) : Ok P w K mg base CX0 1 "has_effect" ["word"] (spIn t.e K) := by
  obtain ⟨g, fd, m, F, b⟩ := d
  refine ⟨g, fd, m, F.kp, b, F.ok sc_has_effect (fun vs H Q E ⟨_, _, e, _⟩ => by rw [e]; rfl) fun cdv A outer s H vs Q E hr h => ?_⟩
  obtain ⟨word, r, rfl, e, q⟩ := h
  refine ⟨_, (zh (zu (xh op_in_top (pv 0) (pe_gref TT.he) rfl))), ?_⟩
  exact ⟨_, rfl, word, t.e, r, rfl, rfl, TT.Te, TT.le, e, q⟩
end
end K35
namespace K35
open PySem L2
def Mc.puts (M : Mc) (row : Nat) (ps : List (Int × Int)) : Mc := ps.foldl (fun M p => M.wrote row p.1 p.2) M
theorem Mc.puts_snoc (M : Mc) (row : Nat) (ps : List (Int × Int)) (p : Int × Int) : M.puts row (ps ++ [p]) = (M.puts row ps).wrote row p.1 p.2 := by
  unfold Mc.puts; rw [List.foldl_append]; rfl
theorem Mc.puts_is (M : Mc) (row : Nat) (ps : List (Int × Int)) : M.puts row ps = { M with cells := (M.puts row ps).cells, touches := M.touches ++ ps.map fun p => (M.pc, ("write" : Str), M.adr row p.1) } ∧ (M.puts row ps).cells.length = M.cells.length := by
  induction ps generalizing M with
  | nil => exact ⟨by show M = { M with touches := M.touches ++ [] }; rw [List.append_nil], rfl⟩
  | cons p ps ih =>
    obtain ⟨a, b⟩ := ih (M.wrote row p.1 p.2)
    have e : M.puts row (p :: ps) = (M.wrote row p.1 p.2).puts row ps := rfl
    rw [e]
    refine ⟨?_, b.trans (by show (M.cells.set _ _).length = _; rw [List.length_set])⟩
    rw [a]
    show ({ M with cells := _, touches := (M.touches ++ [_]) ++ ps.map _ } : Mc) = { M with cells := _, touches := _ }
    rw [List.append_assoc]; rfl
open Classical in
noncomputable def storeM : EfM := fun tv M => match (tv[1]? : Option V), (tv[2]? : Option V), (tv[3]? : Option V) with
  | some (V.int r), some (V.int p), some (V.int k) => if 0 ≤ r ∧ 0 ≤ p ∧ (p + 1) * M.group ≤ 8 ∧ 0 ≤ k ∧ k < 16 ∧ rowIn M r.toNat (M.act k.toNat) ∧ M.touches.length + (M.act k.toNat).length < 100000 then some (M.puts r.toNat ((M.act k.toNat).map fun j => (M.base + j, M.numAt p.toNat j))) else none
  | _, _, _ => none
theorem storeM_is {tv : List V} {M M' : Mc} (h : storeM tv M = some M') : ∃ r p k : Nat, tv[1]? = some (.int r) ∧ tv[2]? = some (.int p) ∧ tv[3]? = some (.int k) ∧ ((p : Int) + 1) * M.group ≤ 8 ∧ k < 16 ∧ rowIn M r (M.act k) ∧ M.touches.length + (M.act k).length < 100000 ∧ M' = M.puts r ((M.act k).map fun j => (M.base + j, M.numAt p j)) := by
  unfold storeM at h
  split at h
  · rename_i r p k e1 e2 e3
    split at h
    · rename_i hc
      obtain ⟨r0, p0, p8, k0, k1, hin, ht⟩ := hc
      cases h
      refine ⟨r.toNat, p.toNat, k.toNat, ?_, ?_, ?_, ?_, by omega, hin, ht, rfl⟩
      · rw [e1]; congr 2; omega
      · rw [e2]; congr 2; omega
      · rw [e3]; congr 2; omega
      · rw [Int.toNat_of_nonneg p0]; exact p8
    · cases h
  · cases h
section
variable {P : Program} {w : World} {K : PySem.W.Frag} {mg : Str → Option Value} {base : Heap}
theorem map_at {α : Type} {f : α → V} {l : List α} {i : Nat} {x : V} (h : (l.map f)[i]? = some x) : ∃ a, l[i]? = some a ∧ x = f a := by
  rw [List.getElem?_map] at h
  obtain ⟨a, e, z⟩ := Option.map_eq_some_iff.mp h
  exact ⟨a, e, z.symm⟩
theorem ok_store {c : MCs} (d : zC K mg "play_store" yD ["bench", "step"]) (hzip : mg "zip" = none) (CC : MCls K c) (AU : OkM P w K mg base CX0 1 c.bn "active_under" ["self", "mask"] (spAct c)) (NI : OkM P w K mg base CX0 3 c.bn "numbers_in" ["self", "seat", "active"] (spNums c K))
    (WC : OkM P w K mg base CX0 2 c.bn "write_cell" ["self", "row", "place", "number"] (spWrite c)) : Ok P w K mg base CX0 4 "play_store" ["bench", "step"] (spEf c storeM) := by
  obtain ⟨g, fd, m, F, b⟩ := d
  refine ⟨g, fd, m, F.kp, b, F.ok sc_play_store (fun vs H Q E ⟨_, _, _, _, _, _, _, e, _⟩ => by rw [e]; rfl) fun cdv A outer s H vs Q E hr h => ?_⟩
  obtain ⟨B, A, M, R, st, tv, M', rfl, m, es, ef, ok, q⟩ := h
  have nd := sc_play_store.nd
  have hr3 := hr
  have hr2 := hr.mono (show 2 ≤ 3 by decide)
  have hr1 := hr.mono (show 1 ≤ 3 by decide)
  have CN := CC.n
  have ml := ok.ml
  obtain ⟨r, p, k, e1, e2, e3, p8, k16, ⟨hr0, hin⟩, ht, rfl⟩ := storeM_is ef
  obtain ⟨mr1, mr2⟩ := mask_room ok k16
  obtain ⟨ai, al⟩ := act_in ok k
  refine ⟨_, (zb (zt (i := 2) nd rfl (Or.inl rfl) (yz AU CC.n.c hr1 zr (pv 0) (za (zE yM (pv 1) zc (fun _ _ => rfl)) zd)))
      (zh (ps_for PassesOwn.never rfl (pi_zip rfl hzip (za (pv 2) (za (yz NI CC.n.c hr3 zr (pv 0) (za (zE yM (pv 1) zc (fun _ _ => rfl)) (za (pv 2) zd))) zd))) (pg_tup rfl (pgs_cons (zI (i := 3) nd rfl (Or.inl rfl)) (pgs_cons (zI (i := 4) nd rfl (Or.inl rfl)) pgs_nil))) (zh (yo (yz WC CC.n.c hr2 zr (pv 0) (za (zE yM (pv 1) zc (fun _ _ => rfl)) (za (zi zv (zp (pv 0) rfl) (pv 3)) (za (pv 4) zd))))))))), ?_⟩
  refine ⟨_, rfl, A.b, _, _, rfl, m.b, rfl, _, rfl, st, _, _, _, rfl, rfl, SqT.of (m.h.sm _ _ es), zM (j := 3) e3, B, A, M, R, k, rfl, m, by omega, ok.w0, mr1, mr2, fun B1 H1 l s1 m1 ea => ?_⟩
  refine ⟨_, rfl, _, rfl, A.b, _, _, rfl, m1.b, rfl, _, rfl, st, _, _, _, rfl, rfl, SqT.of (m1.h.sm _ _ (s1 _ _ es)), zM (j := 2) e2, _, rfl, B1, A, M, R, p, l, M.act k, rfl, m1, ok, p8, ea, ai, al, fun B2 H2 l2 s2 m2 en => ?_⟩
  refine ⟨l, l2, rfl, ⟨_, SqL.of (m2.h.sm _ _ (s2 _ _ ea))⟩, ⟨_, SqL.of (m2.h.sm _ _ en)⟩, ?_⟩
  generalize M.act k = js at *
  let pr : Int → Int × Int := fun j => (M.base + j, M.numAt p j)
  refine for_zip (xs := js.map V.int) (ys := (js.map (M.numAt p)).map V.int) (fun i σ J => ∃ u3 u4 B3 A3, σ = [some (.ref A.b), some (.ref st), some (.ref l), u3, u4] ∧ Same B2 B3 ∧ A3.b = A.b ∧ MAt c B3 A3 (M.puts r ((js.take i).map pr)) R J) ⟨none, none, B2, A, rfl, Same.refl _, rfl, m2⟩ (fun i σ J _ ⟨_, _, B3, A3, _, s3, _, m3⟩ => ⟨SqL.of (m3.h.sm _ _ (s3 _ _ (s2 _ _ ea))), SqL.of (m3.h.sm _ _ (s3 _ _ en))⟩) (by rw [List.length_map, List.length_map, List.length_map]) ?_ ?_
  · rintro i x y σ J T hx hy ⟨u3, u4, B3, A3, rfl, s3, eb, m3⟩ nT
    obtain ⟨j, e9, rfl⟩ := map_at hx
    obtain ⟨z, e10, rfl⟩ := map_at hy
    rw [List.getElem?_map, e9] at e10
    cases e10
    have mj : j ∈ js := List.mem_of_getElem? e9
    obtain ⟨j0, j1⟩ := hin j mj
    have m4 := m3.grow (o := .tup [.int j, .int (M.numAt p j)]) nT
    have s4 : Same B3 (upd B3 T (.tup [.int j, .int (M.numAt p j)])) := zg (Same.refl _) (m3.h.free nT)
    have e4 : upd B3 T (.tup [.int j, .int (M.numAt p j)]) T = some (.tup [.int j, .int (M.numAt p j)]) := zf
    generalize upd J T (.tup [.int j, .int (M.numAt p j)]) = J4 at m4 ⊢
    generalize upd B3 T (.tup [.int j, .int (M.numAt p j)]) = B4 at m4 s4 e4
    obtain ⟨pi1, pi2⟩ := M.puts_is r ((js.take i).map pr)
    have hb : (M.puts r ((js.take i).map pr)).base = M.base := by rw [pi1]
    have hs : (M.puts r ((js.take i).map pr)).starts = M.starts := by rw [pi1]
    have hT : (M.puts r ((js.take i).map pr)).touches.length < 100000 := by
      rw [pi1]
      show (M.touches ++ _).length < _
      rw [List.length_append, List.length_map, List.length_map, List.length_take]
      have : i < js.length := (List.getElem?_eq_some_iff.mp e9).1
      omega
    refine ⟨T, _, rfl, SqT.of (m4.h.sm _ _ e4), rfl, _, _, rfl, _, _, rfl, rfl, ?_⟩
    refine ⟨_, rfl, A3.b, _, _, by rw [eb], m4.b, rfl, _, rfl, st, _, _, _, rfl, rfl, SqT.of (m4.h.sm _ _ (s4 _ _ (s3 _ _ (s2 _ _ (s1 _ _ es))))), zM (j := 1) e1, _, rfl, A3.b, _, _, _, .int M.base, by rw [eb], m4.b, CN.c, CN.base, (by show some (V.int _) = _; rw [hb]), _, rfl, _, _, rfl, rfl, _, rfl, B4, A3, _, R, r, M.base + j, M.numAt p j, by rw [eb]; rfl, m4, hT, ?_, ?_, ?_, fun B5 A5 H5 s5 eb5 m5 => ?_⟩
    · rw [hs]; exact hr0
    · unfold Mc.adr; rw [hs]; exact j0
    · unfold Mc.adr; rw [hs, pi2]; exact j1
    · refine ⟨_, _, B5, A5, rfl, (s3.trans s4).trans s5, eb5.trans eb, ?_⟩
      have et : (js.take (i + 1)).map pr = (js.take i).map pr ++ [pr j] := by rw [List.take_add_one, e9, List.map_append]; rfl
      rw [et, M.puts_snoc]
      exact m5
  · rintro σ J ⟨u3, u4, B3, A3, rfl, s3, eb, m3⟩
    rw [List.length_map, List.take_length] at m3
    exact q B3 A3 J ((s1.trans s2).trans s3) eb m3
abbrev WyM := List V → Mc → Mc → Int → Prop
def spWy (c : MCs) (f : WyM) : Sp := fun vs H Q _ => ∃ (B : Hp) (A : Ma) (M : Mc) (R : List (Addr × HO)) (st : Addr) (tv : List V) (M' : Mc) (n : Int), vs = [.ref A.b, .ref st] ∧ MAt c B A M R H ∧ B st = some (.tup tv) ∧ f tv M M' n ∧
  ∀ B' A' H', Same B B' → A'.b = A.b → MAt c B' A' M' R H' → Q (.int n) H'
def beginW : WyM := fun tv M M' n => ∃ many group : Int, tv[1]? = some (.int many) ∧ tv[2]? = some (.int group) ∧ MOk0 M ∧ (group = 1 ∨ group = 2 ∨ group = 4) ∧ 0 ≤ many ∧ M' = M.round many group ∧ n = M.pc + 1
def nextW : WyM := fun tv M M' n => MOk0 M ∧ (M.group = 1 ∨ M.group = 2 ∨ M.group = 4) ∧ (if M.base + M.begun < M.many then M' = M.strip (M.base + M.begun) ∧ n = M.opened + 1 else M' = M ∧ n = M.pc + 1)
end
section
variable {P : Program} {w : World} {K : PySem.W.Frag} {mg : Str → Option Value} {base : Heap}
theorem ok_begin {c : MCs} (d : zC K mg "play_begin" yE ["bench", "step"]) (CC : MCls K c) (OR : OkM P w K mg base CX0 4 c.bn "open_round" ["self", "many", "group"] (spRound c)) : Ok P w K mg base CX0 5 "play_begin" ["bench", "step"] (spWy c beginW) := by
  obtain ⟨g, fd, m, F, b⟩ := d
  refine ⟨g, fd, m, F.kp, b, F.ok sc_play_begin (fun vs H Q E ⟨_, _, _, _, _, _, _, _, e, _⟩ => by rw [e]; rfl) fun cdv A outer s H vs Q E hr h => ?_⟩
  obtain ⟨B, A, M, R, st, tv, M', n, rfl, m, es, ⟨many, group, e1, e2, ok, hg, hm, rfl, rfl⟩, q⟩ := h
  have hr4 := hr
  have CN := CC.n
  refine ⟨_, (zb (yo (yz OR CC.n.c hr4 zr (pv 0) (za (zE yM (pv 1) zc (fun _ _ => rfl)) (za (zE yM (pv 1) zc (fun _ _ => rfl)) zd))))
      (zh (zu (zi zv (zp (pv 0) rfl) zc)))), ?_⟩
  refine ⟨_, rfl, A.b, _, _, rfl, m.b, rfl, _, rfl, st, _, _, _, rfl, rfl, SqT.of (m.h.sm _ _ es), zM (j := 1) e1, _, rfl, st, _, _, _, rfl, rfl, SqT.of (m.h.sm _ _ es), zM (j := 2) e2, B, A, M, R, many, group, rfl, m, ok, hg, hm, fun B1 A1 H1 s1 eb m1 => ?_⟩
  exact ⟨_, rfl, A1.b, _, _, _, .int M.pc, by rw [eb], m1.b, CN.c, CN.pc, rfl, _, _, rfl, rfl, q B1 A1 H1 s1 eb m1⟩
theorem ok_next {c : MCs} (d : zC K mg "play_next" yQ ["bench", "step"]) (CC : MCls K c) (BS : OkM P w K mg base CX0 3 c.bn "begin_strip" ["self", "base"] (spStrip c)) : Ok P w K mg base CX0 5 "play_next" ["bench", "step"] (spWy c nextW) := by
  obtain ⟨g, fd, m, F, b⟩ := d
  refine ⟨g, fd, m, F.kp, b, F.ok sc_play_next (fun vs H Q E ⟨_, _, _, _, _, _, _, _, e, _⟩ => by rw [e]; rfl) fun cdv A outer s H vs Q E hr h => ?_⟩
  obtain ⟨B, A, M, R, st, tv, M', n, rfl, m, es, ⟨ok, hg, hx⟩, q⟩ := h
  have nd := sc_play_next.nd
  have hr3 := hr.mono (show 3 ≤ 4 by decide)
  have CN := CC.n
  refine ⟨_, (zb (zt (i := 2) nd rfl (Or.inl rfl) (zi zv (zp (pv 0) rfl) (zp (pv 0) rfl)))
      (zb (yr (zX op_lt (pv 2) (zp (pv 0) rfl) (zW _)) (zb (yo (yz BS CC.n.c hr3 zr (pv 0) (za (pv 2) zd)))
      (zh (zu (zi zv (zp (pv 0) rfl) zc)))) zK)
      (zh (zu (zi zv (zp (pv 0) rfl) zc))))), ?_⟩
  refine ⟨_, rfl, A.b, _, _, _, .int M.base, rfl, m.b, CN.c, CN.base, rfl, _, rfl, A.b, _, _, _, .int M.begun, rfl, m.b, CN.c, CN.begun, rfl, _, _, rfl, rfl, ?_⟩
  refine ⟨_, rfl, _, rfl, A.b, _, _, _, .int M.many, rfl, m.b, CN.c, CN.many, rfl, _, _, rfl, rfl, _, rfl, ?_⟩
  refine ite2 (fun z => ?_) (fun z => ?_)
  · have z := of_decide_eq_true z
    rw [if_pos z] at hx
    obtain ⟨rfl, rfl⟩ := hx
    refine ⟨_, rfl, A.b, _, _, rfl, m.b, rfl, _, rfl, B, A, M, R, M.base + M.begun, rfl, m, ok, hg, by omega, fun B1 A1 H1 s1 eb m1 => ?_⟩
    exact ⟨_, rfl, A1.b, _, _, _, .int M.opened, by rw [eb], m1.b, CN.c, CN.opened, rfl, _, _, rfl, rfl, q B1 A1 H1 s1 eb m1⟩
  · rw [if_neg (fun y => z (decide_eq_true y))] at hx
    obtain ⟨rfl, rfl⟩ := hx
    exact ⟨_, rfl, A.b, _, _, _, .int M'.pc, rfl, m.b, CN.c, CN.pc, rfl, _, _, rfl, rfl, q B A H (Same.refl _) rfl m⟩
end
end K35
namespace K35
open PySem L2
structure Lex where
  S : Str → FnM → Prop
  E : Str → EfM → Prop
  W : Str → WyM → Prop
inductive Step (L : Lex) (tv : List V) (M : Mc) : Mc → Prop
  | seat {word f M'} : L.S word f → tv[0]? = some (.str word) → seatM f tv M = some M' → MOk M → Step L tv M { M' with pc := M'.pc + 1 }
  | eff {word f M'} : L.E word f → tv[0]? = some (.str word) → f tv M = some M' → MOk M → Step L tv M { M' with pc := M'.pc + 1 }
  | way {word f M' n} : L.W word f → tv[0]? = some (.str word) → f tv M M' n → Step L tv M { M' with pc := n }
section
variable {P : Program} {w : World} {K : PySem.W.Frag} {mg : Str → Option Value} {base : Heap}
def WayWords (P : Program) (w : World) (K : PySem.W.Frag) (mg : Str → Option Value) (base : Heap) (c : MCs) (t : TabA) (S : Str → WyM → Prop) (rm : Nat) : Prop := ∀ word f, S word f → PySem.W.nsIn K t.s word = some none ∧ PySem.W.nsIn K t.e word = some none ∧ ∃ (nm : Str) (ps : List Str), zP K mg t.w word nm ∧ Ok P w K mg base CX0 rm nm ps (spWy c f)
def spPB (c : MCs) (L : Lex) : Sp := fun vs H Q _ => ∃ (B : Hp) (A : Ma) (M : Mc) (R : List (Addr × HO)) (st : Addr) (tv : List V) (M' : Mc), vs = [.ref A.b, .ref st] ∧ MAt c B A M R H ∧ B st = some (.tup tv) ∧ Step L tv M M' ∧
  ∀ B' A' H' M1, Same B B' → A'.b = A.b → MAt c B' A' M1 R H' → M' = { M1 with pc := M'.pc } → Q (.int M'.pc) H'
theorem ok_pb {c : MCs} {t : TabA} {L : Lex} {rm rs re : Nat} (d : zC K mg "place_behind" yq ["bench", "step"]) (CC : MCls K c) (TT : Tabs w K mg t) (hrm : rm ≤ 8) (SW : SeatWords P w K mg base c t L.S rs) (EW : EffWords P w K mg base c t L.E re) (WW : WayWords P w K mg base c t L.W rm)
    (LSW : Ok P w K mg base CX0 1 "lays_seat" ["word"] (spIn t.s K)) (HEW : Ok P w K mg base CX0 1 "has_effect" ["word"] (spIn t.e K)) (PSS : Ok P w K mg base CX0 7 "play_seat_step" ["bench", "step"] (spPSS c L.S)) (PE : Ok P w K mg base CX0 8 "play_effect" ["bench", "step"] (spPE c L.E)) :
    Ok P w K mg base CX0 9 "place_behind" ["bench", "step"] (spPB c L) := by
  obtain ⟨g, fd, m, F, b⟩ := d
  refine ⟨g, fd, m, F.kp, b, F.ok sc_place_behind (fun vs H Q E ⟨_, _, _, _, _, _, _, e, _⟩ => by rw [e]; rfl) fun cdv A outer s H vs Q E hr h => ?_⟩
  obtain ⟨B, A, M, R, st, tv, M', rfl, m, es, hS, q⟩ := h
  have hr5 := hr
  have hr4 := hr.mono (show 7 ≤ 8 by decide)
  have hr1 := hr.mono (show 1 ≤ 8 by decide)
  have hrF : Room rm _ := hr.mono hrm
  have CN := CC.n
  refine ⟨_, (zb (yr (yA (zO LSW hr1 (by rfl) zr (za (zE yM (pv 1) zc (fun _ _ => rfl)) zd))) (zb (yo (zO PSS hr4 (by rfl) zr (za (pv 0) (za (pv 1) zd))))
      (zh (zu (zi zv (zp (pv 0) rfl) zc)))) zK)
      (zb (yr (yA (zO HEW hr1 (by rfl) zr (za (zE yM (pv 1) zc (fun _ _ => rfl)) zd))) (zb (yo (zO PE hr5 (by rfl) zr (za (pv 0) (za (pv 1) zd))))
      (zh (zu (zi zv (zp (pv 0) rfl) zc)))) zK)
      (zh (zu (pe_callV (CX := CX0) (k := rm) (zE ix_top (pe_gref TT.hw) (zE yM (pv 1) zc (fun _ _ => rfl)) (fun _ _ => rfl)) hrF zr (za (pv 0) (za (pv 1) zd))))))), ?_⟩
  have sqt : SqT K H st tv := SqT.of (m.h.sm _ _ es)
  cases hS with
  | seat hs e0 eM ok =>
    rename_i word f M1
    obtain ⟨nm, ps, ⟨fn, efn, mfn⟩, FN, fo⟩ := SW word f hs
    refine ⟨_, rfl, st, _, _, _, rfl, rfl, sqt, zM (j := 0) e0, word, _, rfl, efn, _, rfl, ?_⟩
    refine iteT ?_
    refine ⟨_, rfl, _, rfl, word, f, B, A, M, R, st, tv, M1, hs, rfl, m, es, e0, eM, ok, fun B1 A1 H1 s1 eb m1 => ?_⟩
    exact ⟨_, rfl, A1.b, _, _, _, .int M1.pc, by rw [eb], m1.b, CN.c, CN.pc, rfl, _, _, rfl, rfl, q B1 A1 H1 M1 s1 eb m1 rfl⟩
  | eff hs e0 eM ok =>
    rename_i word f M1
    obtain ⟨n1, nm, ps, ⟨fn, efn, mfn⟩, FN⟩ := EW word f hs
    refine ⟨_, rfl, st, _, _, _, rfl, rfl, sqt, zM (j := 0) e0, word, _, rfl, n1, _, rfl, ?_⟩
    refine yn ?_
    refine ⟨_, rfl, st, _, _, _, rfl, rfl, sqt, zM (j := 0) e0, word, _, rfl, efn, _, rfl, ?_⟩
    refine iteT ?_
    refine ⟨_, rfl, _, rfl, word, f, B, A, M, R, st, tv, M1, hs, rfl, m, es, e0, eM, ok, fun B1 A1 H1 s1 eb m1 => ?_⟩
    exact ⟨_, rfl, A1.b, _, _, _, .int M1.pc, by rw [eb], m1.b, CN.c, CN.pc, rfl, _, _, rfl, rfl, q B1 A1 H1 M1 s1 eb m1 rfl⟩
  | way hs e0 eM =>
    rename_i word f M1 n
    obtain ⟨n1, n2, nm, ps, ⟨fn, efn, mfn⟩, FN⟩ := WW word f hs
    obtain ⟨f2, fd2, mf2, kp, bb, FO⟩ := FN
    cases mfn.symm.trans mf2
    refine ⟨_, rfl, st, _, _, _, rfl, rfl, sqt, zM (j := 0) e0, word, _, rfl, n1, _, rfl, ?_⟩
    refine yn ?_
    refine ⟨_, rfl, st, _, _, _, rfl, rfl, sqt, zM (j := 0) e0, word, _, rfl, n2, _, rfl, ?_⟩
    refine yn ?_
    exact ⟨_, rfl, st, _, _, _, rfl, rfl, sqt, zM (j := 0) e0, t.w, word, .ref fn, .ref fn, rfl, rfl, TT.Tw, efn, rfl, fn, fd2, ps, spWy c f, rfl, FO, kp, bb, _, rfl, _, rfl, B, A, M, R, st, tv, M1, n, rfl, m, es, eM, fun B1 A1 H1 s1 eb m1 => q B1 A1 H1 M1 s1 eb m1 rfl⟩
end
end K35
namespace L2
open PySem
namespace Hd
variable {B : Hp} {L : List (Addr × HO)} {H H' J : Hp} {a b : Addr} {o o' : HO}
theorem grow (h : Hd B L H) (n : H a = none) : Hd (upd B a o) L (upd H a o) := by
  refine ⟨h.nd, fun p q => ?_, fun p q => ?_, fun b u z => ?_⟩
  · rw [zj (zo (h.st p q) n)]; exact h.nw p q
  · rw [zj (zo (h.st p q) n)]; exact h.st p q
  · by_cases e : b = a
    · subst e; rw [zf] at z ⊢; exact z
    · rw [zj e] at z ⊢; exact h.sm _ _ z
theorem adopt (m : Hd B L H) (h : Hd H [(a, o)] J) : Hd (upd B a o) L J := by
  have na : H a = none := h.nw _ (List.mem_singleton.mpr rfl)
  refine ⟨m.nd, fun p q => ?_, fun p q => h.sm _ _ (m.st p q), fun b u z => ?_⟩
  · rw [zj (zo (m.st p q) na)]; exact m.nw p q
  · by_cases e : b = a
    · subst e; rw [zf] at z; cases z; exact h.get 0 rfl
    · rw [zj e] at z; exact h.sm _ _ (m.sm _ _ z)
theorem settle (m : Hd B ((a, o) :: L) H) : Hd (upd B a o) L H := by
  have h := m.tl
  have na : a ∉ L.map Prod.fst := (List.nodup_cons.mp m.nd).1
  refine ⟨h.nd, fun p q => ?_, h.st, fun b u z => ?_⟩
  · rw [zj (fun e => na (by rw [← e]; exact List.mem_map_of_mem q))]; exact h.nw p q
  · by_cases e : b = a
    · subst e; rw [zf] at z; cases z; exact m.get 0 rfl
    · rw [zj e] at z; exact m.sm _ _ z
theorem settled (m : Hd B ((a, o) :: L) H) : Same B (upd B a o) := zg (Same.refl _) (m.nw (a, o) (List.mem_cons_self ..))
theorem waste (h : Hd B L H) (n : H a = none) : Hd B L (upd H a o) := h.same (zg (Same.refl _) n)
theorem fnew {p : Addr × HO} (h : Hd B (p :: L) H) (n : H a = none) : Hd B (p :: (a, o) :: L) (upd H a o) := (h.new n).perm (List.Perm.swap _ _ _)
theorem fput (h : Hd B ((a, o) :: L) H) : Hd B ((a, o') :: L) (upd H a o') := h.put 0 rfl
end Hd
end L2
namespace L2
open PySem
namespace Hd
variable {B : Hp} {L L2 : List (Addr × HO)} {H H' J : Hp} {a b : Addr} {o o' : HO}
theorem mv {p : Addr × HO} (k : Nat) (h : Hd B (p :: L) H) : Hd B (L.take k ++ p :: L.drop k) H :=
  h.perm (by
    have e : (p :: L).Perm (p :: (L.take k ++ L.drop k)) := by rw [List.take_append_drop]
    exact e.trans List.perm_middle.symm)
theorem join (m : Hd B L H) (h : Hd H L2 J) : Hd B (L ++ L2) J := by
  refine ⟨?_, fun p q => ?_, fun p q => ?_, fun b u z => h.sm _ _ (m.sm _ _ z)⟩
  · rw [List.map_append]
    refine List.nodup_append.mpr ⟨m.nd, h.nd, fun x hx y hy e => ?_⟩
    obtain ⟨p, hp, rfl⟩ := List.mem_map.mp hx
    obtain ⟨q, hq, rfl⟩ := List.mem_map.mp hy
    have := m.st p hp
    rw [e, h.nw q hq] at this
    cases this
  · rcases List.mem_append.mp q with q | q
    · exact m.nw p q
    · exact m.free (h.nw p q)
  · rcases List.mem_append.mp q with q | q
    · exact h.sm _ _ (m.st p q)
    · exact h.st p q
theorem settles {S : List (Addr × HO)} : ∀ {B : Hp}, Hd B (S ++ L) H → ∃ B', Same B B' ∧ (∀ p ∈ S, B' p.1 = some p.2) ∧ Hd B' L H := by
  induction S with
  | nil => exact fun {B} h => ⟨B, Same.refl _, (fun p m => by cases m), h⟩
  | cons p S ih =>
    intro B h
    obtain ⟨a, o⟩ := p
    obtain ⟨B', s, e, h'⟩ := ih (Hd.settle h)
    refine ⟨B', (Hd.settled h).trans s, fun p m => ?_, h'⟩
    rcases List.mem_cons.mp m with rfl | m
    · exact s _ _ zf
    · exact e p m
end Hd
end L2
namespace K35
open PySem L2
section
variable {P : Program} {w : World} {K : PySem.W.Frag} {mg : Str → Option Value} {base : Heap}
def spStart (K : PySem.W.Frag) : Sp := fun vs H Q _ => ∃ (p : Addr) (ns : List Int) (r : Int), vs = [.ref p, .int r] ∧ SqL K H p (ns.map V.int) ∧ 0 ≤ r ∧ ∀ H', Same H H' → Q (.int (ns.take r.toNat).sum) H'
theorem ok_start (d : zC K mg "start_of" y8 ["lengths", "row"]) (hsum : mg "sum" = none) : Ok P w K mg base CX0 1 "start_of" ["lengths", "row"] (spStart K) := by
  obtain ⟨g, fd, m, F, b⟩ := d
  refine ⟨g, fd, m, F.kp, b, F.ok sc_start_of (fun vs H Q E ⟨_, _, _, e, _⟩ => by rw [e]; rfl) fun cdv A outer s H vs Q E hr h => ?_⟩
  obtain ⟨p, ns, r, rfl, hS, h0, k⟩ := h
  refine ⟨_, (zh (zu (zF (call_sum rfl) (by rfl) hsum PyProof.Rows.boot_sum (za (pe_slice sl_list (pv 0) po_none (po_some (pv 1))) zd)))), ?_⟩
  refine ⟨_, rfl, _, rfl, r, rfl, p, _, rfl, hS, fun l hl => ?_⟩
  rw [cutV_take h0]
  exact ⟨l, _, rfl, SqL.of zf, k _ (zg (Same.refl H) hl)⟩
def zk (lens : List Int) : List Int := (List.range lens.length).map fun r => (lens.take r).sum
def Mc.fresh (lens cells : List Int) (L : Nat) (dust picks : List Int) : Mc where
  lens := lens
  starts := zk lens
  cells := cells
  lanes := L
  nums := List.replicate (8 * L) 0
  masks := List.replicate 16 (List.replicate (4 * L) false)
  slots := []
  dust := dust
  dq := 0
  picks := picks
  pq := 0
  touches := []
  pc := 0
  opened := 0
  many := 0
  group := 1
  base := 0
  begun := 0
  width := 0
  faults := []
  cut := none
  carried := none
  raised := false
  turns := []
  refusal := none
theorem msk_fresh (ms : List Addr) (r : List Bool) : ((ms.zip (List.replicate ms.length r)).map fun p => (p.1, HO.lst (p.2.map V.bl))) = ms.map fun a => (a, HO.lst (r.map V.bl)) := by
  induction ms with
  | nil => rfl
  | cons a ms ih =>
    rw [List.length_cons, List.replicate_succ, List.zip_cons_cons, List.map_cons, List.map_cons, ih]
def spInitN (c : MCs) (K : PySem.W.Frag) : Sp := fun vs H Q _ => ∃ (B : Hp) (x dx l1 l2 l3 l4 : Addr) (lens cells dust picks : List Int) (L : Nat), vs = [.ref x, .ref l1, .ref l2, .int L, .ref l3, .ref l4] ∧ Hd B [(x, .ins c.bn dx [])] H ∧ SqL K B l1 (lens.map V.int) ∧ SqL K B l2 (cells.map V.int) ∧ SqL K B l3 (dust.map V.int) ∧ SqL K B l4 (picks.map V.int) ∧ 1 ≤ L ∧ L ≤ 64 ∧ lens.length ≤ 1000 ∧
  ∀ B' A' H', Same B B' → A'.b = x → MAt c B' A' (Mc.fresh lens cells L dust picks) [] H' → Q .non H'
theorem ok_initN {c : MCs} {t1 t2 : Tok} (d : InitIn K c.bn "Bench.__init__" yI ["self", "lengths", "cells", "lanes", "dust", "picks"]) (CC : MCls K c) (hlist : mg "list" = none) (hlen : mg "len" = none) (hrg : mg "range" = none) (hMT : mg "MOST_TOGETHER" = some (.int 4 t1)) (hMM : mg "MANY_MASKS" = some (.int 16 t2))
    (hCb : mg "Boxes" = some (.ref c.bx)) (hCf : mg "Feed" = some (.ref c.fe)) (SO : Ok P w K mg base CX0 1 "start_of" ["lengths", "row"] (spStart K)) (IB : OkI P w K mg base CX0 1 c.bx ["self", "lanes"] (spInitB c.bx)) (IF : OkI P w K mg base CX0 1 c.fe ["self", "numbers"] (spInitF K c.fe)) :
    OkI P w K mg base CX0 3 c.bn ["self", "lengths", "cells", "lanes", "dust", "picks"] (spInitN c K) := by
  obtain ⟨f, fd, m, F, bd⟩ := d
  refine ⟨f, fd, m, bd, F.ok sc_Bench_init (fun vs H Q E ⟨_, _, _, _, _, _, _, _, _, _, _, _, e, _⟩ => by rw [e]; rfl) fun cdv A outer s H vs Q E hr h => ?_⟩
  obtain ⟨B, x, dx, l1, l2, l3, l4, lens, cells, dust, picks, L, rfl, h, q1, q2, q3, q4, L1, L64, hl, q⟩ := h
  have nd := sc_Bench_init.nd
  have hr2 := hr
  have hr1 := hr.mono (show 1 ≤ 2 by decide)
  have CN := CC.n
  refine ⟨_, (zb (zy (pv 0) (yc yd (by rfl) hlist PyProof.Rows.boot_list (za (pv 1) zd)) rfl)
      (zb (zy (pv 0) (y3 ["row", "lengths"] [none, some 1] rfl rfl rfl (yk rfl hrg (za (zF ye (by rfl) hlen PySem.boot_len (za (pv 1) zd)) zd)) (fun s3 H3 fp => ⟨zI (i := 0) (show ((["row", "lengths"] : List Str)).Nodup by decide +kernel) rfl (Or.inl rfl), (zO SO hr1 (by rfl) zr (za (pv 1) (za (pv 0) zd)))⟩)) rfl)
      (zb (zy (pv 0) (yc yd (by rfl) hlist PyProof.Rows.boot_list (za (pv 2) zd)) rfl)
      (zb (zy (pv 0) (pv 3) rfl)
      (zb (zy (pv 0) (pe_okI IB hCb hr2 (by rfl) zr (za (pv 3) zd)) rfl)
      (zb (zy (pv 0) (y3 ["mask", "lanes"] [none, some 3] rfl rfl rfl (yk rfl hrg (za (pe_gint hMM) zd)) (fun s3 H3 fp => ⟨zI (i := 0) (show ((["mask", "lanes"] : List Str)).Nodup by decide +kernel) rfl (Or.inl rfl), (zi op_rep (yL (za pe_bl zd)) (zi zY (pe_gint hMT) (pv 1)))⟩)) rfl)
      (zb (zy (pv 0) pe_dnewK rfl)
      (zb (zy (pv 0) (pe_okI IF hCf hr2 (by rfl) zr (za (pv 4) zd)) rfl)
      (zb (zy (pv 0) (pe_okI IF hCf hr2 (by rfl) zr (za (pv 5) zd)) rfl)
      (zb (zy (pv 0) (yL zd) rfl)
      (zb (zy (pv 0) zc rfl)
      (zb (zy (pv 0) zc rfl)
      (zb (zy (pv 0) zc rfl)
      (zb (zy (pv 0) zc rfl)
      (zb (zy (pv 0) zc rfl)
      (zb (zy (pv 0) zc rfl)
      (zb (zy (pv 0) zc rfl)
      (zb (zy (pv 0) pe_dnewK rfl)
      (zb (zy (pv 0) yZ rfl)
      (zb (zy (pv 0) yZ rfl)
      (zb (zy (pv 0) pe_bl rfl)
      (zb (zy (pv 0) (yL zd) rfl)
      (zh (zy (pv 0) yZ rfl)))))))))))))))))))))))), ?_⟩
  have SL : (3000 : Nat) < sizeLine := by decide
  have q1 : SqL K B l1 (lens.map V.int) := q1
  refine ⟨_, rfl, l1, _, rfl, .inl (h.sql q1), fun aL nL => ?_⟩
  have h := h.new (o := .lst (lens.map V.int)) nL
  generalize upd H aL (.lst (lens.map V.int)) = H at h ⊢
  replace h : Hd B ([(aL, .lst (lens.map V.int)), (x, .ins c.bn dx [])]) H := h.mv 0
  refine ⟨_, rfl, x, _, _, _, rfl, h.get 1 rfl, CN.c, CN.lengths, (by show 0 < 1000; decide), ?_⟩
  have h := h.put (o' := .ins c.bn dx (zw "lengths" (.ref aL) [])) 1 rfl
  generalize upd _ x (.ins c.bn dx (zw "lengths" (.ref aL) [])) = H at h ⊢
  replace h : Hd B ([(aL, .lst (lens.map V.int)), (x, .ins c.bn dx [("lengths", .ref aL)])]) H := h
  refine ⟨_, rfl, l1, _, rfl, .inl (h.sql q1), _, rfl, (by rw [List.length_map]; omega), (by rw [List.length_map]; omega), _, rfl, fun D nD => ?_⟩
  rw [List.length_map]
  have q1' : SqL K H l1 (lens.map V.int) := h.sql q1
  have h0 : Hd H [(D, .lst ((((List.range 0).map fun r => (lens.take r).sum)).map V.int))] (upd H D (.lst [])) := Hd.base.new nD
  generalize upd H D (.lst []) = H3 at h0 ⊢
  refine yN (n := lens.length) (fun i σ J => ∃ u, σ = [u, some (.ref l1)] ∧ Hd H [(D, .lst ((((List.range i).map fun r => (lens.take r).sum)).map V.int))] J) ⟨none, rfl, h0⟩ ?_ ?_
  · clear h0
    rintro i σ J hi ⟨u, rfl, h⟩
    refine ⟨_, rfl, _, rfl, l1, lens, 0 + (i : Int), rfl, h.sql q1', by omega, fun J1 s1 => ?_⟩
    have h := h.same s1
    refine ⟨_, h.get 0 rfl, (by rw [List.length_map, List.length_map, List.length_range]; omega), _, rfl, ?_⟩
    have h := h.put (o' := .lst ((((List.range (i + 1)).map fun r => (lens.take r).sum)).map V.int)) 0 rfl
    have e : ((List.range (i + 1)).map fun r => (lens.take r).sum).map V.int = ((List.range i).map fun r => (lens.take r).sum).map V.int ++ [V.int (lens.take (0 + (i : Int)).toNat).sum] := by
      rw [List.range_succ, List.map_append, List.map_append, show (0 + (i : Int)).toNat = i by omega]; rfl
    rw [e] at h ⊢
    exact h
  rintro σ H ⟨u, rfl, hD⟩
  have h := (h.join hD).perm List.perm_append_comm
  clear hD h0 nD q1' 
  replace h : Hd B ([(aL, .lst (lens.map V.int)), (D, .lst ((zk lens).map V.int)), (x, .ins c.bn dx [("lengths", .ref aL)])]) H := h.mv 1
  refine ⟨_, rfl, x, _, _, _, rfl, h.get 2 rfl, CN.c, CN.starts, (by show 1 < 1000; decide), ?_⟩
  have h := h.put (o' := .ins c.bn dx (zw "starts" (.ref D) [("lengths", .ref aL)])) 2 rfl
  generalize upd _ x (.ins c.bn dx (zw "starts" (.ref D) [("lengths", .ref aL)])) = H at h ⊢
  replace h : Hd B ([(aL, .lst (lens.map V.int)), (D, .lst ((zk lens).map V.int)), (x, .ins c.bn dx [("lengths", .ref aL), ("starts", .ref D)])]) H := h
  refine ⟨_, rfl, l2, _, rfl, .inl (h.sql q2), fun aC nC => ?_⟩
  have h := h.new (o := .lst (cells.map V.int)) nC
  generalize upd H aC (.lst (cells.map V.int)) = H at h ⊢
  replace h : Hd B ([(aL, .lst (lens.map V.int)), (D, .lst ((zk lens).map V.int)), (x, .ins c.bn dx [("lengths", .ref aL), ("starts", .ref D)]), (aC, .lst (cells.map V.int))]) H := h.mv 3
  refine ⟨_, rfl, x, _, _, _, rfl, h.get 2 rfl, CN.c, CN.cells, (by show 2 < 1000; decide), ?_⟩
  have h := h.put (o' := .ins c.bn dx (zw "cells" (.ref aC) [("lengths", .ref aL), ("starts", .ref D)])) 2 rfl
  generalize upd _ x (.ins c.bn dx (zw "cells" (.ref aC) [("lengths", .ref aL), ("starts", .ref D)])) = H at h ⊢
  replace h : Hd B ([(aL, .lst (lens.map V.int)), (D, .lst ((zk lens).map V.int)), (x, .ins c.bn dx [("lengths", .ref aL), ("starts", .ref D), ("cells", .ref aC)]), (aC, .lst (cells.map V.int))]) H := h
  refine ⟨_, rfl, _, rfl, x, _, _, _, rfl, h.get 2 rfl, CN.c, CN.lanes, (by show 3 < 1000; decide), ?_⟩
  have h := h.put (o' := .ins c.bn dx (zw "lanes" (.int L) [("lengths", .ref aL), ("starts", .ref D), ("cells", .ref aC)])) 2 rfl
  generalize upd _ x (.ins c.bn dx (zw "lanes" (.int L) [("lengths", .ref aL), ("starts", .ref D), ("cells", .ref aC)])) = H at h ⊢
  replace h : Hd B ([(aL, .lst (lens.map V.int)), (D, .lst ((zk lens).map V.int)), (x, .ins c.bn dx [("lengths", .ref aL), ("starts", .ref D), ("cells", .ref aC), ("lanes", .int L)]), (aC, .lst (cells.map V.int))]) H := h
  refine ⟨_, rfl, fun bx dbx nbx ndbx nebx => ?_⟩
  refine ⟨bx, dbx, L, rfl, zf, by omega, by omega, fun H1 aN k nN ebx eN => ⟨rfl, ?_⟩⟩
  have h := (h.made nbx ndbx nebx k nN ebx eN).sub (.cons₂ _ (.cons₂ _ (.cons _ (List.Sublist.refl _))))
  have e8 : (8 * (L : Int)).toNat = 8 * L := by omega
  rw [e8] at h
  clear k nN ebx eN
  generalize H1 = H at h ⊢
  replace h := h.perm (List.Perm.swap _ _ _)
  replace h : Hd B ([(aN, .lst ((List.replicate (8 * L) (0 : Int)).map V.int)), (aL, .lst (lens.map V.int)), (D, .lst ((zk lens).map V.int)), (bx, boxO c.bx dbx L aN), (x, .ins c.bn dx [("lengths", .ref aL), ("starts", .ref D), ("cells", .ref aC), ("lanes", .int L)]), (aC, .lst (cells.map V.int))]) H := h.mv 3
  replace h : Hd B ([(aL, .lst (lens.map V.int)), (D, .lst ((zk lens).map V.int)), (bx, boxO c.bx dbx L aN), (x, .ins c.bn dx [("lengths", .ref aL), ("starts", .ref D), ("cells", .ref aC), ("lanes", .int L)]), (aC, .lst (cells.map V.int)), (aN, .lst ((List.replicate (8 * L) (0 : Int)).map V.int))]) H := h.mv 5
  refine ⟨_, rfl, x, _, _, _, rfl, h.get 3 rfl, CN.c, CN.boxes, (by show 4 < 1000; decide), ?_⟩
  have h := h.put (o' := .ins c.bn dx (zw "boxes" (.ref bx) [("lengths", .ref aL), ("starts", .ref D), ("cells", .ref aC), ("lanes", .int L)])) 3 rfl
  generalize upd _ x (.ins c.bn dx (zw "boxes" (.ref bx) [("lengths", .ref aL), ("starts", .ref D), ("cells", .ref aC), ("lanes", .int L)])) = H at h ⊢
  replace h : Hd B ([(aL, .lst (lens.map V.int)), (D, .lst ((zk lens).map V.int)), (bx, boxO c.bx dbx L aN), (x, .ins c.bn dx [("lengths", .ref aL), ("starts", .ref D), ("cells", .ref aC), ("lanes", .int L), ("boxes", .ref bx)]), (aC, .lst (cells.map V.int)), (aN, .lst ((List.replicate (8 * L) (0 : Int)).map V.int))]) H := h
  have e4 : (4 * (L : Int)).toNat = 4 * L := by omega
  refine ⟨_, rfl, (by decide), (by decide), _, rfl, fun aM nM => ?_⟩
  have h0 : Hd H ((aM, .lst (([] : List Addr).map V.ref)) :: ([] : List Addr).map fun a => (a, HO.lst ((List.replicate (4 * L) false).map V.bl))) (upd H aM (.lst [])) := Hd.base.new nM
  generalize upd H aM (.lst []) = H3 at h0 ⊢
  refine yN (n := 16) (fun i σ J => ∃ u ms, ms.length = i ∧ σ = [u, some (.int L)] ∧ Hd H ((aM, .lst (ms.map V.ref)) :: ms.map fun a => (a, HO.lst ((List.replicate (4 * L) false).map V.bl))) J) ⟨none, [], rfl, rfl, h0⟩ ?_ ?_
  · clear h0
    rintro i σ J hi ⟨u, ms, lm, rfl, h⟩
    refine ⟨(by show 1 ≤ sizeLine; decide), fun t nt => ⟨_, rfl, _, _, rfl, rfl, .inl ⟨by decide, by decide⟩, t, _, _, rfl, rfl, zf, by omega, by omega, ?_, fun l nl => ?_⟩⟩
    · show 1 * (4 * (L : Int)).toNat ≤ sizeLine
      omega
    have h := ((h.waste (o := .lst [.bl false]) nt).fnew (o := .lst (List.replicate (4 * (L : Int)).toNat [V.bl false]).flatten) nl)
    generalize upd _ l _ = J2 at h ⊢
    refine ⟨_, h.get 0 rfl, (by rw [List.length_map]; omega), _, ms ++ [l], (by rw [List.length_append, lm]; rfl), rfl, ?_⟩
    have h := h.fput (o' := .lst ((ms ++ [l]).map V.ref))
    have e : (List.replicate (4 * (L : Int)).toNat [V.bl false]).flatten = (List.replicate (4 * L) false).map V.bl := by
      rw [e4]
      generalize 4 * L = n
      induction n with
      | zero => rfl
      | succ n ih => rw [List.replicate_succ, List.flatten_cons, ih, List.replicate_succ]; rfl
    rw [e] at h
    rw [List.map_append] at h ⊢
    rw [List.map_append]
    exact h.perm (List.Perm.cons _ (List.perm_append_comm (l₁ := [_])))
  rintro σ H ⟨u, ms, lm, rfl, hD⟩
  have hM := hD.tl
  have h := h.join hD
  clear hD h0 nM
  generalize hMS : (ms.map fun a => (a, HO.lst ((List.replicate (4 * L) false).map V.bl))) = MS at h
  replace h := h.perm List.perm_middle
  replace h : Hd B ((aL, .lst (lens.map V.int)) :: (D, .lst ((zk lens).map V.int)) :: (aM, .lst (ms.map V.ref)) :: (bx, boxO c.bx dbx L aN) :: (x, .ins c.bn dx [("lengths", .ref aL), ("starts", .ref D), ("cells", .ref aC), ("lanes", .int L), ("boxes", .ref bx)]) :: (aC, .lst (cells.map V.int)) :: (aN, .lst ((List.replicate (8 * L) (0 : Int)).map V.int)) :: MS) H := h.mv 2
  refine ⟨_, rfl, x, _, _, _, rfl, h.get 4 rfl, CN.c, CN.masks, (by show 5 < 1000; decide), ?_⟩
  have h := h.put (o' := .ins c.bn dx (zw "masks" (.ref aM) [("lengths", .ref aL), ("starts", .ref D), ("cells", .ref aC), ("lanes", .int L), ("boxes", .ref bx)])) 4 rfl
  generalize upd _ x (.ins c.bn dx (zw "masks" (.ref aM) [("lengths", .ref aL), ("starts", .ref D), ("cells", .ref aC), ("lanes", .int L), ("boxes", .ref bx)])) = H at h ⊢
  replace h : Hd B ((aL, .lst (lens.map V.int)) :: (D, .lst ((zk lens).map V.int)) :: (aM, .lst (ms.map V.ref)) :: (bx, boxO c.bx dbx L aN) :: (x, .ins c.bn dx [("lengths", .ref aL), ("starts", .ref D), ("cells", .ref aC), ("lanes", .int L), ("boxes", .ref bx), ("masks", .ref aM)]) :: (aC, .lst (cells.map V.int)) :: (aN, .lst ((List.replicate (8 * L) (0 : Int)).map V.int)) :: MS) H := h
  refine fun aSl nSl => ?_
  have h := h.new (o := .dK []) nSl
  generalize upd H aSl (.dK []) = H at h ⊢
  replace h : Hd B ((aL, .lst (lens.map V.int)) :: (D, .lst ((zk lens).map V.int)) :: (aM, .lst (ms.map V.ref)) :: (bx, boxO c.bx dbx L aN) :: (x, .ins c.bn dx [("lengths", .ref aL), ("starts", .ref D), ("cells", .ref aC), ("lanes", .int L), ("boxes", .ref bx), ("masks", .ref aM)]) :: (aC, .lst (cells.map V.int)) :: (aN, .lst ((List.replicate (8 * L) (0 : Int)).map V.int)) :: (aSl, .dK []) :: MS) H := h.mv 7
  refine ⟨_, rfl, x, _, _, _, rfl, h.get 4 rfl, CN.c, CN.slots, (by show 6 < 1000; decide), ?_⟩
  have h := h.put (o' := .ins c.bn dx (zw "slots" (.ref aSl) [("lengths", .ref aL), ("starts", .ref D), ("cells", .ref aC), ("lanes", .int L), ("boxes", .ref bx), ("masks", .ref aM)])) 4 rfl
  generalize upd _ x (.ins c.bn dx (zw "slots" (.ref aSl) [("lengths", .ref aL), ("starts", .ref D), ("cells", .ref aC), ("lanes", .int L), ("boxes", .ref bx), ("masks", .ref aM)])) = H at h ⊢
  replace h : Hd B ((aL, .lst (lens.map V.int)) :: (D, .lst ((zk lens).map V.int)) :: (aM, .lst (ms.map V.ref)) :: (bx, boxO c.bx dbx L aN) :: (x, .ins c.bn dx [("lengths", .ref aL), ("starts", .ref D), ("cells", .ref aC), ("lanes", .int L), ("boxes", .ref bx), ("masks", .ref aM), ("slots", .ref aSl)]) :: (aC, .lst (cells.map V.int)) :: (aN, .lst ((List.replicate (8 * L) (0 : Int)).map V.int)) :: (aSl, .dK []) :: MS) H := h
  refine ⟨_, rfl, fun fd dfd n1 n2 n3 => ?_⟩
  refine ⟨fd, dfd, l3, dust, rfl, zf, zq (h.sql q3) (((zg (Same.refl _) n2)).trans (zg (Same.refl _) (by rw [zj (Ne.symm n3)]; exact n1))), fun H1 aD k n4 e1 e2 => ⟨rfl, ?_⟩⟩
  have h := (h.made n1 n2 n3 k n4 e1 e2).sub (.cons₂ _ (.cons₂ _ (.cons _ (List.Sublist.refl _))))
  clear k n4 e1 e2
  generalize H1 = H at h ⊢
  replace h : Hd B ((fd, zD c.fe dfd aD 0) :: (aL, .lst (lens.map V.int)) :: (D, .lst ((zk lens).map V.int)) :: (aM, .lst (ms.map V.ref)) :: (bx, boxO c.bx dbx L aN) :: (aD, .lst (dust.map V.int)) :: (x, .ins c.bn dx [("lengths", .ref aL), ("starts", .ref D), ("cells", .ref aC), ("lanes", .int L), ("boxes", .ref bx), ("masks", .ref aM), ("slots", .ref aSl)]) :: (aC, .lst (cells.map V.int)) :: (aN, .lst ((List.replicate (8 * L) (0 : Int)).map V.int)) :: (aSl, .dK []) :: MS) H := h.mv 5
  replace h : Hd B ((aL, .lst (lens.map V.int)) :: (D, .lst ((zk lens).map V.int)) :: (aM, .lst (ms.map V.ref)) :: (bx, boxO c.bx dbx L aN) :: (aD, .lst (dust.map V.int)) :: (x, .ins c.bn dx [("lengths", .ref aL), ("starts", .ref D), ("cells", .ref aC), ("lanes", .int L), ("boxes", .ref bx), ("masks", .ref aM), ("slots", .ref aSl)]) :: (aC, .lst (cells.map V.int)) :: (aN, .lst ((List.replicate (8 * L) (0 : Int)).map V.int)) :: (aSl, .dK []) :: (fd, zD c.fe dfd aD 0) :: MS) H := h.mv 9
  refine ⟨_, rfl, x, _, _, _, rfl, h.get 5 rfl, CN.c, CN.dust, (by show 7 < 1000; decide), ?_⟩
  have h := h.put (o' := .ins c.bn dx (zw "dust" (.ref fd) [("lengths", .ref aL), ("starts", .ref D), ("cells", .ref aC), ("lanes", .int L), ("boxes", .ref bx), ("masks", .ref aM), ("slots", .ref aSl)])) 5 rfl
  generalize upd _ x (.ins c.bn dx (zw "dust" (.ref fd) [("lengths", .ref aL), ("starts", .ref D), ("cells", .ref aC), ("lanes", .int L), ("boxes", .ref bx), ("masks", .ref aM), ("slots", .ref aSl)])) = H at h ⊢
  replace h : Hd B ((aL, .lst (lens.map V.int)) :: (D, .lst ((zk lens).map V.int)) :: (aM, .lst (ms.map V.ref)) :: (bx, boxO c.bx dbx L aN) :: (aD, .lst (dust.map V.int)) :: (x, .ins c.bn dx [("lengths", .ref aL), ("starts", .ref D), ("cells", .ref aC), ("lanes", .int L), ("boxes", .ref bx), ("masks", .ref aM), ("slots", .ref aSl), ("dust", .ref fd)]) :: (aC, .lst (cells.map V.int)) :: (aN, .lst ((List.replicate (8 * L) (0 : Int)).map V.int)) :: (aSl, .dK []) :: (fd, zD c.fe dfd aD 0) :: MS) H := h
  refine ⟨_, rfl, fun fp dfp n1 n2 n3 => ?_⟩
  refine ⟨fp, dfp, l4, picks, rfl, zf, zq (h.sql q4) (((zg (Same.refl _) n2)).trans (zg (Same.refl _) (by rw [zj (Ne.symm n3)]; exact n1))), fun H1 aP k n4 e1 e2 => ⟨rfl, ?_⟩⟩
  have h := (h.made n1 n2 n3 k n4 e1 e2).sub (.cons₂ _ (.cons₂ _ (.cons _ (List.Sublist.refl _))))
  clear k n4 e1 e2
  generalize H1 = H at h ⊢
  replace h : Hd B ((fp, zD c.fe dfp aP 0) :: (aL, .lst (lens.map V.int)) :: (D, .lst ((zk lens).map V.int)) :: (aM, .lst (ms.map V.ref)) :: (bx, boxO c.bx dbx L aN) :: (aD, .lst (dust.map V.int)) :: (aP, .lst (picks.map V.int)) :: (x, .ins c.bn dx [("lengths", .ref aL), ("starts", .ref D), ("cells", .ref aC), ("lanes", .int L), ("boxes", .ref bx), ("masks", .ref aM), ("slots", .ref aSl), ("dust", .ref fd)]) :: (aC, .lst (cells.map V.int)) :: (aN, .lst ((List.replicate (8 * L) (0 : Int)).map V.int)) :: (aSl, .dK []) :: (fd, zD c.fe dfd aD 0) :: MS) H := h.mv 6
  replace h : Hd B ((aL, .lst (lens.map V.int)) :: (D, .lst ((zk lens).map V.int)) :: (aM, .lst (ms.map V.ref)) :: (bx, boxO c.bx dbx L aN) :: (aD, .lst (dust.map V.int)) :: (aP, .lst (picks.map V.int)) :: (x, .ins c.bn dx [("lengths", .ref aL), ("starts", .ref D), ("cells", .ref aC), ("lanes", .int L), ("boxes", .ref bx), ("masks", .ref aM), ("slots", .ref aSl), ("dust", .ref fd)]) :: (aC, .lst (cells.map V.int)) :: (aN, .lst ((List.replicate (8 * L) (0 : Int)).map V.int)) :: (aSl, .dK []) :: (fd, zD c.fe dfd aD 0) :: (fp, zD c.fe dfp aP 0) :: MS) H := h.mv 11
  refine ⟨_, rfl, x, _, _, _, rfl, h.get 6 rfl, CN.c, CN.picks, (by show 8 < 1000; decide), ?_⟩
  have h := h.put (o' := .ins c.bn dx (zw "picks" (.ref fp) [("lengths", .ref aL), ("starts", .ref D), ("cells", .ref aC), ("lanes", .int L), ("boxes", .ref bx), ("masks", .ref aM), ("slots", .ref aSl), ("dust", .ref fd)])) 6 rfl
  generalize upd _ x (.ins c.bn dx (zw "picks" (.ref fp) [("lengths", .ref aL), ("starts", .ref D), ("cells", .ref aC), ("lanes", .int L), ("boxes", .ref bx), ("masks", .ref aM), ("slots", .ref aSl), ("dust", .ref fd)])) = H at h ⊢
  replace h : Hd B ((aL, .lst (lens.map V.int)) :: (D, .lst ((zk lens).map V.int)) :: (aM, .lst (ms.map V.ref)) :: (bx, boxO c.bx dbx L aN) :: (aD, .lst (dust.map V.int)) :: (aP, .lst (picks.map V.int)) :: (x, .ins c.bn dx [("lengths", .ref aL), ("starts", .ref D), ("cells", .ref aC), ("lanes", .int L), ("boxes", .ref bx), ("masks", .ref aM), ("slots", .ref aSl), ("dust", .ref fd), ("picks", .ref fp)]) :: (aC, .lst (cells.map V.int)) :: (aN, .lst ((List.replicate (8 * L) (0 : Int)).map V.int)) :: (aSl, .dK []) :: (fd, zD c.fe dfd aD 0) :: (fp, zD c.fe dfp aP 0) :: MS) H := h
  refine ⟨(by show 0 ≤ sizeLine; exact Nat.zero_le _), fun aT nT => ?_⟩
  have h := h.new (o := .lst []) nT
  generalize upd H aT (.lst []) = H at h ⊢
  replace h : Hd B ((aL, .lst (lens.map V.int)) :: (D, .lst ((zk lens).map V.int)) :: (aM, .lst (ms.map V.ref)) :: (bx, boxO c.bx dbx L aN) :: (aD, .lst (dust.map V.int)) :: (aP, .lst (picks.map V.int)) :: (x, .ins c.bn dx [("lengths", .ref aL), ("starts", .ref D), ("cells", .ref aC), ("lanes", .int L), ("boxes", .ref bx), ("masks", .ref aM), ("slots", .ref aSl), ("dust", .ref fd), ("picks", .ref fp)]) :: (aC, .lst (cells.map V.int)) :: (aN, .lst ((List.replicate (8 * L) (0 : Int)).map V.int)) :: (aSl, .dK []) :: (fd, zD c.fe dfd aD 0) :: (fp, zD c.fe dfp aP 0) :: (aT, .lst []) :: MS) H := h.mv 12
  refine ⟨_, rfl, x, _, _, _, rfl, h.get 6 rfl, CN.c, CN.touches, (by show 9 < 1000; decide), ?_⟩
  have h := h.put (o' := .ins c.bn dx (zw "touches" (.ref aT) [("lengths", .ref aL), ("starts", .ref D), ("cells", .ref aC), ("lanes", .int L), ("boxes", .ref bx), ("masks", .ref aM), ("slots", .ref aSl), ("dust", .ref fd), ("picks", .ref fp)])) 6 rfl
  generalize upd _ x (.ins c.bn dx (zw "touches" (.ref aT) [("lengths", .ref aL), ("starts", .ref D), ("cells", .ref aC), ("lanes", .int L), ("boxes", .ref bx), ("masks", .ref aM), ("slots", .ref aSl), ("dust", .ref fd), ("picks", .ref fp)])) = H at h ⊢
  replace h : Hd B ((aL, .lst (lens.map V.int)) :: (D, .lst ((zk lens).map V.int)) :: (aM, .lst (ms.map V.ref)) :: (bx, boxO c.bx dbx L aN) :: (aD, .lst (dust.map V.int)) :: (aP, .lst (picks.map V.int)) :: (x, .ins c.bn dx [("lengths", .ref aL), ("starts", .ref D), ("cells", .ref aC), ("lanes", .int L), ("boxes", .ref bx), ("masks", .ref aM), ("slots", .ref aSl), ("dust", .ref fd), ("picks", .ref fp), ("touches", .ref aT)]) :: (aC, .lst (cells.map V.int)) :: (aN, .lst ((List.replicate (8 * L) (0 : Int)).map V.int)) :: (aSl, .dK []) :: (fd, zD c.fe dfd aD 0) :: (fp, zD c.fe dfp aP 0) :: (aT, .lst []) :: MS) H := h
  refine ⟨_, rfl, x, _, _, _, rfl, h.get 6 rfl, CN.c, CN.pc, (by show 10 < 1000; decide), ?_⟩
  have h := h.put (o' := .ins c.bn dx (zw "at" (.int 0) [("lengths", .ref aL), ("starts", .ref D), ("cells", .ref aC), ("lanes", .int L), ("boxes", .ref bx), ("masks", .ref aM), ("slots", .ref aSl), ("dust", .ref fd), ("picks", .ref fp), ("touches", .ref aT)])) 6 rfl
  generalize upd _ x (.ins c.bn dx (zw "at" (.int 0) [("lengths", .ref aL), ("starts", .ref D), ("cells", .ref aC), ("lanes", .int L), ("boxes", .ref bx), ("masks", .ref aM), ("slots", .ref aSl), ("dust", .ref fd), ("picks", .ref fp), ("touches", .ref aT)])) = H at h ⊢
  replace h : Hd B ((aL, .lst (lens.map V.int)) :: (D, .lst ((zk lens).map V.int)) :: (aM, .lst (ms.map V.ref)) :: (bx, boxO c.bx dbx L aN) :: (aD, .lst (dust.map V.int)) :: (aP, .lst (picks.map V.int)) :: (x, .ins c.bn dx [("lengths", .ref aL), ("starts", .ref D), ("cells", .ref aC), ("lanes", .int L), ("boxes", .ref bx), ("masks", .ref aM), ("slots", .ref aSl), ("dust", .ref fd), ("picks", .ref fp), ("touches", .ref aT), ("at", .int 0)]) :: (aC, .lst (cells.map V.int)) :: (aN, .lst ((List.replicate (8 * L) (0 : Int)).map V.int)) :: (aSl, .dK []) :: (fd, zD c.fe dfd aD 0) :: (fp, zD c.fe dfp aP 0) :: (aT, .lst []) :: MS) H := h
  refine ⟨_, rfl, x, _, _, _, rfl, h.get 6 rfl, CN.c, CN.opened, (by show 11 < 1000; decide), ?_⟩
  have h := h.put (o' := .ins c.bn dx (zw "opened" (.int 0) [("lengths", .ref aL), ("starts", .ref D), ("cells", .ref aC), ("lanes", .int L), ("boxes", .ref bx), ("masks", .ref aM), ("slots", .ref aSl), ("dust", .ref fd), ("picks", .ref fp), ("touches", .ref aT), ("at", .int 0)])) 6 rfl
  generalize upd _ x (.ins c.bn dx (zw "opened" (.int 0) [("lengths", .ref aL), ("starts", .ref D), ("cells", .ref aC), ("lanes", .int L), ("boxes", .ref bx), ("masks", .ref aM), ("slots", .ref aSl), ("dust", .ref fd), ("picks", .ref fp), ("touches", .ref aT), ("at", .int 0)])) = H at h ⊢
  replace h : Hd B ((aL, .lst (lens.map V.int)) :: (D, .lst ((zk lens).map V.int)) :: (aM, .lst (ms.map V.ref)) :: (bx, boxO c.bx dbx L aN) :: (aD, .lst (dust.map V.int)) :: (aP, .lst (picks.map V.int)) :: (x, .ins c.bn dx [("lengths", .ref aL), ("starts", .ref D), ("cells", .ref aC), ("lanes", .int L), ("boxes", .ref bx), ("masks", .ref aM), ("slots", .ref aSl), ("dust", .ref fd), ("picks", .ref fp), ("touches", .ref aT), ("at", .int 0), ("opened", .int 0)]) :: (aC, .lst (cells.map V.int)) :: (aN, .lst ((List.replicate (8 * L) (0 : Int)).map V.int)) :: (aSl, .dK []) :: (fd, zD c.fe dfd aD 0) :: (fp, zD c.fe dfp aP 0) :: (aT, .lst []) :: MS) H := h
  refine ⟨_, rfl, x, _, _, _, rfl, h.get 6 rfl, CN.c, CN.many, (by show 12 < 1000; decide), ?_⟩
  have h := h.put (o' := .ins c.bn dx (zw "many" (.int 0) [("lengths", .ref aL), ("starts", .ref D), ("cells", .ref aC), ("lanes", .int L), ("boxes", .ref bx), ("masks", .ref aM), ("slots", .ref aSl), ("dust", .ref fd), ("picks", .ref fp), ("touches", .ref aT), ("at", .int 0), ("opened", .int 0)])) 6 rfl
  generalize upd _ x (.ins c.bn dx (zw "many" (.int 0) [("lengths", .ref aL), ("starts", .ref D), ("cells", .ref aC), ("lanes", .int L), ("boxes", .ref bx), ("masks", .ref aM), ("slots", .ref aSl), ("dust", .ref fd), ("picks", .ref fp), ("touches", .ref aT), ("at", .int 0), ("opened", .int 0)])) = H at h ⊢
  replace h : Hd B ((aL, .lst (lens.map V.int)) :: (D, .lst ((zk lens).map V.int)) :: (aM, .lst (ms.map V.ref)) :: (bx, boxO c.bx dbx L aN) :: (aD, .lst (dust.map V.int)) :: (aP, .lst (picks.map V.int)) :: (x, .ins c.bn dx [("lengths", .ref aL), ("starts", .ref D), ("cells", .ref aC), ("lanes", .int L), ("boxes", .ref bx), ("masks", .ref aM), ("slots", .ref aSl), ("dust", .ref fd), ("picks", .ref fp), ("touches", .ref aT), ("at", .int 0), ("opened", .int 0), ("many", .int 0)]) :: (aC, .lst (cells.map V.int)) :: (aN, .lst ((List.replicate (8 * L) (0 : Int)).map V.int)) :: (aSl, .dK []) :: (fd, zD c.fe dfd aD 0) :: (fp, zD c.fe dfp aP 0) :: (aT, .lst []) :: MS) H := h
  refine ⟨_, rfl, x, _, _, _, rfl, h.get 6 rfl, CN.c, CN.group, (by show 13 < 1000; decide), ?_⟩
  have h := h.put (o' := .ins c.bn dx (zw "group" (.int 1) [("lengths", .ref aL), ("starts", .ref D), ("cells", .ref aC), ("lanes", .int L), ("boxes", .ref bx), ("masks", .ref aM), ("slots", .ref aSl), ("dust", .ref fd), ("picks", .ref fp), ("touches", .ref aT), ("at", .int 0), ("opened", .int 0), ("many", .int 0)])) 6 rfl
  generalize upd _ x (.ins c.bn dx (zw "group" (.int 1) [("lengths", .ref aL), ("starts", .ref D), ("cells", .ref aC), ("lanes", .int L), ("boxes", .ref bx), ("masks", .ref aM), ("slots", .ref aSl), ("dust", .ref fd), ("picks", .ref fp), ("touches", .ref aT), ("at", .int 0), ("opened", .int 0), ("many", .int 0)])) = H at h ⊢
  replace h : Hd B ((aL, .lst (lens.map V.int)) :: (D, .lst ((zk lens).map V.int)) :: (aM, .lst (ms.map V.ref)) :: (bx, boxO c.bx dbx L aN) :: (aD, .lst (dust.map V.int)) :: (aP, .lst (picks.map V.int)) :: (x, .ins c.bn dx [("lengths", .ref aL), ("starts", .ref D), ("cells", .ref aC), ("lanes", .int L), ("boxes", .ref bx), ("masks", .ref aM), ("slots", .ref aSl), ("dust", .ref fd), ("picks", .ref fp), ("touches", .ref aT), ("at", .int 0), ("opened", .int 0), ("many", .int 0), ("group", .int 1)]) :: (aC, .lst (cells.map V.int)) :: (aN, .lst ((List.replicate (8 * L) (0 : Int)).map V.int)) :: (aSl, .dK []) :: (fd, zD c.fe dfd aD 0) :: (fp, zD c.fe dfp aP 0) :: (aT, .lst []) :: MS) H := h
  refine ⟨_, rfl, x, _, _, _, rfl, h.get 6 rfl, CN.c, CN.base, (by show 14 < 1000; decide), ?_⟩
  have h := h.put (o' := .ins c.bn dx (zw "base" (.int 0) [("lengths", .ref aL), ("starts", .ref D), ("cells", .ref aC), ("lanes", .int L), ("boxes", .ref bx), ("masks", .ref aM), ("slots", .ref aSl), ("dust", .ref fd), ("picks", .ref fp), ("touches", .ref aT), ("at", .int 0), ("opened", .int 0), ("many", .int 0), ("group", .int 1)])) 6 rfl
  generalize upd _ x (.ins c.bn dx (zw "base" (.int 0) [("lengths", .ref aL), ("starts", .ref D), ("cells", .ref aC), ("lanes", .int L), ("boxes", .ref bx), ("masks", .ref aM), ("slots", .ref aSl), ("dust", .ref fd), ("picks", .ref fp), ("touches", .ref aT), ("at", .int 0), ("opened", .int 0), ("many", .int 0), ("group", .int 1)])) = H at h ⊢
  replace h : Hd B ((aL, .lst (lens.map V.int)) :: (D, .lst ((zk lens).map V.int)) :: (aM, .lst (ms.map V.ref)) :: (bx, boxO c.bx dbx L aN) :: (aD, .lst (dust.map V.int)) :: (aP, .lst (picks.map V.int)) :: (x, .ins c.bn dx [("lengths", .ref aL), ("starts", .ref D), ("cells", .ref aC), ("lanes", .int L), ("boxes", .ref bx), ("masks", .ref aM), ("slots", .ref aSl), ("dust", .ref fd), ("picks", .ref fp), ("touches", .ref aT), ("at", .int 0), ("opened", .int 0), ("many", .int 0), ("group", .int 1), ("base", .int 0)]) :: (aC, .lst (cells.map V.int)) :: (aN, .lst ((List.replicate (8 * L) (0 : Int)).map V.int)) :: (aSl, .dK []) :: (fd, zD c.fe dfd aD 0) :: (fp, zD c.fe dfp aP 0) :: (aT, .lst []) :: MS) H := h
  refine ⟨_, rfl, x, _, _, _, rfl, h.get 6 rfl, CN.c, CN.begun, (by show 15 < 1000; decide), ?_⟩
  have h := h.put (o' := .ins c.bn dx (zw "begun" (.int 0) [("lengths", .ref aL), ("starts", .ref D), ("cells", .ref aC), ("lanes", .int L), ("boxes", .ref bx), ("masks", .ref aM), ("slots", .ref aSl), ("dust", .ref fd), ("picks", .ref fp), ("touches", .ref aT), ("at", .int 0), ("opened", .int 0), ("many", .int 0), ("group", .int 1), ("base", .int 0)])) 6 rfl
  generalize upd _ x (.ins c.bn dx (zw "begun" (.int 0) [("lengths", .ref aL), ("starts", .ref D), ("cells", .ref aC), ("lanes", .int L), ("boxes", .ref bx), ("masks", .ref aM), ("slots", .ref aSl), ("dust", .ref fd), ("picks", .ref fp), ("touches", .ref aT), ("at", .int 0), ("opened", .int 0), ("many", .int 0), ("group", .int 1), ("base", .int 0)])) = H at h ⊢
  replace h : Hd B ((aL, .lst (lens.map V.int)) :: (D, .lst ((zk lens).map V.int)) :: (aM, .lst (ms.map V.ref)) :: (bx, boxO c.bx dbx L aN) :: (aD, .lst (dust.map V.int)) :: (aP, .lst (picks.map V.int)) :: (x, .ins c.bn dx [("lengths", .ref aL), ("starts", .ref D), ("cells", .ref aC), ("lanes", .int L), ("boxes", .ref bx), ("masks", .ref aM), ("slots", .ref aSl), ("dust", .ref fd), ("picks", .ref fp), ("touches", .ref aT), ("at", .int 0), ("opened", .int 0), ("many", .int 0), ("group", .int 1), ("base", .int 0), ("begun", .int 0)]) :: (aC, .lst (cells.map V.int)) :: (aN, .lst ((List.replicate (8 * L) (0 : Int)).map V.int)) :: (aSl, .dK []) :: (fd, zD c.fe dfd aD 0) :: (fp, zD c.fe dfp aP 0) :: (aT, .lst []) :: MS) H := h
  refine ⟨_, rfl, x, _, _, _, rfl, h.get 6 rfl, CN.c, CN.width, (by show 16 < 1000; decide), ?_⟩
  have h := h.put (o' := .ins c.bn dx (zw "width" (.int 0) [("lengths", .ref aL), ("starts", .ref D), ("cells", .ref aC), ("lanes", .int L), ("boxes", .ref bx), ("masks", .ref aM), ("slots", .ref aSl), ("dust", .ref fd), ("picks", .ref fp), ("touches", .ref aT), ("at", .int 0), ("opened", .int 0), ("many", .int 0), ("group", .int 1), ("base", .int 0), ("begun", .int 0)])) 6 rfl
  generalize upd _ x (.ins c.bn dx (zw "width" (.int 0) [("lengths", .ref aL), ("starts", .ref D), ("cells", .ref aC), ("lanes", .int L), ("boxes", .ref bx), ("masks", .ref aM), ("slots", .ref aSl), ("dust", .ref fd), ("picks", .ref fp), ("touches", .ref aT), ("at", .int 0), ("opened", .int 0), ("many", .int 0), ("group", .int 1), ("base", .int 0), ("begun", .int 0)])) = H at h ⊢
  replace h : Hd B ((aL, .lst (lens.map V.int)) :: (D, .lst ((zk lens).map V.int)) :: (aM, .lst (ms.map V.ref)) :: (bx, boxO c.bx dbx L aN) :: (aD, .lst (dust.map V.int)) :: (aP, .lst (picks.map V.int)) :: (x, .ins c.bn dx [("lengths", .ref aL), ("starts", .ref D), ("cells", .ref aC), ("lanes", .int L), ("boxes", .ref bx), ("masks", .ref aM), ("slots", .ref aSl), ("dust", .ref fd), ("picks", .ref fp), ("touches", .ref aT), ("at", .int 0), ("opened", .int 0), ("many", .int 0), ("group", .int 1), ("base", .int 0), ("begun", .int 0), ("width", .int 0)]) :: (aC, .lst (cells.map V.int)) :: (aN, .lst ((List.replicate (8 * L) (0 : Int)).map V.int)) :: (aSl, .dK []) :: (fd, zD c.fe dfd aD 0) :: (fp, zD c.fe dfp aP 0) :: (aT, .lst []) :: MS) H := h
  refine fun aF nF => ?_
  have h := h.new (o := .dK []) nF
  generalize upd H aF (.dK []) = H at h ⊢
  replace h : Hd B ((aL, .lst (lens.map V.int)) :: (D, .lst ((zk lens).map V.int)) :: (aM, .lst (ms.map V.ref)) :: (bx, boxO c.bx dbx L aN) :: (aD, .lst (dust.map V.int)) :: (aP, .lst (picks.map V.int)) :: (x, .ins c.bn dx [("lengths", .ref aL), ("starts", .ref D), ("cells", .ref aC), ("lanes", .int L), ("boxes", .ref bx), ("masks", .ref aM), ("slots", .ref aSl), ("dust", .ref fd), ("picks", .ref fp), ("touches", .ref aT), ("at", .int 0), ("opened", .int 0), ("many", .int 0), ("group", .int 1), ("base", .int 0), ("begun", .int 0), ("width", .int 0)]) :: (aC, .lst (cells.map V.int)) :: (aN, .lst ((List.replicate (8 * L) (0 : Int)).map V.int)) :: (aSl, .dK []) :: (fd, zD c.fe dfd aD 0) :: (fp, zD c.fe dfp aP 0) :: (aT, .lst []) :: (aF, .dK []) :: MS) H := h.mv 13
  refine ⟨_, rfl, x, _, _, _, rfl, h.get 6 rfl, CN.c, CN.faults, (by show 17 < 1000; decide), ?_⟩
  have h := h.put (o' := .ins c.bn dx (zw "faults" (.ref aF) [("lengths", .ref aL), ("starts", .ref D), ("cells", .ref aC), ("lanes", .int L), ("boxes", .ref bx), ("masks", .ref aM), ("slots", .ref aSl), ("dust", .ref fd), ("picks", .ref fp), ("touches", .ref aT), ("at", .int 0), ("opened", .int 0), ("many", .int 0), ("group", .int 1), ("base", .int 0), ("begun", .int 0), ("width", .int 0)])) 6 rfl
  generalize upd _ x (.ins c.bn dx (zw "faults" (.ref aF) [("lengths", .ref aL), ("starts", .ref D), ("cells", .ref aC), ("lanes", .int L), ("boxes", .ref bx), ("masks", .ref aM), ("slots", .ref aSl), ("dust", .ref fd), ("picks", .ref fp), ("touches", .ref aT), ("at", .int 0), ("opened", .int 0), ("many", .int 0), ("group", .int 1), ("base", .int 0), ("begun", .int 0), ("width", .int 0)])) = H at h ⊢
  replace h : Hd B ((aL, .lst (lens.map V.int)) :: (D, .lst ((zk lens).map V.int)) :: (aM, .lst (ms.map V.ref)) :: (bx, boxO c.bx dbx L aN) :: (aD, .lst (dust.map V.int)) :: (aP, .lst (picks.map V.int)) :: (x, .ins c.bn dx [("lengths", .ref aL), ("starts", .ref D), ("cells", .ref aC), ("lanes", .int L), ("boxes", .ref bx), ("masks", .ref aM), ("slots", .ref aSl), ("dust", .ref fd), ("picks", .ref fp), ("touches", .ref aT), ("at", .int 0), ("opened", .int 0), ("many", .int 0), ("group", .int 1), ("base", .int 0), ("begun", .int 0), ("width", .int 0), ("faults", .ref aF)]) :: (aC, .lst (cells.map V.int)) :: (aN, .lst ((List.replicate (8 * L) (0 : Int)).map V.int)) :: (aSl, .dK []) :: (fd, zD c.fe dfd aD 0) :: (fp, zD c.fe dfp aP 0) :: (aT, .lst []) :: (aF, .dK []) :: MS) H := h
  refine ⟨_, rfl, x, _, _, _, rfl, h.get 6 rfl, CN.c, CN.cut, (by show 18 < 1000; decide), ?_⟩
  have h := h.put (o' := .ins c.bn dx (zw "cut" (.non) [("lengths", .ref aL), ("starts", .ref D), ("cells", .ref aC), ("lanes", .int L), ("boxes", .ref bx), ("masks", .ref aM), ("slots", .ref aSl), ("dust", .ref fd), ("picks", .ref fp), ("touches", .ref aT), ("at", .int 0), ("opened", .int 0), ("many", .int 0), ("group", .int 1), ("base", .int 0), ("begun", .int 0), ("width", .int 0), ("faults", .ref aF)])) 6 rfl
  generalize upd _ x (.ins c.bn dx (zw "cut" (.non) [("lengths", .ref aL), ("starts", .ref D), ("cells", .ref aC), ("lanes", .int L), ("boxes", .ref bx), ("masks", .ref aM), ("slots", .ref aSl), ("dust", .ref fd), ("picks", .ref fp), ("touches", .ref aT), ("at", .int 0), ("opened", .int 0), ("many", .int 0), ("group", .int 1), ("base", .int 0), ("begun", .int 0), ("width", .int 0), ("faults", .ref aF)])) = H at h ⊢
  replace h : Hd B ((aL, .lst (lens.map V.int)) :: (D, .lst ((zk lens).map V.int)) :: (aM, .lst (ms.map V.ref)) :: (bx, boxO c.bx dbx L aN) :: (aD, .lst (dust.map V.int)) :: (aP, .lst (picks.map V.int)) :: (x, .ins c.bn dx [("lengths", .ref aL), ("starts", .ref D), ("cells", .ref aC), ("lanes", .int L), ("boxes", .ref bx), ("masks", .ref aM), ("slots", .ref aSl), ("dust", .ref fd), ("picks", .ref fp), ("touches", .ref aT), ("at", .int 0), ("opened", .int 0), ("many", .int 0), ("group", .int 1), ("base", .int 0), ("begun", .int 0), ("width", .int 0), ("faults", .ref aF), ("cut", .non)]) :: (aC, .lst (cells.map V.int)) :: (aN, .lst ((List.replicate (8 * L) (0 : Int)).map V.int)) :: (aSl, .dK []) :: (fd, zD c.fe dfd aD 0) :: (fp, zD c.fe dfp aP 0) :: (aT, .lst []) :: (aF, .dK []) :: MS) H := h
  refine ⟨_, rfl, x, _, _, _, rfl, h.get 6 rfl, CN.c, CN.carried, (by show 19 < 1000; decide), ?_⟩
  have h := h.put (o' := .ins c.bn dx (zw "carried" (.non) [("lengths", .ref aL), ("starts", .ref D), ("cells", .ref aC), ("lanes", .int L), ("boxes", .ref bx), ("masks", .ref aM), ("slots", .ref aSl), ("dust", .ref fd), ("picks", .ref fp), ("touches", .ref aT), ("at", .int 0), ("opened", .int 0), ("many", .int 0), ("group", .int 1), ("base", .int 0), ("begun", .int 0), ("width", .int 0), ("faults", .ref aF), ("cut", .non)])) 6 rfl
  generalize upd _ x (.ins c.bn dx (zw "carried" (.non) [("lengths", .ref aL), ("starts", .ref D), ("cells", .ref aC), ("lanes", .int L), ("boxes", .ref bx), ("masks", .ref aM), ("slots", .ref aSl), ("dust", .ref fd), ("picks", .ref fp), ("touches", .ref aT), ("at", .int 0), ("opened", .int 0), ("many", .int 0), ("group", .int 1), ("base", .int 0), ("begun", .int 0), ("width", .int 0), ("faults", .ref aF), ("cut", .non)])) = H at h ⊢
  replace h : Hd B ((aL, .lst (lens.map V.int)) :: (D, .lst ((zk lens).map V.int)) :: (aM, .lst (ms.map V.ref)) :: (bx, boxO c.bx dbx L aN) :: (aD, .lst (dust.map V.int)) :: (aP, .lst (picks.map V.int)) :: (x, .ins c.bn dx [("lengths", .ref aL), ("starts", .ref D), ("cells", .ref aC), ("lanes", .int L), ("boxes", .ref bx), ("masks", .ref aM), ("slots", .ref aSl), ("dust", .ref fd), ("picks", .ref fp), ("touches", .ref aT), ("at", .int 0), ("opened", .int 0), ("many", .int 0), ("group", .int 1), ("base", .int 0), ("begun", .int 0), ("width", .int 0), ("faults", .ref aF), ("cut", .non), ("carried", .non)]) :: (aC, .lst (cells.map V.int)) :: (aN, .lst ((List.replicate (8 * L) (0 : Int)).map V.int)) :: (aSl, .dK []) :: (fd, zD c.fe dfd aD 0) :: (fp, zD c.fe dfp aP 0) :: (aT, .lst []) :: (aF, .dK []) :: MS) H := h
  refine ⟨_, rfl, x, _, _, _, rfl, h.get 6 rfl, CN.c, CN.raised, (by show 20 < 1000; decide), ?_⟩
  have h := h.put (o' := .ins c.bn dx (zw "raised" (.bl false) [("lengths", .ref aL), ("starts", .ref D), ("cells", .ref aC), ("lanes", .int L), ("boxes", .ref bx), ("masks", .ref aM), ("slots", .ref aSl), ("dust", .ref fd), ("picks", .ref fp), ("touches", .ref aT), ("at", .int 0), ("opened", .int 0), ("many", .int 0), ("group", .int 1), ("base", .int 0), ("begun", .int 0), ("width", .int 0), ("faults", .ref aF), ("cut", .non), ("carried", .non)])) 6 rfl
  generalize upd _ x (.ins c.bn dx (zw "raised" (.bl false) [("lengths", .ref aL), ("starts", .ref D), ("cells", .ref aC), ("lanes", .int L), ("boxes", .ref bx), ("masks", .ref aM), ("slots", .ref aSl), ("dust", .ref fd), ("picks", .ref fp), ("touches", .ref aT), ("at", .int 0), ("opened", .int 0), ("many", .int 0), ("group", .int 1), ("base", .int 0), ("begun", .int 0), ("width", .int 0), ("faults", .ref aF), ("cut", .non), ("carried", .non)])) = H at h ⊢
  replace h : Hd B ((aL, .lst (lens.map V.int)) :: (D, .lst ((zk lens).map V.int)) :: (aM, .lst (ms.map V.ref)) :: (bx, boxO c.bx dbx L aN) :: (aD, .lst (dust.map V.int)) :: (aP, .lst (picks.map V.int)) :: (x, .ins c.bn dx [("lengths", .ref aL), ("starts", .ref D), ("cells", .ref aC), ("lanes", .int L), ("boxes", .ref bx), ("masks", .ref aM), ("slots", .ref aSl), ("dust", .ref fd), ("picks", .ref fp), ("touches", .ref aT), ("at", .int 0), ("opened", .int 0), ("many", .int 0), ("group", .int 1), ("base", .int 0), ("begun", .int 0), ("width", .int 0), ("faults", .ref aF), ("cut", .non), ("carried", .non), ("raised", .bl false)]) :: (aC, .lst (cells.map V.int)) :: (aN, .lst ((List.replicate (8 * L) (0 : Int)).map V.int)) :: (aSl, .dK []) :: (fd, zD c.fe dfd aD 0) :: (fp, zD c.fe dfp aP 0) :: (aT, .lst []) :: (aF, .dK []) :: MS) H := h
  refine ⟨(by show 0 ≤ sizeLine; exact Nat.zero_le _), fun aU nU => ?_⟩
  have h := h.new (o := .lst []) nU
  generalize upd H aU (.lst []) = H at h ⊢
  replace h : Hd B ((aL, .lst (lens.map V.int)) :: (D, .lst ((zk lens).map V.int)) :: (aM, .lst (ms.map V.ref)) :: (bx, boxO c.bx dbx L aN) :: (aD, .lst (dust.map V.int)) :: (aP, .lst (picks.map V.int)) :: (x, .ins c.bn dx [("lengths", .ref aL), ("starts", .ref D), ("cells", .ref aC), ("lanes", .int L), ("boxes", .ref bx), ("masks", .ref aM), ("slots", .ref aSl), ("dust", .ref fd), ("picks", .ref fp), ("touches", .ref aT), ("at", .int 0), ("opened", .int 0), ("many", .int 0), ("group", .int 1), ("base", .int 0), ("begun", .int 0), ("width", .int 0), ("faults", .ref aF), ("cut", .non), ("carried", .non), ("raised", .bl false)]) :: (aC, .lst (cells.map V.int)) :: (aN, .lst ((List.replicate (8 * L) (0 : Int)).map V.int)) :: (aSl, .dK []) :: (fd, zD c.fe dfd aD 0) :: (fp, zD c.fe dfp aP 0) :: (aT, .lst []) :: (aF, .dK []) :: (aU, .lst []) :: MS) H := h.mv 14
  refine ⟨_, rfl, x, _, _, _, rfl, h.get 6 rfl, CN.c, CN.turns, (by show 21 < 1000; decide), ?_⟩
  have h := h.put (o' := .ins c.bn dx (zw "turns" (.ref aU) [("lengths", .ref aL), ("starts", .ref D), ("cells", .ref aC), ("lanes", .int L), ("boxes", .ref bx), ("masks", .ref aM), ("slots", .ref aSl), ("dust", .ref fd), ("picks", .ref fp), ("touches", .ref aT), ("at", .int 0), ("opened", .int 0), ("many", .int 0), ("group", .int 1), ("base", .int 0), ("begun", .int 0), ("width", .int 0), ("faults", .ref aF), ("cut", .non), ("carried", .non), ("raised", .bl false)])) 6 rfl
  generalize upd _ x (.ins c.bn dx (zw "turns" (.ref aU) [("lengths", .ref aL), ("starts", .ref D), ("cells", .ref aC), ("lanes", .int L), ("boxes", .ref bx), ("masks", .ref aM), ("slots", .ref aSl), ("dust", .ref fd), ("picks", .ref fp), ("touches", .ref aT), ("at", .int 0), ("opened", .int 0), ("many", .int 0), ("group", .int 1), ("base", .int 0), ("begun", .int 0), ("width", .int 0), ("faults", .ref aF), ("cut", .non), ("carried", .non), ("raised", .bl false)])) = H at h ⊢
  replace h : Hd B ((aL, .lst (lens.map V.int)) :: (D, .lst ((zk lens).map V.int)) :: (aM, .lst (ms.map V.ref)) :: (bx, boxO c.bx dbx L aN) :: (aD, .lst (dust.map V.int)) :: (aP, .lst (picks.map V.int)) :: (x, .ins c.bn dx [("lengths", .ref aL), ("starts", .ref D), ("cells", .ref aC), ("lanes", .int L), ("boxes", .ref bx), ("masks", .ref aM), ("slots", .ref aSl), ("dust", .ref fd), ("picks", .ref fp), ("touches", .ref aT), ("at", .int 0), ("opened", .int 0), ("many", .int 0), ("group", .int 1), ("base", .int 0), ("begun", .int 0), ("width", .int 0), ("faults", .ref aF), ("cut", .non), ("carried", .non), ("raised", .bl false), ("turns", .ref aU)]) :: (aC, .lst (cells.map V.int)) :: (aN, .lst ((List.replicate (8 * L) (0 : Int)).map V.int)) :: (aSl, .dK []) :: (fd, zD c.fe dfd aD 0) :: (fp, zD c.fe dfp aP 0) :: (aT, .lst []) :: (aF, .dK []) :: (aU, .lst []) :: MS) H := h
  refine ⟨_, rfl, x, _, _, _, rfl, h.get 6 rfl, CN.c, CN.refusal, (by show 22 < 1000; decide), ?_⟩
  have h := h.put (o' := .ins c.bn dx (zw "refusal" (.non) [("lengths", .ref aL), ("starts", .ref D), ("cells", .ref aC), ("lanes", .int L), ("boxes", .ref bx), ("masks", .ref aM), ("slots", .ref aSl), ("dust", .ref fd), ("picks", .ref fp), ("touches", .ref aT), ("at", .int 0), ("opened", .int 0), ("many", .int 0), ("group", .int 1), ("base", .int 0), ("begun", .int 0), ("width", .int 0), ("faults", .ref aF), ("cut", .non), ("carried", .non), ("raised", .bl false), ("turns", .ref aU)])) 6 rfl
  generalize upd _ x (.ins c.bn dx (zw "refusal" (.non) [("lengths", .ref aL), ("starts", .ref D), ("cells", .ref aC), ("lanes", .int L), ("boxes", .ref bx), ("masks", .ref aM), ("slots", .ref aSl), ("dust", .ref fd), ("picks", .ref fp), ("touches", .ref aT), ("at", .int 0), ("opened", .int 0), ("many", .int 0), ("group", .int 1), ("base", .int 0), ("begun", .int 0), ("width", .int 0), ("faults", .ref aF), ("cut", .non), ("carried", .non), ("raised", .bl false), ("turns", .ref aU)])) = H at h ⊢
  replace h : Hd B ((aL, .lst (lens.map V.int)) :: (D, .lst ((zk lens).map V.int)) :: (aM, .lst (ms.map V.ref)) :: (bx, boxO c.bx dbx L aN) :: (aD, .lst (dust.map V.int)) :: (aP, .lst (picks.map V.int)) :: (x, .ins c.bn dx [("lengths", .ref aL), ("starts", .ref D), ("cells", .ref aC), ("lanes", .int L), ("boxes", .ref bx), ("masks", .ref aM), ("slots", .ref aSl), ("dust", .ref fd), ("picks", .ref fp), ("touches", .ref aT), ("at", .int 0), ("opened", .int 0), ("many", .int 0), ("group", .int 1), ("base", .int 0), ("begun", .int 0), ("width", .int 0), ("faults", .ref aF), ("cut", .non), ("carried", .non), ("raised", .bl false), ("turns", .ref aU), ("refusal", .non)]) :: (aC, .lst (cells.map V.int)) :: (aN, .lst ((List.replicate (8 * L) (0 : Int)).map V.int)) :: (aSl, .dK []) :: (fd, zD c.fe dfd aD 0) :: (fp, zD c.fe dfp aP 0) :: (aT, .lst []) :: (aF, .dK []) :: (aU, .lst []) :: MS) H := h
  obtain ⟨B', sB, eB, h⟩ := Hd.settles (S := [_, _, _, _, _, _]) h
  refine q B' ⟨x, dx, aL, D, aC, bx, dbx, aN, aM, aSl, fd, dfd, aD, fp, dfp, aP, aT, aF, aU, ms, [], [], .non⟩ H sB rfl ⟨⟨eB _ (.head _), eB _ (.tail _ (.head _)), eB _ (.tail _ (.tail _ (.tail _ (.head _)))), eB _ (.tail _ (.tail _ (.head _))), ?_, eB _ (.tail _ (.tail _ (.tail _ (.tail _ (.head _))))), eB _ (.tail _ (.tail _ (.tail _ (.tail _ (.tail _ (.head _)))))), rfl, (fun i t p a => nomatch a), rfl, (fun i t p a => nomatch a), rfl⟩, ?_⟩
  · show ms.length = (List.replicate 16 _).length
    rw [lm, List.length_replicate]
  · unfold objs
    have e0 : ∀ ns : List Int, fAt ns 0 = 0 := fun ns => by unfold fAt; rw [Nat.zero_mod]; split <;> rfl
    have em : mskO ⟨x, dx, aL, D, aC, bx, dbx, aN, aM, aSl, fd, dfd, aD, fp, dfp, aP, aT, aF, aU, ms, [], [], .non⟩ (Mc.fresh lens cells L dust picks) = MS := by
      rw [← hMS]
      show (ms.zip (List.replicate 16 _)).map _ = _
      rw [← lm]
      exact msk_fresh ms _
    rw [em, List.append_nil]
    show Hd B' (_ :: _ :: _ :: _ :: (fd, zD c.fe dfd aD (fAt dust 0)) :: (fp, zD c.fe dfp aP (fAt picks 0)) :: _ :: _ :: _ :: MS) H
    rw [e0, e0]
    exact h
end
end K35
namespace K35
open PySem L2
inductive Run (L : Lex) (code : List (List V)) : Nat → Mc → Mc → Prop
  | done {M} : (code.length : Int) ≤ M.pc ∨ M.refusal.isSome = true → Run L code 0 M M
  | step {n M M1 Mf tv} : 0 ≤ M.pc → M.refusal = none → code[M.pc.toNat]? = some tv → Step L tv M M1 → Run L code n M1 Mf → Run L code (n + 1) M Mf
structure CodeAt (B : Hp) (cs : List Addr) (code : List (List V)) : Prop where
  n : cs.length = code.length
  t : ∀ (i : Nat) a tv, cs[i]? = some a → code[i]? = some tv → B a = some (.tup tv)
section
variable {P : Program} {w : World} {K : PySem.W.Frag} {mg : Str → Option Value} {base : Heap}
def spRan (c : MCs) (K : PySem.W.Frag) (Lx : Lex) : Sp := fun vs H Q _ => ∃ (a l1 l2 l3 l4 : Addr) (cs : List Addr) (code : List (List V)) (lens cells dust picks : List Int) (L n : Nat) (Mf : Mc), vs = [.ref a, .ref l1, .ref l2, .int L, .ref l3, .ref l4] ∧ SqL K H a (cs.map V.ref) ∧ CodeAt H cs code ∧ SqL K H l1 (lens.map V.int) ∧ SqL K H l2 (cells.map V.int) ∧ SqL K H l3 (dust.map V.int) ∧ SqL K H l4 (picks.map V.int) ∧ 1 ≤ L ∧ L ≤ 64 ∧ lens.length ≤ 1000 ∧ code.length ≤ 1000 ∧ Run Lx code n (Mc.fresh lens cells L dust picks) Mf ∧
  ∀ B' A' H' t, Same H B' → MAt c B' A' Mf [] H' → B' t = some (.tup [.ref A'.aC, A'.rf, .ref A'.aT]) → Q (.ref t) H'
theorem ok_ran {c : MCs} {Lx : Lex} (d : zC K mg "ran" s_ran ["code", "lengths", "cells", "lanes", "dust", "picks"]) (CC : MCls K c) (hlen : mg "len" = none) (hCn : mg "Bench" = some (.ref c.bn)) (IN : OkI P w K mg base CX0 3 c.bn ["self", "lengths", "cells", "lanes", "dust", "picks"] (spInitN c K)) (PB : Ok P w K mg base CX0 9 "place_behind" ["bench", "step"] (spPB c Lx)) :
    Ok P w K mg base CX0 10 "ran" ["code", "lengths", "cells", "lanes", "dust", "picks"] (spRan c K Lx) := by
  obtain ⟨g, fd, m, F, b⟩ := d
  refine ⟨g, fd, m, F.kp, b, F.ok sc_ran (fun vs H Q E ⟨_, _, _, _, _, _, _, _, _, _, _, _, _, _, e, _⟩ => by rw [e]; rfl) fun cdv A outer s H vs Q E hr h => ?_⟩
  obtain ⟨a, l1, l2, l3, l4, cs, code, lens, cells, dust, picks, L, n, Mf, rfl, qa, CA, q1, q2, q3, q4, L1, L64, hl, hcl, run, q⟩ := h
  have nd := sc_ran.nd
  have hr6 := hr
  have hr4 := hr.mono (show 4 ≤ 9 by decide)
  have CN := CC.n
  refine ⟨_, (zb (zt (i := 6) nd rfl (Or.inl rfl) (pe_okI IN hCn hr4 (by rfl) zr (za (pv 1) (za (pv 2) (za (pv 3) (za (pv 4) (za (pv 5) zd)))))))
      (zb (ps_while PassesOwn.never (pw_and (zX op_lt (zp (pv 6) rfl) (zF ye (by rfl) hlen PySem.boot_len (za (pv 0) zd)) (zW _)) (xg (zX op_isN (zp (pv 6) rfl) yZ (zW _)))).pt (zh (zy (pv 6) (zO PB hr6 (by rfl) zr (za (pv 6) (za (zE zB (pv 0) (zp (pv 6) rfl) (fun _ _ => rfl)) zd))) rfl)))
      (zh (zu (yJ (za (zp (pv 6) rfl) (za (zp (pv 6) rfl) (za (zp (pv 6) rfl) zd)))))))), ?_⟩
  refine ⟨_, rfl, _, rfl, _, rfl, _, rfl, _, rfl, fun x dx nx ndx ne => ?_⟩
  have s0 : Same H (upd H dx (.own x)) := zg (Same.refl _) ndx
  have h0 : Hd (upd H dx (.own x)) [(x, .ins c.bn dx [])] (upd (upd H dx (.own x)) x (.ins c.bn dx [])) := Hd.base.new (by rw [zj (Ne.symm ne)]; exact nx)
  refine ⟨upd H dx (.own x), x, dx, l1, l2, l3, l4, lens, cells, dust, picks, L, rfl, h0, zq q1 s0, zq q2 s0, zq q3 s0, zq q4 s0, L1, L64, hl, fun B1 A1 H1 s1 eb m1 => ⟨rfl, ?_⟩⟩
  have sH : Same H B1 := s0.trans s1
  have SQ : ∀ {B2 : Hp} {A2 : Ma} {M : Mc} {H2 : Hp}, Same H B2 → MAt c B2 A2 M [] H2 → SqL K H2 a (cs.map V.ref) := fun s2 m2 => zq (zq qa s2) m2.h.sm
  refine ⟨fun k σ J => ∃ B2 A2 M, σ = [some (.ref a), some (.ref l1), some (.ref l2), some (.int L), some (.ref l3), some (.ref l4), some (.ref x)] ∧ Same H B2 ∧ A2.b = x ∧ MAt c B2 A2 M [] J ∧ Run Lx code k M Mf, ⟨n, B1, A1, _, rfl, sH, eb, m1, run⟩, ?_⟩
  rintro k σ J ⟨B2, A2, M, rfl, s2, eb2, m2, run⟩
  have lcs : (cs.map V.ref).length = code.length := by rw [List.length_map]; exact CA.n
  have rfn : M.refusal = none → A2.rf = .non := fun z => by have := m2.bb.rf; rw [z] at this; exact this
  have rfs : M.refusal.isSome = true → ∃ t, A2.rf = .ref t := fun z => by
    have := m2.bb.rf
    cases e : M.refusal with
    | none => rw [e] at z; cases z
    | some r => rw [e] at this; obtain ⟨t, y, _⟩ := this; exact ⟨t, y⟩
  refine ⟨_, rfl, A2.b, _, _, _, .int M.pc, by rw [eb2], m2.b, CN.c, CN.pc, rfl, _, rfl, a, _, rfl, .inl (SQ s2 m2), _, _, rfl, rfl, _, rfl, ?_⟩
  rw [lcs]
  have fin : Run Lx code 0 M Mf → Mf = M := fun z => by cases z; rfl
  cases run with
  | done hd =>
    have ret : ∀ J', J' = J → tRet (tTup (tCons (tFld K (tVar 6) "cells") (tCons (tFld K (tVar 6) "refusal") (tCons (tFld K (tVar 6) "touches") tNil)))) ⟨fun _ H' => Q V.non H', Q, fun _ _ => False, fun _ _ => False⟩ [some (.ref a), some (.ref l1), some (.ref l2), some (.int L), some (.ref l3), some (.ref l4), some (.ref x)] J' := by
      rintro J' rfl
      refine ⟨_, rfl, A2.b, _, _, _, .ref A2.aC, by rw [eb2], m2.b, CN.c, CN.cells, rfl, _, rfl, A2.b, _, _, _, A2.rf, by rw [eb2], m2.b, CN.c, CN.refusal, rfl, _, rfl, A2.b, _, _, _, .ref A2.aT, by rw [eb2], m2.b, CN.c, CN.touches, rfl, (by show 3 ≤ sizeLine; decide), fun t nt => ?_⟩
      exact q _ A2 _ t (s2.trans (zg (Same.refl _) (m2.h.free nt))) (m2.grow nt) zf
    by_cases z : Mf.pc < (code.length : Int)
    · rcases hd with y | y
      · omega
      obtain ⟨t, et⟩ := rfs y
      rw [decide_eq_true z]
      refine iteT ⟨_, rfl, A2.b, _, _, _, A2.rf, by rw [eb2], m2.b, CN.c, CN.refusal, rfl, rfl, _, rfl, ?_⟩
      rw [et]
      exact yn (ret _ rfl)
    · rw [decide_eq_false z]
      exact yn (yn (ret _ rfl))
  | step p0 hn ec st run =>
    rename_i k M1 tv
    have hlt : M.pc.toNat < code.length := (List.getElem?_eq_some_iff.mp ec).1
    have z : M.pc < (code.length : Int) := by omega
    rw [decide_eq_true z]
    refine iteT ⟨_, rfl, A2.b, _, _, _, A2.rf, by rw [eb2], m2.b, CN.c, CN.refusal, rfl, rfl, _, rfl, ?_⟩
    rw [rfn hn]
    refine iteT ⟨fun σ' J' => ∃ B2 A2, σ' = [some (.ref a), some (.ref l1), some (.ref l2), some (.int L), some (.ref l3), some (.ref l4), some (.ref x)] ∧ Same H B2 ∧ A2.b = x ∧ MAt c B2 A2 M1 [] J', fun σ' J' ⟨B3, A3, e3, s3, eb3, m3⟩ => ⟨k, by omega, B3, A3, M1, e3, s3, eb3, m3, run⟩, ?_⟩
    obtain ⟨st', es'⟩ : ∃ y, cs[M.pc.toNat]? = some y := ⟨cs[M.pc.toNat]'(by rw [CA.n]; exact hlt), List.getElem?_eq_getElem _⟩
    have eT := CA.t _ _ _ es' ec
    refine ⟨_, rfl, _, rfl, _, rfl, A2.b, _, _, _, .int M.pc, by rw [eb2], m2.b, CN.c, CN.pc, rfl, a, _, _, .ref st', rfl, rfl, SQ s2 m2, ?_, B2, A2, M, [], st', tv, M1, by rw [eb2]; rfl, m2, s2 _ _ eT, st, fun B3 A3 J3 M2 s3 eb3 m3 em => ?_⟩
    · rw [show M.pc = ((M.pc.toNat : Nat) : Int) by omega]
      exact zM (by rw [List.getElem?_map, es']; rfl)
    refine ⟨_, rfl, A3.b, _, _, _, by rw [eb3, eb2], m3.b, CN.c, CN.pc, (by show 23 < 1000; decide), ?_⟩
    have m4 := m3.s_pc M1.pc
    rw [← em] at m4
    exact ⟨B3, A3, rfl, s2.trans s3, eb3.trans eb2, m4⟩
end
end K35
namespace L2
open PySem PySem.Spec PyProof.Rows
open Sem (wp)
section
variable {prog : Program} {w : World} {A : Around} {E : Value → Shared → Prop} {s : Shared}
theorem nxt_tup {j t : Addr} {k : Nat} {us : Array Value} {v : Value} {Q : Value → Shared → Prop} (hj : s.heap.IsTupleIter j t k) (ht : s.heap.IsTuple t us) (hv : us[k]? = some v)
    (q : ∀ g, g.IsTupleIter j t (k + 1) → Heap.SameBut j s.heap g → Q v { s with heap := g }) : wpAny (model prog w) A (Builtin.SmallTypes.nextOf (.ref j)) Q E s := by
  have ty := hj.typeIs
  obtain ⟨o, eo, ec, ed⟩ := hj
  obtain ⟨o2, eo2, _, m, ed2⟩ := ht
  unfold Builtin.SmallTypes.nextOf
  refine wpAny_bind (wpAny_callSpecial?_slot (name := Str.ofString "__next__") ty F.slot_tuple_iterator_next (wpAny_call_entry F.slot_tuple_iterator_next ty F.entry_tuple_iterator_next ?_ (F.args_tuple_iterator_next_1 _)))
  refine wpAny_bind (m := field (.ref j) 0) (wpAny_field eo ed (x := .ref t) rfl ?_); show wpAny _ _ (if (Value.ref t == Value.none) = true then _ else _) _ _ s
  rw [if_neg (show ¬ ((Value.ref t == Value.none) = true) from nofun)]; refine wpAny_bind (m := field (.ref j) 1) (wpAny_field eo ed (x := .int k 0) rfl ?_)
  refine wpAny_bind (m := seqItems? (.ref t)) (wpAny_seqItems eo2 ed2 ?_); simp only [Int.toNat_natCast, hv]
  refine wpAny_bind (wpAny_setField eo ed (by simp) (wpAny_pure ⟨v, rfl, wpAny_pure (q _ ?_ (Heap.SameBut.update ..))⟩))
  exact ⟨_, Heap.get?_update_self _ eo (Obj.isFreed_of_fields (Obj.data_mapFields ed _)), (Obj.cls_mapFields ..).trans ec, by rw [Obj.data_mapFields ed]; simp [rawInt]⟩
theorem nxt_tup_end {j t : Addr} {k : Nat} {us : Array Value} {Q : Value → Shared → Prop} (hh : A.handled = none) (hj : s.heap.IsTupleIter j t k) (ht : s.heap.IsTuple t us) (hv : us[k]? = none)
    (q : ∀ g e, Heap.ExtBut j s.heap g → (∃ o, g.get? e = some o ∧ o.cls = .type "StopIteration") → E (.ref e) { s with heap := g }) : wpAny (model prog w) A (Builtin.SmallTypes.nextOf (.ref j)) Q E s := by
  have ty := hj.typeIs
  obtain ⟨o, eo, ec, ed⟩ := hj
  obtain ⟨o2, eo2, _, m, ed2⟩ := ht
  unfold Builtin.SmallTypes.nextOf
  refine wpAny_bind (wpAny_callSpecial?_slot (name := Str.ofString "__next__") ty F.slot_tuple_iterator_next (wpAny_call_entry F.slot_tuple_iterator_next ty F.entry_tuple_iterator_next ?_ (F.args_tuple_iterator_next_1 _)))
  refine wpAny_bind (m := field (.ref j) 0) (wpAny_field eo ed (x := .ref t) rfl ?_); show wpAny _ _ (if (Value.ref t == Value.none) = true then _ else _) _ _ s
  rw [if_neg (show ¬ ((Value.ref t == Value.none) = true) from nofun)]; refine wpAny_bind (m := field (.ref j) 1) (wpAny_field eo ed (x := .int k 0) rfl ?_)
  refine wpAny_bind (m := seqItems? (.ref t)) (wpAny_seqItems eo2 ed2 ?_); simp only [Int.toNat_natCast, hv]
  refine wpAny_bind (wpAny_rule (wpAny_bind (wpAny_setField eo ed (by simp) (wpAny_bind (m := newExc (.type "StopIteration") []) ?_))))
  simp only [newExc, newTuple]
  refine wpAny_bind (wpAny_newObj_type (wpAny_bind (m := firstArgMember _ _) (wpAny_of_eq (a := Value.none) (by first | rfl | (simp only [firstArgMember]; rfl)) (wpAny_newObj_type ?_ (by size_fits)))) (by size_fits))
  simp only [raiseNew]; refine wpAny_bind (wpAny_handled ?_)
  first | rw [show A.in1.handled = none from hh] | rw [hh]
  refine wpAny_bind (wpAny_pure (wpAny_throw ?_))
  exact q _ _ (((Heap.SameBut.update ..).extBut.push _).push _) ⟨_, Heap.get?_push_size _ rfl, rfl⟩
theorem zt_item {z TI TO j1 j2 t1 t2 : Addr} {k1 k2 : Nat} {us vs : Array Value} {u v a b : Value} {Q : Value → Shared → Prop} (D : ZipApart z TI TO j1 j2 t1 t2) (hz : IsZip s.heap z TI TO .none) (hI : IsPair s.heap TI (.ref j1) (.ref j2)) (hO : IsPair s.heap TO a b)
    (i1 : s.heap.IsTupleIter j1 t1 k1) (i2 : s.heap.IsTupleIter j2 t2 k2) (e1 : s.heap.IsTuple t1 us) (e2 : s.heap.IsTuple t2 vs) (hu : us[k1]? = some u) (hv : vs[k2]? = some v)
    (q : ∀ g, IsZip g z TI TO (rawInt s.heap.objs.size) → IsPair g TO u v → g.IsTupleIter j1 t1 (k1 + 1) → g.IsTupleIter j2 t2 (k2 + 1) → IsPair g s.heap.objs.size u v → g.objs.size = s.heap.objs.size + 1 → (∀ c o, c ≠ z → c ≠ TO → c ≠ j1 → c ≠ j2 → s.heap.get? c = some o → g.get? c = some o) → Q (.ref s.heap.objs.size) { s with heap := g }) :
    wpAny (model prog w) A (Builtin.«zip.__next__» ⟨[.ref z], []⟩) (fun fin s' => ∃ v, fin = .done (.ret v) ∧ Q v s') E s := by
  refine wpAny_bind (m := field (.ref z) 2) (wpAny_field hz rfl (x := .bool false) rfl ?_)
  refine wpAny_bind (m := field (.ref z) 3) (wpAny_field hz rfl (x := .ref TI) rfl (wpAny_bind (wpAny_seqItems hI rfl ?_)))
  refine wpAny_bind (m := Builtin.SmallTypes.ownedTupleIsFree (.ref z)) ?_
  unfold Builtin.SmallTypes.ownedTupleIsFree; refine wpAny_bind (wpAny_field hz rfl (x := .none) rfl (wpAny_pure ?_))
  simp only [if_true]; refine wpAny_bind (wpAny_rule (wpAny_bind (wpAny_field hz rfl (x := .ref TO) rfl ?_)))
  refine wpAny_bind (wpAny_setField_rec hz (by simp) fun g1 z1 c1 => wpAny_bind ?_)
  replace z1 : IsZip g1 z TI TO .ellipsis := z1
  simp only [List.zipIdx_cons, List.zipIdx_nil, List.forIn_cons, List.forIn_nil]; refine wpAny_bind (wpAny_bind (wpAny_onRaise ?_))
  refine wpAny_bind (m := Builtin.SmallTypes.nextOf (.ref j1)) (nxt_tup (i1.extBut c1.extBut D.i1z) (e1.extBut c1.extBut D.l1z) hu fun g2 n1 c2 => wpAny_pure ?_)
  have o2 : IsPair g2 TO a b := c2.extBut _ _ D.TOi1 (c1.extBut _ _ D.TOz hO)
  refine wpAny_bind (wpAny_seqItems o2 rfl (wpAny_bind (wpAny_updateSeq_pair o2 fun g3 o3 c3 => ?_))); replace o3 : IsPair g3 TO u b := o3
  refine wpAny_bind (wpAny_letGo (wpAny_pure (wpAny_bind (wpAny_bind (wpAny_onRaise ?_)))))
  refine wpAny_bind (m := Builtin.SmallTypes.nextOf (.ref j2)) (nxt_tup (((i2.extBut c1.extBut D.i2z).extBut c2.extBut D.i12.symm).extBut c3.extBut D.TOi2.symm) (((e2.extBut c1.extBut D.l2z).extBut c2.extBut D.l2i1).extBut c3.extBut D.l2TO) hv fun g4 n2 c4 => wpAny_pure ?_)
  have o4 : IsPair g4 TO u b := c4.extBut _ _ D.TOi2 o3
  refine wpAny_bind (wpAny_seqItems o4 rfl (wpAny_bind (wpAny_updateSeq_pair o4 fun g5 o5 c5 => ?_))); replace o5 : IsPair g5 TO u v := o5
  refine wpAny_bind (wpAny_letGo (wpAny_pure (wpAny_pure (wpAny_bind (wpAny_seqItems o5 rfl (wpAny_bind (wpAny_newTuple ?_)))))))
  have sz : g5.objs.size = s.heap.objs.size := by rw [c5.1, c4.1, c3.1, c2.1, c1.1]
  have z5 : IsZip g5 z TI TO .ellipsis := c5.extBut _ _ D.TOz.symm (c4.extBut _ _ D.i2z.symm (c3.extBut _ _ D.TOz.symm (c2.extBut _ _ D.i1z.symm z1)))
  have k5 : ∀ c o, c ≠ z → c ≠ TO → c ≠ j1 → c ≠ j2 → s.heap.get? c = some o → g5.get? c = some o := fun c o d1 d2 d3 d4 e => c5.extBut _ _ d2 (c4.extBut _ _ d4 (c3.extBut _ _ d2 (c2.extBut _ _ d3 (c1.extBut _ _ d1 e))))
  have m1 : g5.IsTupleIter j1 t1 (k1 + 1) := ((n1.extBut c3.extBut D.TOi1.symm).extBut c4.extBut D.i12).extBut c5.extBut D.TOi1.symm
  have m2 : g5.IsTupleIter j2 t2 (k2 + 1) := n2.extBut c5.extBut D.TOi2.symm
  have zl : z < g5.objs.size := Heap.lt_size z5
  refine wpAny_bind (m := Builtin.SmallTypes.ownedTupleHandOut (.ref z) (.ref g5.objs.size)) ?_
  unfold Builtin.SmallTypes.ownedTupleHandOut
  have z6 : IsZip (g5.push { cls := .type "tuple", data := .seq #[u, v] }) z TI TO .ellipsis := Heap.get?_push_of_some _ z5
  refine wpAny_bind (wpAny_setField_rec z6 (by simp) fun g7 z7 c7 => ?_); replace z7 : IsZip g7 z TI TO (rawInt g5.objs.size) := z7
  refine wpAny_setField_rec z7 (by simp) fun g8 z8 c8 => ?_; replace z8 : IsZip g8 z TI TO (rawInt g5.objs.size) := z8
  have up : ∀ c o, c ≠ z → g5.get? c = some o → g8.get? c = some o := fun c o d e => c8.extBut _ _ d (c7.extBut _ _ d (Heap.get?_push_of_some _ e))
  have T8 : IsPair g8 g5.objs.size u v := c8.extBut _ _ (Nat.ne_of_gt zl) (c7.extBut _ _ (Nat.ne_of_gt zl) (Heap.get?_push_size _ rfl))
  have s8 : g8.objs.size = g5.objs.size + 1 := by rw [c8.1, c7.1, Heap.size_push]
  rw [sz] at z8 T8 s8; refine wpAny_pure ⟨_, rfl, ?_⟩; show Q (.ref g5.objs.size) _; rw [sz]
  exact q g8 z8 (up _ _ D.TOz o5) (m1.at fun o e => up _ o D.i1z e) (m2.at fun o e => up _ o D.i2z e) T8 s8 fun c o d1 d2 d3 d4 e => up c o d1 (k5 c o d1 d2 d3 d4 e)
theorem zt_end {z TI TO j1 j2 t1 t2 : Addr} {k1 k2 : Nat} {us vs : Array Value} {a b : Value} {Q : Fin → Shared → Prop} (hh : A.handled = none) (D : ZipApart z TI TO j1 j2 t1 t2) (hz : IsZip s.heap z TI TO .none) (hI : IsPair s.heap TI (.ref j1) (.ref j2)) (hO : IsPair s.heap TO a b)
    (i1 : s.heap.IsTupleIter j1 t1 k1) (i2 : s.heap.IsTupleIter j2 t2 k2) (e1 : s.heap.IsTuple t1 us) (e2 : s.heap.IsTuple t2 vs) (he : us[k1]? = none)
    (q : ∀ g e, (∀ c o, c ≠ z → c ≠ TO → c ≠ j1 → c ≠ j2 → s.heap.get? c = some o → g.get? c = some o) → (∃ o, g.get? e = some o ∧ o.cls = .type "StopIteration") → E (.ref e) { s with heap := g }) :
    wpAny (model prog w) A (Builtin.«zip.__next__» ⟨[.ref z], []⟩) Q E s := by
  refine wpAny_bind (m := field (.ref z) 2) (wpAny_field hz rfl (x := .bool false) rfl ?_)
  refine wpAny_bind (m := field (.ref z) 3) (wpAny_field hz rfl (x := .ref TI) rfl (wpAny_bind (wpAny_seqItems hI rfl ?_)))
  refine wpAny_bind (m := Builtin.SmallTypes.ownedTupleIsFree (.ref z)) ?_
  unfold Builtin.SmallTypes.ownedTupleIsFree; refine wpAny_bind (wpAny_field hz rfl (x := .none) rfl (wpAny_pure ?_))
  simp only [if_true]; refine wpAny_bind (wpAny_rule (wpAny_bind (wpAny_field hz rfl (x := .ref TO) rfl ?_)))
  refine wpAny_bind (wpAny_setField_rec hz (by simp) fun g1 z1 c1 => wpAny_bind ?_)
  replace z1 : IsZip g1 z TI TO .ellipsis := z1
  simp only [List.zipIdx_cons, List.zipIdx_nil, List.forIn_cons, List.forIn_nil]; refine wpAny_bind (wpAny_bind (wpAny_onRaise ?_))
  refine wpAny_bind (m := Builtin.SmallTypes.nextOf (.ref j1)) (nxt_tup_end hh (i1.extBut c1.extBut D.i1z) (e1.extBut c1.extBut D.l1z) he fun g2 e c2 ⟨oe, ho, hc⟩ => ?_)
  have z2 : IsZip g2 z TI TO .ellipsis := c2 _ _ D.i1z.symm z1
  have ne : e ≠ z := fun x => by subst x; rw [z2] at ho; cases ho; simp at hc
  exact wpAny_setField_rec z2 (by simp) fun g3 _ c3 => q g3 e (fun c o d1 _ d3 _ x => c3.extBut _ _ d1 (c2 _ _ d3 (c1.extBut _ _ d1 x))) ⟨oe, c3.extBut _ _ ne ho, hc⟩
theorem next_zt {z TI TO j1 j2 t1 t2 : Addr} {k1 k2 : Nat} {us vs : Array Value} {u v a b : Value} {Q : Option Value → Shared → Prop} (D : ZipApart z TI TO j1 j2 t1 t2) (hz : IsZip s.heap z TI TO .none) (hI : IsPair s.heap TI (.ref j1) (.ref j2)) (hO : IsPair s.heap TO a b)
    (i1 : s.heap.IsTupleIter j1 t1 k1) (i2 : s.heap.IsTupleIter j2 t2 k2) (e1 : s.heap.IsTuple t1 us) (e2 : s.heap.IsTuple t2 vs) (hu : us[k1]? = some u) (hv : vs[k2]? = some v)
    (q : ∀ g, IsZip g z TI TO (rawInt s.heap.objs.size) → IsPair g TO u v → g.IsTupleIter j1 t1 (k1 + 1) → g.IsTupleIter j2 t2 (k2 + 1) → IsPair g s.heap.objs.size u v → g.objs.size = s.heap.objs.size + 1 → (∀ c o, c ≠ z → c ≠ TO → c ≠ j1 → c ≠ j2 → s.heap.get? c = some o → g.get? c = some o) → Q (some (.ref s.heap.objs.size)) { s with heap := g }) :
    wpAny (model prog w) A (pyNext (.ref z)) Q E s := by
  have ty : s.TypeIs (.ref z) "zip" := ⟨_, hz, rfl⟩
  unfold pyNext
  exact wpAny_bind (wpAny_attempt (wpAny_callSpecial?_slot (name := Str.ofString "__next__") ty F.slot_zip_next (wpAny_call_entry F.slot_zip_next ty F.entry_zip_next (zt_item D hz hI hO i1 i2 e1 e2 hu hv fun g a1 a2 a3 a4 a5 a6 a7 => wpAny_pure (q g a1 a2 a3 a4 a5 a6 a7)) (F.args_zip_next_1 _))))
theorem next_zt_end {z TI TO j1 j2 t1 t2 : Addr} {k1 k2 : Nat} {us vs : Array Value} {a b : Value} {Q : Option Value → Shared → Prop} (hh : A.handled = none) (D : ZipApart z TI TO j1 j2 t1 t2) (hz : IsZip s.heap z TI TO .none) (hI : IsPair s.heap TI (.ref j1) (.ref j2)) (hO : IsPair s.heap TO a b)
    (i1 : s.heap.IsTupleIter j1 t1 k1) (i2 : s.heap.IsTupleIter j2 t2 k2) (e1 : s.heap.IsTuple t1 us) (e2 : s.heap.IsTuple t2 vs) (he : us[k1]? = none)
    (q : ∀ g, (∀ c o, c ≠ z → c ≠ TO → c ≠ j1 → c ≠ j2 → s.heap.get? c = some o → g.get? c = some o) → Q none { s with heap := g }) : wpAny (model prog w) A (pyNext (.ref z)) Q E s := by
  have ty : s.TypeIs (.ref z) "zip" := ⟨_, hz, rfl⟩
  unfold pyNext
  refine wpAny_bind (wpAny_attempt (wpAny_callSpecial?_slot (name := Str.ofString "__next__") ty F.slot_zip_next (wpAny_call_entry F.slot_zip_next ty F.entry_zip_next (zt_end hh D hz hI hO i1 i2 e1 e2 he fun g e hk ⟨o, ho, hc⟩ => ?_) (F.args_zip_next_1 _))))
  exact wpAny_bind (wpAny_isInstance (T := "StopIteration") (b := true) ⟨o, ho, hc⟩ isSubtype_stop (wpAny_pure (q _ hk)))
abbrev zt1 (h : Heap) (t1 : Addr) : Heap := h.push { cls := .type "tuple_iterator", data := .fields #[.ref t1, .int 0 0] }
abbrev zt2 (h : Heap) (t1 t2 : Addr) : Heap := (zt1 h t1).push { cls := .type "tuple_iterator", data := .fields #[.ref t2, .int 0 0] }
abbrev zt3 (h : Heap) (t1 t2 : Addr) : Heap := (zt2 h t1 t2).push { cls := .type "tuple", data := .seq #[.ref h.objs.size, .ref (zt1 h t1).objs.size] }
abbrev zt4 (h : Heap) (t1 t2 : Addr) : Heap := (zt3 h t1 t2).push { cls := .type "tuple", data := .seq #[.none, .none] }
abbrev zt5 (h : Heap) (t1 t2 : Addr) : Heap := (zt4 h t1 t2).push { cls := .type "zip", data := .fields #[.none, .bool false, .bool false, .ref (zt2 h t1 t2).objs.size, .ref (zt3 h t1 t2).objs.size] }
theorem meets_zt (t1 t2 : Addr) (us vs : Array Value) : Meets (Builtin.«zip.__new__» ⟨[.type "zip", .ref t1, .ref t2], []⟩) (fun _ R s => s.heap.IsTuple t1 us ∧ s.heap.IsTuple t2 vs ∧ R (.ok (.ret (.ref (zt4 s.heap t1 t2).objs.size))) { s with heap := zt5 s.heap t1 t2 }) :=
  .of_wp fun prog w A R s h => by
    obtain ⟨hp, g, d, tk, os⟩ := s; obtain ⟨x1, x2, h⟩ := h; have hsub := sub_zip
    have y1 : Heap.IsTuple (Shared.heap ⟨hp, g, d, tk, os⟩) t1 us := x1
    have y2 : Heap.IsTuple (Shared.heap ⟨hp.push { cls := .type "tuple_iterator", data := .fields #[.ref t1, .int 0 0] }, g, d, tk, os⟩) t2 vs := Heap.IsTuple.push x2 _
    wp_walk using wpAny_pyIter_tuple y1, wpAny_pyIter_tuple y2
    exact ⟨_, rfl, h⟩
theorem call_zt {t1 t2 : Addr} {us vs : Array Value} {Q : Value → Shared → Prop} (x1 : s.heap.IsTuple t1 us) (x2 : s.heap.IsTuple t2 vs)
    (q : ∀ g, IsZip g (s.heap.objs.size + 4) (s.heap.objs.size + 2) (s.heap.objs.size + 3) .none → IsPair g (s.heap.objs.size + 2) (.ref s.heap.objs.size) (.ref (s.heap.objs.size + 1)) → IsPair g (s.heap.objs.size + 3) .none .none → g.IsTupleIter s.heap.objs.size t1 0 → g.IsTupleIter (s.heap.objs.size + 1) t2 0 → (∀ c o, s.heap.get? c = some o → g.get? c = some o) → Q (.ref (s.heap.objs.size + 4)) { s with heap := g }) :
    wpAny (model prog w) A (call (.type "zip") [.ref t1, .ref t2]) Q E s := by
  refine callType_new F.called_zip (by decide) (F.typeCall_zip_2 _ _) (F.newCall_zip_2 _ _) (fun obj => F.args_object_init_3 obj _ _) F.entry_zip_new (meets_zt t1 t2 us vs) ⟨x1, x2, ?_⟩
  have z1 : (zt1 s.heap t1).objs.size = s.heap.objs.size + 1 := Heap.size_push ..
  have z2 : (zt2 s.heap t1 t2).objs.size = s.heap.objs.size + 2 := by rw [Heap.size_push, z1]
  have z3 : (zt3 s.heap t1 t2).objs.size = s.heap.objs.size + 3 := by rw [Heap.size_push, z2]
  have z4 : (zt4 s.heap t1 t2).objs.size = s.heap.objs.size + 4 := by rw [Heap.size_push, z3]
  have up : ∀ {h : Heap} {c : Addr} {o o' : Obj}, h.get? c = some o → (h.push o').get? c = some o := fun e => Heap.get?_push_of_some _ e
  have g5 : (zt5 s.heap t1 t2).get? (zt4 s.heap t1 t2).objs.size = some _ := Heap.get?_push_size _ rfl
  have g4 : (zt5 s.heap t1 t2).get? (zt3 s.heap t1 t2).objs.size = some _ := up (Heap.get?_push_size _ rfl)
  have g3 : (zt5 s.heap t1 t2).get? (zt2 s.heap t1 t2).objs.size = some _ := up (up (Heap.get?_push_size _ rfl))
  have g2 : (zt5 s.heap t1 t2).get? (zt1 s.heap t1).objs.size = some _ := up (up (up (Heap.get?_push_size _ rfl)))
  have g1 : (zt5 s.heap t1 t2).get? s.heap.objs.size = some _ := up (up (up (up (Heap.get?_push_size _ rfl))))
  show _ ∧ _; rw [z2, z3, z4] at g5; rw [z1, z2] at g3; rw [z3] at g4; rw [z1] at g2; rw [z4]
  exact ⟨⟨_, g5, rfl⟩, q _ g5 g3 g4 ⟨_, g1, rfl, rfl⟩ ⟨_, g2, rfl, rfl⟩ fun c o x => up (up (up (up (up x))))⟩
end
def Itzt (K : PySem.W.Frag) (l1 l2 : Addr) : It :=
  ⟨fun i H => ∃ xs ys x y, SqT K H l1 xs ∧ SqT K H l2 ys ∧ xs[i]? = some x ∧ ys[i]? = some y,
   fun i H x H' => ∃ T u v, x = .ref T ∧ H T = none ∧ H' = upd H T (.tup [u, v]) ∧ ∀ xs ys, SqT K H l1 xs → SqT K H l2 ys → xs[i]? = some u ∧ ys[i]? = some v,
   fun i H => ∃ xs ys, SqT K H l1 xs ∧ SqT K H l2 ys ∧ xs.length ≤ i⟩
theorem turn_zt {P : Program} {w : World} {K : PySem.W.Frag} {es : List Expr} {kt : Nat} {pos : Pos} {z TI TO i1 i2 l1 l2 : Addr} (D : ZipApart z TI TO i1 i2 l1 l2) :
    Turn P w K (.Tuple es kt pos) (Itzt K l1 l2) [z, TI, TO, i1, i2] z (fun i h => IsZip h z TI TO .none ∧ IsPair h TI (.ref i1) (.ref i2) ∧ (∃ a b, IsPair h TO a b) ∧ h.IsTupleIter i1 l1 i ∧ h.IsTupleIter i2 l2 i) where
  mem := by simp
  obj := fun i h st b hb => by
    obtain ⟨hz, hI, ⟨a, b', hO⟩, ⟨o1, e1, c1, d1⟩, ⟨o2, e2, c2, d2⟩⟩ := st
    simp at hb
    rcases hb with rfl | rfl | rfl | rfl | rfl
    · exact ⟨_, hz, fun v q => by cases q⟩
    · exact ⟨_, hI, fun v q => by cases q⟩
    · exact ⟨_, hO, fun v q => by cases q⟩
    · exact ⟨_, e1, fun v q => by rw [d1] at q; cases q⟩
    · exact ⟨_, e2, fun v q => by rw [d2] at q; cases q⟩
  keep := fun i h h' st k => by
    obtain ⟨hz, hI, ⟨a, b', hO⟩, h1, h2⟩ := st
    exact ⟨k z (by simp) _ hz, k TI (by simp) _ hI, ⟨a, b', k TO (by simp) _ hO⟩, h1.at fun o e => k i1 (by simp) o e, h2.at fun o e => k i2 (by simp) o e⟩
  item := by
    intro X hP hw hK hc i pins s σ H E I hf st hg
    subst hP hw hK
    obtain ⟨hz, hI, ⟨a, b', hO⟩, h1, h2⟩ := st
    obtain ⟨xs, ys, x, y, q1, q2, ex, ey⟩ := hg
    obtain ⟨is1, r1, p1, _⟩ := I.tuple q1
    obtain ⟨is2, r2, p2, _⟩ := I.tuple q2
    obtain ⟨u, hu, ru⟩ := r1.get ex
    obtain ⟨v, hv, rv⟩ := r2.get ey
    refine next_zt D hz hI hO h1 h2 (show s.heap.IsTuple l1 is1.toArray from p1) (show s.heap.IsTuple l2 is2.toArray from p2) (u := u) (v := v) (by simpa using hu) (by simpa using hv) fun h1' a1 a2 a3 a4 a5 a6 hk => ?_
    refine ⟨_, rfl, wpAny_letOwnedTupleGo_zip (s := { s with heap := h1' }) a1 fun h2' z' sb => ?_⟩
    have lt : ∀ {c : Addr} {o : Obj}, s.heap.get? c = some o → c ≠ s.heap.objs.size := fun e => Nat.ne_of_lt (Heap.lt_size e)
    have Tz : s.heap.objs.size ≠ z := (lt hz).symm
    have fr := I.hok.fresh (Nat.le_refl _)
    refine ⟨.ref s.heap.objs.size, upd H s.heap.objs.size (.tup [x, y]), I.turnedT (its := [z, TI, TO, i1, i2]) (t' := s.toks) (fun b o nb e => ?_) hf (Nat.le_refl _) ⟨by show 2 ≤ sizeLine; decide, [u, v], .cons ru (.cons rv .nil), _, sb.extBut _ _ Tz a5, rfl, _, rfl⟩, rfl, ⟨s.heap.objs.size, x, y, rfl, fr, rfl, fun xs' ys' q1' q2' => ?_⟩, ?_, fun b hb => ?_⟩
    · have nb' : b ≠ z ∧ b ≠ TI ∧ b ≠ TO ∧ b ≠ i1 ∧ b ≠ i2 := by simpa using nb
      exact sb.extBut _ _ nb'.1 (hk b o nb'.1 nb'.2.2.1 nb'.2.2.2.1 nb'.2.2.2.2 e)
    · rw [I.tuple_inj q1' q1, I.tuple_inj q2' q2]; exact ⟨ex, ey⟩
    · exact ⟨z', sb.extBut _ _ D.TIz (hk _ _ D.TIz D.TITO D.TIi1 D.TIi2 hI), ⟨_, _, sb.extBut _ _ D.TOz a2⟩, a3.extBut sb.extBut D.i1z, a4.extBut sb.extBut D.i2z⟩
    · have e := (hf b hb).1
      have : ∃ o, s.heap.get? b = some o := by
        simp at hb
        rcases hb with rfl | rfl | rfl | rfl | rfl
        · exact ⟨_, hz⟩
        · exact ⟨_, hI⟩
        · exact ⟨_, hO⟩
        · obtain ⟨o, e, _⟩ := h1; exact ⟨o, e⟩
        · obtain ⟨o, e, _⟩ := h2; exact ⟨o, e⟩
      obtain ⟨o, eo⟩ := this
      rw [zj (lt eo)]; exact e
  done := by
    intro X hP hw hK hc i pins s σ H E I hf st hg
    subst hP hw hK
    obtain ⟨hz, hI, ⟨a, b', hO⟩, h1, h2⟩ := st
    obtain ⟨xs, ys, q1, q2, le⟩ := hg
    obtain ⟨is1, r1, p1, _⟩ := I.tuple q1
    obtain ⟨is2, r2, p2, _⟩ := I.tuple q2
    have g1 := r1.length
    have g2 := r2.length
    refine next_zt_end (I.ok.hd hc) D hz hI hO h1 h2 (show s.heap.IsTuple l1 is1.toArray from p1) (show s.heap.IsTuple l2 is2.toArray from p2) (by simp; omega) fun h1' hk => ⟨rfl, I.turnedL (its := [z, TI, TO, i1, i2]) (t' := s.toks) (fun b o nb e => ?_) hf⟩
    have nb' : b ≠ z ∧ b ≠ TI ∧ b ≠ TO ∧ b ≠ i1 ∧ b ≠ i2 := by simpa using nb
    exact hk b o nb'.1 nb'.2.2.1 nb'.2.2.2.1 nb'.2.2.2.2 e
  self := fun _ _ _ _ _ st h => wpAny_pyIter_zip st.1 h
section
variable {X : Cx} {es : List Expr} {kt : Nat} {tp : Pos}
end
theorem for_zt {K : PySem.W.Frag} {l1 l2 : Addr} {xs ys : List V} {g : TG} {tb : TS} {D : Ends} {σ : St} {H : Hp} (Pv : Nat → St → Hp → Prop) (h0 : Pv 0 σ H) (hl : ∀ i σ H, i ≤ xs.length → Pv i σ H → SqT K H l1 xs ∧ SqT K H l2 ys) (he : ys.length = xs.length)
    (hs : ∀ i x y σ H T, xs[i]? = some x → ys[i]? = some y → Pv i σ H → H T = none → g (.ref T) σ (upd H T (.tup [x, y])) fun σ2 H2 => tb { D with nx := Pv (i + 1), ct := Pv (i + 1), bk := D.nx } σ2 H2) (hd : ∀ σ H, Pv xs.length σ H → D.nx σ H) :
    ∃ W : Nat → Nat → St → Hp → Prop, (∃ m, W 0 m σ H) ∧ ∀ i m σ H, W i m σ H →
      ((Itzt K l1 l2).stop i H ∧ D.nx σ H) ∨ ((Itzt K l1 l2).go i H ∧ ∃ N : St → Hp → Prop, (∀ σ' H', N σ' H' → ∃ m', m' < m ∧ W (i + 1) m' σ' H') ∧ ∀ x H', (Itzt K l1 l2).yld i H x H' → g x σ H' fun σ2 H2 => tb { D with nx := N, ct := N, bk := D.nx } σ2 H2) := by
  refine ⟨fun i m σ H => m = xs.length - i ∧ i ≤ xs.length ∧ Pv i σ H, ⟨xs.length, by simp, Nat.zero_le _, h0⟩, ?_⟩
  rintro i m σ H ⟨rfl, hi, p⟩
  obtain ⟨q1, q2⟩ := hl i σ H hi p
  by_cases hlt : i < xs.length
  · refine .inr ⟨⟨xs, ys, xs[i], ys[i], q1, q2, by simp [hlt], by simp [he, hlt]⟩, Pv (i + 1), fun σ' H' p' => ⟨xs.length - (i + 1), by omega, rfl, hlt, p'⟩, fun x H' y => ?_⟩
    obtain ⟨T, u, v, e, nT, e', y⟩ := y
    subst e e'
    obtain ⟨y1, y2⟩ := y xs ys q1 q2
    exact hs i u v σ H T y1 y2 p nT
  · have e : i = xs.length := by omega
    subst e
    exact .inl ⟨⟨xs, ys, q1, q2, Nat.le_refl _⟩, hd σ H p⟩
section
variable {X : Cx} {es : List Expr} {kt : Nat} {tp : Pos}
def iZb (K : PySem.W.Frag) (ta : TA) : TI := fun σ H R => ta σ H fun vs H1 => ∃ l1 l2, vs = [.ref l1, .ref l2] ∧ (((∃ xs, SqL K H1 l1 xs) ∧ (∃ ys, SqL K H1 l2 ys) ∧ R (Itz K l1 l2) H1) ∨ ((∃ xs, SqT K H1 l1 xs) ∧ (∃ ys, SqT K H1 l2 ys) ∧ R (Itzt K l1 l2) H1))
theorem pi_zb {a b : Expr} {ta : TA} {p pos : Pos} (hg : Gl X "zip") (hm : X.mg "zip" = none) (ha : PA X [a, b] ta) (hs : starEach [a, b] X.env = [(false, eval a X.env), (false, eval b X.env)] := by rfl)
    (hs2 : starEach [b] X.env = [(false, eval b X.env)] := by rfl) : PI X (.Tuple es kt tp) (.Call (.Name "zip" p) [a, b] [] pos) (iZb X.K ta) := by
  intro pins s σ H R I h
  refine Call_ (ld_blt I hg hm boot_zip (PyProof.Rows.callWith_type1 (thn (ha pos pins s σ H _ I h) fun us s1 ⟨vs, H1, I1, r1, q1⟩ => ?_) (by rw [hs, hs2]) (by rw [hs2]; rfl)))
  obtain ⟨l1, l2, e, q1⟩ := q1
  subst e
  obtain ⟨u, v, rfl, ru, rv⟩ := vals2 r1
  cases (show u = Value.ref l1 from ru)
  cases (show v = Value.ref l2 from rv)
  have fp : ∀ n, FpOk X pins H1 (s1.heap.objs.size + n) := fun n => I1.fpOk (Nat.le_add_right _ _) (I1.hok.fresh (Nat.le_add_right _ _))
  have fps : ∀ b ∈ [s1.heap.objs.size + 4, s1.heap.objs.size + 2, s1.heap.objs.size + 3, s1.heap.objs.size, s1.heap.objs.size + 1], FpOk X pins H1 b := fun b hb => by
    simp at hb
    rcases hb with rfl | rfl | rfl | rfl | rfl
    · exact fp 4
    · exact fp 2
    · exact fp 3
    · exact fp 0
    · exact fp 1
  rcases q1 with ⟨⟨xs, x1⟩, ⟨ys, x2⟩, q⟩ | ⟨⟨xs, x1⟩, ⟨ys, x2⟩, q⟩
  · obtain ⟨is1, g1, p1, _⟩ := I1.list x1
    obtain ⟨is2, g2, p2, _⟩ := I1.list x2
    have L1 : l1 < s1.heap.objs.size := by obtain ⟨_, e, _⟩ := p1.isList; exact Heap.lt_size e
    have L2 : l2 < s1.heap.objs.size := by obtain ⟨_, e, _⟩ := p2.isList; exact Heap.lt_size e
    refine call_zip_2 p1.isList p2.isList fun h' a1 a2 a3 a4 a5 a6 hk => wpAny_pyIter_zip (s := { s1 with heap := h' }) a1 ?_
    exact ⟨_, _, _, _, H1, rfl, I1.kept (t' := s1.toks) fun b o e => hk b o e, turn_zip (zipApart_new L1 L2), ⟨a1, a2, ⟨_, _, a3⟩, a4, a5⟩, fps, q⟩
  · obtain ⟨is1, g1, p1, _⟩ := I1.tuple x1
    obtain ⟨is2, g2, p2, _⟩ := I1.tuple x2
    have L1 : l1 < s1.heap.objs.size := by obtain ⟨_, e, _⟩ := p1; exact Heap.lt_size e
    have L2 : l2 < s1.heap.objs.size := by obtain ⟨_, e, _⟩ := p2; exact Heap.lt_size e
    refine call_zt (show s1.heap.IsTuple l1 is1.toArray from p1) (show s1.heap.IsTuple l2 is2.toArray from p2) fun h' a1 a2 a3 a4 a5 hk => wpAny_pyIter_zip (s := { s1 with heap := h' }) a1 ?_
    exact ⟨_, _, _, _, H1, rfl, I1.kept (t' := s1.toks) fun b o e => hk b o e, turn_zt (zipApart_new L1 L2), ⟨a1, a2, ⟨_, _, a3⟩, a4, a5⟩, fps, q⟩
end
end L2
namespace K35
open PySem L2
section
variable {P : Program} {w : World} {K : PySem.W.Frag} {mg : Str → Option Value} {base : Heap}
def spCA (K : PySem.W.Frag) : Sp := fun vs H Q _ => ∃ (a : Addr) (ns : List Int) (k : Int), vs = [.ref a, .int k] ∧ SqL K H a (ns.map V.int) ∧ 0 ≤ k ∧ Q (.int (ns.getD k.toNat 0)) H
theorem ok_cell_at (d : zC K mg "_law_cell_at" yS ["_law_script", "_law_k"]) (hlen : mg "len" = none) : Ok P w K mg base CX0 1 "_law_cell_at" ["_law_script", "_law_k"] (spCA K) := by
  obtain ⟨g, fd, m, F, b⟩ := d
  refine ⟨g, fd, m, F.kp, b, F.ok sc_l_cell_at (fun vs H Q E ⟨_, _, _, e, _⟩ => by rw [e]; rfl) fun cdv A outer s H vs Q E hr h => ?_⟩
  obtain ⟨a, ns, i, rfl, hS, h0, k⟩ := h
  refine ⟨_, (zb (yr (zX op_lt (pv 1) (zF ye (by rfl) hlen PySem.boot_len (za (pv 0) zd)) (zW _)) (zh (zu (zE zB (pv 0) (pv 1) (fun _ _ => rfl)))) zK)
      (zh (zu zc))), ?_⟩
  refine ⟨_, rfl, _, rfl, a, _, rfl, .inl hS, _, _, rfl, rfl, _, rfl, ?_⟩
  rw [List.length_map]
  refine ite2 (fun z => ?_) (fun z => ?_)
  · have z : i < (ns.length : Int) := by simpa using z
    exact ⟨_, rfl, _, rfl, a, _, _, _, rfl, rfl, hS, at_int i.toNat (by omega) (by omega), k⟩
  · have z : ¬ i < (ns.length : Int) := by simpa using z
    have e : ns.getD i.toNat 0 = 0 := by rw [List.getD_eq_getElem?_getD, List.getElem?_eq_none (by omega)]; rfl
    rw [e] at k
    exact k
def spSome (K : PySem.W.Frag) : Sp := fun vs H Q _ => ∃ (a : Addr) (ns : List Int) (k sa m : Int), vs = [.ref a, .int k, .int sa, .int m] ∧ SqL K H a (ns.map V.int) ∧ 0 ≤ k ∧ k ≤ 100000 ∧ 0 ≤ sa ∧ sa ≤ 100000 ∧ 0 < m ∧ ∀ r, 0 ≤ r → r < m → Q (.int r) H
theorem ok_some (d : zC K mg "_law_some" xp ["_law_script", "_law_k", "_law_salt", "_law_many"]) (CA : Ok P w K mg base CX0 1 "_law_cell_at" ["_law_script", "_law_k"] (spCA K)) : Ok P w K mg base CX0 2 "_law_some" ["_law_script", "_law_k", "_law_salt", "_law_many"] (spSome K) := by
  obtain ⟨g, fd, m, F, b⟩ := d
  refine ⟨g, fd, m, F.kp, b, F.ok sc_l_some (fun vs H Q E ⟨_, _, _, _, _, e, _⟩ => by rw [e]; rfl) fun cdv A outer s H vs Q E hr h => ?_⟩
  obtain ⟨a, ns, i, sa, mm, rfl, hS, h0, h1, h2, h3, h4, k⟩ := h
  have nd := sc_l_some.nd
  have hr1 := hr
  refine ⟨_, (zb (zt (i := 4) nd rfl (Or.inl rfl) (zi zv (zi yB (zO CA hr1 (by rfl) zr (za (pv 0) (za (pv 1) zd))) zc) zc))
      (zb (zt (i := 5) nd rfl (Or.inl rfl) (zi yB (zi zY (pv 4) (zi zv (zi zv zc (zi zY (zi zY zc (pv 1)) (pv 1))) (zi zY (zi zY zc (pv 2)) (pv 2)))) zc))
      (zh (zu (zi yB (zi op_fdiv (zi yB (zi zY (pv 5) (pv 5)) zc) zc) (pv 3)))))), ?_⟩
  refine ⟨_, rfl, _, rfl, a, ns, i, rfl, hS, h0, _, _, rfl, rfl, (by show (0 : Int) < 1000003; decide), _, _, rfl, rfl, ?_⟩
  have c0 := Int.emod_nonneg (ns.getD i.toNat 0) (show (1000003 : Int) ≠ 0 by decide)
  have c1 := Int.emod_lt_of_pos (ns.getD i.toNat 0) (show (0 : Int) < 1000003 by decide)
  refine ⟨_, rfl, _, rfl, _, _, rfl, rfl, .inl ⟨by decide, by decide⟩, _, rfl, _, _, rfl, rfl, .inl ⟨by omega, by omega⟩, _, _, rfl, rfl, _, rfl, _, _, rfl, rfl, .inl ⟨by decide, by decide⟩, _, rfl, _, _, rfl, rfl, .inl ⟨by omega, by omega⟩, _, _, rfl, rfl, _, _, rfl, rfl, .inl ⟨by omega, by omega⟩, _, _, rfl, rfl, (by show (0 : Int) < 2147483647; decide), ?_⟩
  generalize (ns.getD i.toNat 0 % 1000003 + 1) * (48271 + 1000 * i * i + 69621 * sa * sa) = y
  refine ⟨_, rfl, _, rfl, _, _, rfl, rfl, .inl ⟨by omega, by omega⟩, _, _, rfl, rfl, (by show (0 : Int) < 2147483629; decide), _, _, rfl, rfl, ⟨by decide, by decide⟩, _, rfl, _, _, rfl, rfl, h4, ?_⟩
  exact k _ (Int.emod_nonneg _ (by omega)) (Int.emod_lt_of_pos _ h4)
def spNumber (K : PySem.W.Frag) : Sp := fun vs H Q _ => ∃ (a : Addr) (ns : List Int) (k : Int), vs = [.ref a, .int k] ∧ SqL K H a (ns.map V.int) ∧ 0 ≤ k ∧ k ≤ 100000 ∧ ∀ r, Q (.int r) H
theorem ok_number (d : zC K mg "_law_number" y9 ["_law_script", "_law_k"]) (CA : Ok P w K mg base CX0 1 "_law_cell_at" ["_law_script", "_law_k"] (spCA K)) (SM : Ok P w K mg base CX0 2 "_law_some" ["_law_script", "_law_k", "_law_salt", "_law_many"] (spSome K)) :
    Ok P w K mg base CX0 3 "_law_number" ["_law_script", "_law_k"] (spNumber K) := by
  obtain ⟨g, fd, m, F, b⟩ := d
  refine ⟨g, fd, m, F.kp, b, F.ok sc_l_number (fun vs H Q E ⟨_, _, _, e, _⟩ => by rw [e]; rfl) fun cdv A outer s H vs Q E hr h => ?_⟩
  obtain ⟨a, ns, i, rfl, hS, h0, h1, k⟩ := h
  have nd := sc_l_number.nd
  have hr2 := hr
  have hr1 : Room 1 _ := hr.mono (by decide)
  refine ⟨_, (zb (zt (i := 2) nd rfl (Or.inl rfl) (zi yB (zO CA hr1 (by rfl) zr (za (pv 0) (za (pv 1) zd))) zc))
      (zb (yr (zX op_eq (zO SM hr2 (by rfl) zr (za (pv 0) (za (pv 1) (za zc (za zc zd))))) zc (zW _)) (zh (zu (zi op_sub (zi yB (zi zv (pv 2) (zi zY zc (pv 1))) zc) zc))) zK)
      (zb (zt (i := 3) nd rfl (Or.inl rfl) (zi zv (zi zY (pv 2) zc) (zi zY (zi zY (pv 1) (pv 1)) zc)))
      (zh (zu (zi op_sub (zi yB (pv 3) zc) zc)))))), ?_⟩
  refine ⟨_, rfl, _, rfl, a, ns, i, rfl, hS, h0, _, _, rfl, rfl, (by show (0 : Int) < 18446744073709551616; decide), ?_⟩
  refine ⟨_, rfl, _, rfl, a, ns, i, 9, 2, rfl, hS, h0, h1, by decide, by decide, by decide, fun r r0 r1 => ⟨rfl, _, rfl, ?_⟩⟩
  refine ite2 (fun z => ?_) (fun z => ?_)
  · exact ⟨_, rfl, _, rfl, _, _, rfl, rfl, .inl ⟨by decide, by decide⟩, _, _, rfl, rfl, _, _, rfl, rfl, (by show (0 : Int) < 41; decide), _, _, rfl, rfl, k _⟩
  · have c0 := Int.emod_nonneg (ns.getD i.toNat 0) (show (18446744073709551616 : Int) ≠ 0 by decide)
    have c1 := Int.emod_lt_of_pos (ns.getD i.toNat 0) (show (0 : Int) < 18446744073709551616 by decide)
    exact ⟨_, rfl, _, _, rfl, rfl, .inr ⟨by decide, by decide⟩, _, rfl, _, rfl, _, _, rfl, rfl, .inl ⟨by omega, by omega⟩, _, _, rfl, rfl, .inr ⟨by decide, by decide⟩, _, _, rfl, rfl, _, rfl, _, _, rfl, rfl, (by show (0 : Int) < 18446744073709551616; decide), _, _, rfl, rfl, k _⟩
def spLanes : Sp := fun vs H Q _ => ∃ c : Int, vs = [.int c] ∧ ∀ r, 1 ≤ r → r ≤ 64 → Q (.int r) H
theorem ok_lanes (d : zC K mg "_law_lanes" xm ["_law_cell"]) : Ok P w K mg base CX0 1 "_law_lanes" ["_law_cell"] spLanes := by
  obtain ⟨g, fd, m, F, b⟩ := d
  refine ⟨g, fd, m, F.kp, b, F.ok sc_l_lanes (fun vs H Q E ⟨_, e, _⟩ => by rw [e]; rfl) fun cdv A outer s H vs Q E hr h => ?_⟩
  obtain ⟨c, rfl, k⟩ := h
  refine ⟨_, (zb (yr (zX op_eq (zi yB (pv 0) zc) zc (zW _)) (zh (zu (zi zv zc (zi yB (zi op_fdiv (pv 0) zc) zc)))) zK)
      (zh (zu (zi zv zc (zi yB (zi op_fdiv (pv 0) zc) zc))))), ?_⟩
  refine ⟨_, rfl, _, _, rfl, rfl, (by show (0 : Int) < 8; decide), rfl, _, rfl, ?_⟩
  refine ite2 (fun z => ?_) (fun z => ?_)
  · exact ⟨_, rfl, _, _, rfl, rfl, ⟨by decide, by decide⟩, _, _, rfl, rfl, (by show (0 : Int) < 64; decide), _, _, rfl, rfl, k _ (by omega) (by omega)⟩
  · exact ⟨_, rfl, _, _, rfl, rfl, ⟨by decide, by decide⟩, _, _, rfl, rfl, (by show (0 : Int) < 9; decide), _, _, rfl, rfl, k _ (by omega) (by omega)⟩
def spGroup (K : PySem.W.Frag) : Sp := fun vs H Q _ => ∃ (a : Addr) (ns : List Int) (k sa : Int), vs = [.ref a, .int k, .int sa] ∧ SqL K H a (ns.map V.int) ∧ 0 ≤ k ∧ k ≤ 100000 ∧ 0 ≤ sa ∧ sa ≤ 100000 ∧ ∀ r H', Same H H' → (r = 1 ∨ r = 2 ∨ r = 4) → Q (.int r) H'
theorem ok_group (d : zC K mg "_law_group" xn ["_law_script", "_law_k", "_law_salt"]) (SM : Ok P w K mg base CX0 2 "_law_some" ["_law_script", "_law_k", "_law_salt", "_law_many"] (spSome K)) : Ok P w K mg base CX0 3 "_law_group" ["_law_script", "_law_k", "_law_salt"] (spGroup K) := by
  obtain ⟨g, fd, m, F, b⟩ := d
  refine ⟨g, fd, m, F.kp, b, F.ok sc_l_group (fun vs H Q E ⟨_, _, _, _, e, _⟩ => by rw [e]; rfl) fun cdv A outer s H vs Q E hr h => ?_⟩
  obtain ⟨a, ns, i, sa, rfl, hS, h0, h1, h2, h3, k⟩ := h
  have hr2 := hr
  refine ⟨_, (zh (zu (zE zB (yL (za zc (za zc (za zc zd)))) (zO SM hr2 (by rfl) zr (za (pv 0) (za (pv 1) (za (pv 2) (za zc zd))))) (fun _ _ => rfl)))), ?_⟩
  refine ⟨(by show 3 ≤ sizeLine; decide), fun l nl => ?_⟩
  have s1 : Same H (upd H l (.lst [.int 1, .int 2, .int 4])) := zg (Same.refl H) nl
  refine ⟨_, rfl, _, rfl, _, rfl, a, ns, i, sa, 3, rfl, zq hS s1, h0, h1, h2, h3, by decide, fun r r0 r1 => ?_⟩
  refine ⟨l, ([1, 2, 4] : List Int).map V.int, r, _, rfl, rfl, SqL.of zf, at_int r.toNat (by show _ < 3; omega) (by omega), k _ _ s1 ?_⟩
  have : r = 0 ∨ r = 1 ∨ r = 2 := by omega
  rcases this with rfl | rfl | rfl
  · exact .inl rfl
  · exact .inr (.inl rfl)
  · exact .inr (.inr rfl)
def spDust (K : PySem.W.Frag) : Sp := fun vs H Q _ => ∃ (a : Addr) (ns : List Int) (k sa : Int), vs = [.ref a, .int k, .int sa] ∧ SqL K H a (ns.map V.int) ∧ 0 ≤ k ∧ k ≤ 1000 ∧ 0 ≤ sa ∧ sa ≤ 1000 ∧ ∀ H' l ds, ds.length ≤ 5 → Hd H [(l, .lst (List.map V.int ds))] H' → Q (.ref l) H'
theorem ok_dust (d : zC K mg "_law_dust" s_l_dust ["_law_script", "_law_k", "_law_salt"]) (hrg : mg "range" = none) (SM : Ok P w K mg base CX0 2 "_law_some" ["_law_script", "_law_k", "_law_salt", "_law_many"] (spSome K)) (NB : Ok P w K mg base CX0 3 "_law_number" ["_law_script", "_law_k"] (spNumber K)) : Ok P w K mg base CX0 4 "_law_dust" ["_law_script", "_law_k", "_law_salt"] (spDust K) := by
  obtain ⟨g, fd, m, F, b⟩ := d
  refine ⟨g, fd, m, F.kp, b, F.ok sc_l_dust (fun vs H Q E ⟨_, _, _, _, e, _⟩ => by rw [e]; rfl) fun cdv A outer s H vs Q E hr h => ?_⟩
  obtain ⟨a, ns, i, sa, rfl, hS, h0, h1, h2, h3, k⟩ := h
  have nd := sc_l_dust.nd
  have hr3 := hr
  have hr2 : Room 2 _ := hr.mono (by decide)
  have SL : (3000 : Nat) < sizeLine := by decide
  refine ⟨_, (zh (zu (y3 ["_law_j", "_law_script", "_law_k"] [none, some 0, some 1] rfl rfl rfl (yk rfl hrg (za (zO SM hr2 (by rfl) zr (za (pv 0) (za (pv 1) (za (pv 2) (za zc zd))))) zd)) (fun s3 H3 fp => ⟨zI (i := 0) (show ((["_law_j", "_law_script", "_law_k"] : List Str)).Nodup by decide +kernel) rfl (Or.inl rfl), (zO NB hr3 (by rfl) zr (za (pv 1) (za (zi zv (pv 2) (zi zY zc (pv 0))) zd)))⟩)))), ?_⟩
  refine ⟨_, rfl, _, rfl, _, rfl, a, ns, i, sa, 6, rfl, hS, h0, by omega, h2, by omega, by decide, fun r r0 r1 => ⟨_, rfl, (by omega), (by omega), _, rfl, fun D nD => ?_⟩⟩
  have hd : Hd H [(D, .lst (([] : List Int).map V.int))] (upd H D (.lst [])) := Hd.base.new nD
  generalize upd H D (.lst []) = H1 at hd ⊢
  refine yN (n := r.toNat) (fun j σ J => ∃ u ds, ds.length = j ∧ σ = [u, some (.ref a), some (.int i)] ∧ Hd H [(D, .lst (List.map V.int ds))] J) ⟨none, [], rfl, rfl, hd⟩ ?_ ?_
  · clear hd
    rintro j σ J hj ⟨u, ds, ld, rfl, h⟩
    refine ⟨_, rfl, _, rfl, _, rfl, _, _, rfl, rfl, .inl ⟨by decide, by decide⟩, _, _, rfl, rfl, a, ns, _, rfl, h.sql hS, (by show 0 ≤ i + 5 * (0 + (j : Int)); omega), (by show i + 5 * (0 + (j : Int)) ≤ 100000; omega), fun v => ?_⟩
    refine ⟨_, h.get 0 rfl, (by rw [List.length_map]; omega), _, ds ++ [v], (by rw [List.length_append, ld]; rfl), rfl, ?_⟩
    rw [List.map_append]
    exact h.put 0 rfl
  · rintro σ J ⟨u, ds, ld, rfl, h⟩
    exact k J D ds (by omega) h
structure AlK (K : PySem.W.Frag) (mg : Str → Option Value) : Prop where
  isi : mg "isinstance" = none
  int : mg "int" = none
  bool : mg "bool" = none
  str : mg "str" = none
  lst : mg "list" = none
  tup : mg "tuple" = none
  ii : PySem.W.kitOne K (.type "int") (.type "int") = some true
  ib : PySem.W.kitOne K (.type "int") (.type "bool") = some false
  is : PySem.W.kitOne K (.type "int") (.type "str") = some false
  il : PySem.W.kitOne K (.type "int") (.type "list") = some false
  it : PySem.W.kitOne K (.type "int") (.type "tuple") = some false
  ss : PySem.W.kitOne K (.type "str") (.type "str") = some true
  ls : PySem.W.kitOne K (.type "list") (.type "str") = some false
  ll : PySem.W.kitOne K (.type "list") (.type "list") = some true
  lt : PySem.W.kitOne K (.type "list") (.type "tuple") = some false
  ts : PySem.W.kitOne K (.type "tuple") (.type "str") = some false
  tl : PySem.W.kitOne K (.type "tuple") (.type "list") = some false
  tt : PySem.W.kitOne K (.type "tuple") (.type "tuple") = some true
inductive Lk (H : Hp) : Nat → V → V → Prop
  | non {n} : Lk H n .non .non
  | int {n} (i : Int) : Lk H n (.int i) (.int i)
  | str {n} (z : Str) : Lk H n (.str z) (.str z)
  | lst {n a b xs ys} : H a = some (.lst xs) → H b = some (.lst ys) → ys.length = xs.length → (∀ (i : Nat) x y, xs[i]? = some x → ys[i]? = some y → Lk H n x y) → Lk H (n + 1) (.ref a) (.ref b)
  | tup {n a b xs ys} : H a = some (.tup xs) → H b = some (.tup ys) → ys.length = xs.length → (∀ (i : Nat) x y, xs[i]? = some x → ys[i]? = some y → Lk H n x y) → Lk H (n + 1) (.ref a) (.ref b)
theorem Lk.same {H H' : Hp} {n : Nat} {x y : V} (h : Lk H n x y) (s : Same H H') : Lk H' n x y := by
  induction h with
  | non => exact .non
  | int i => exact .int i
  | str z => exact .str z
  | lst a b e _ ih => exact .lst (s _ _ a) (s _ _ b) e ih
  | tup a b e _ ih => exact .tup (s _ _ a) (s _ _ b) e ih
def spAlike (n : Nat) : Sp := fun vs H Q _ => ∃ u v, vs = [u, v] ∧ Lk H n u v ∧ ∀ H', Same H H' → Q (.bl true) H'
def spNo : Sp := fun _ _ _ _ => False
theorem ty_of {H : Hp} {x : V} {t : Value} (h : TyOf K H x t) : TyX K H x t := .inl h
theorem rel_ty {n : String} : RelV (.ty n) (.type n) ∧ ∀ u, RelV (.ty n) u → u = .type n := ⟨rfl, fun _ z => z⟩
theorem ok_alike0 (d : zC K mg "_law_alike" yT ["_law_found", "_law_due"]) : Ok P w K mg base CX0 1 "_law_alike" ["_law_found", "_law_due"] spNo := by
  obtain ⟨g, fd, m, F, b⟩ := d
  exact ⟨g, fd, m, F.kp, b, F.ok sc_l_alike (fun vs H Q E h => nomatch h) fun cdv A outer s H vs Q E hr h => nomatch h⟩
theorem ok_alike_s {n : Nat} {sp : Sp} (hsp : ∀ n', n = n' + 1 → sp = spAlike n') (d : zC K mg "_law_alike" yT ["_law_found", "_law_due"]) (AK : AlK K mg) (hlen : mg "len" = none) (hzip : mg "zip" = none) (AL : Ok P w K mg base CX0 (n + 1) "_law_alike" ["_law_found", "_law_due"] sp) : Ok P w K mg base CX0 (n + 2) "_law_alike" ["_law_found", "_law_due"] (spAlike n) := by
  obtain ⟨g, fd, m, F, b⟩ := d
  refine ⟨g, fd, m, F.kp, b, F.ok sc_l_alike (fun vs H Q E ⟨_, _, e, _⟩ => by rw [e]; rfl) fun cdv A outer s H vs Q E hr h => ?_⟩
  obtain ⟨u, v, rfl, hL, q⟩ := h
  have nd := sc_l_alike.nd
  have hrA := hr
  have hisi := AK.isi
  refine ⟨_, (zb (yr (zX op_isN (pv 1) yZ (zW _)) (zh (zu (xh op_isN (pv 0) yZ (zW _)))) zK)
      (zb (yr (yA (zF yt (by rfl) AK.isi PyProof.Rows.boot_isinstance (za (pv 1) (za (pe_bty AK.str PyProof.Rows.boot_str) zd)))) (zh (zu (pe_and (zF yt (by rfl) AK.isi PyProof.Rows.boot_isinstance (za (pv 0) (za (pe_bty AK.str PyProof.Rows.boot_str) zd))) (pe_one (xh op_eq (pv 0) (pv 1) (zW _)))))) zK)
      (zb (yr (pt_not (yA (zF call_isinstT (by rfl) hisi PyProof.Rows.boot_isinstance (za (pv 1) (za (yJ (za (pe_bty AK.lst PyProof.Rows.boot_list) (za (pe_bty AK.tup PyProof.Rows.boot_tuple) zd))) zd))))) (zh (zu (pe_and (zF yt (by rfl) AK.isi PyProof.Rows.boot_isinstance (za (pv 0) (za (pe_bty AK.int PyProof.Rows.boot_int) zd))) (pe_and (pe_not (zF yt (by rfl) AK.isi PyProof.Rows.boot_isinstance (za (pv 0) (za (pe_bty AK.bool PyProof.Rows.boot_bool) zd)))) (pe_one (xh op_eq (pv 0) (pv 1) (zW _))))))) zK)
      (zb (yr (pw_and (yA (zF yt (by rfl) AK.isi PyProof.Rows.boot_isinstance (za (pv 1) (za (pe_bty AK.lst PyProof.Rows.boot_list) zd)))) (xg (pt_not (yA (zF yt (by rfl) AK.isi PyProof.Rows.boot_isinstance (za (pv 0) (za (pe_bty AK.lst PyProof.Rows.boot_list) zd))))))).pt (zh (zu pe_bl)) zK)
      (zb (yr (pw_and (yA (zF yt (by rfl) AK.isi PyProof.Rows.boot_isinstance (za (pv 1) (za (pe_bty AK.tup PyProof.Rows.boot_tuple) zd)))) (xg (pt_not (yA (zF yt (by rfl) AK.isi PyProof.Rows.boot_isinstance (za (pv 0) (za (pe_bty AK.tup PyProof.Rows.boot_tuple) zd))))))).pt (zh (zu pe_bl)) zK)
      (zb (yr (zX op_ne (zF ye (by rfl) hlen PySem.boot_len (za (pv 0) zd)) (zF ye (by rfl) hlen PySem.boot_len (za (pv 1) zd)) (zW _)) (zh (zu pe_bl)) zK)
      (zb (ps_for PassesOwn.never rfl (pi_zb rfl hzip (za (pv 0) (za (pv 1) zd))) (pg_tup rfl (pgs_cons (zI (i := 2) nd rfl (Or.inl rfl)) (pgs_cons (zI (i := 3) nd rfl (Or.inl rfl)) pgs_nil))) (zh (yr (pt_not (yA (zO AL hrA (by rfl) zr (za (pv 2) (za (pv 3) zd))))) (zh (zu pe_bl)) zK)))
      (zh (zu pe_bl))))))))), ?_⟩
  have kL : PySem.W.kitAny K (.type "list") [.type "list", .type "tuple"] = some true := by unfold PySem.W.kitAny; rw [AK.ll]
  have kT : PySem.W.kitAny K (.type "tuple") [.type "list", .type "tuple"] = some true := by unfold PySem.W.kitAny; rw [AK.tl]; unfold PySem.W.kitAny; rw [AK.tt]
  have kI : PySem.W.kitAny K (.type "int") [.type "list", .type "tuple"] = some false := by unfold PySem.W.kitAny; rw [AK.il]; unfold PySem.W.kitAny; rw [AK.it]; rfl
  cases hL with
  | non =>
    refine ⟨_, rfl, rfl, _, rfl, ?_⟩
    refine iteT ⟨_, rfl, rfl, q H (Same.refl _)⟩
  | str z =>
    refine ⟨_, rfl, rfl, _, rfl, yn ?_⟩
    refine ⟨_, rfl, .str z, .ty "str", .type "str", .type "str", true, rfl, rel_ty.1, rel_ty.2, ty_of (.str z), AK.ss, _, rfl, iteT ?_⟩
    refine ⟨_, rfl, .str z, .ty "str", .type "str", .type "str", true, rfl, rel_ty.1, rel_ty.2, ty_of (.str z), AK.ss, _, rfl, iteT ?_⟩
    refine ⟨_, rfl, _, rfl, rfl, ?_⟩
    rw [decide_eq_true rfl]
    exact q H (Same.refl _)
  | int i =>
    refine ⟨_, rfl, rfl, _, rfl, yn ?_⟩
    refine ⟨_, rfl, .int i, .ty "str", .type "str", .type "int", false, rfl, rel_ty.1, rel_ty.2, ty_of (.int i), AK.is, _, rfl, yn ?_⟩
    refine ⟨_, rfl, (by show 2 ≤ sizeLine; decide), fun tp ntp => ⟨.int i, tp, _, .type "int", false, rfl, zf, rfl, .int i, kI, _, rfl, ?_⟩⟩
    have s1 : Same H (upd H tp (.tup [.ty "list", .ty "tuple"])) := zg (Same.refl _) ntp
    refine iteT ?_
    refine ⟨_, rfl, .int i, .ty "int", .type "int", .type "int", true, rfl, rel_ty.1, rel_ty.2, ty_of (.int i), AK.ii, _, rfl, iteT ?_⟩
    refine ⟨_, rfl, .int i, .ty "bool", .type "bool", .type "int", false, rfl, rel_ty.1, rel_ty.2, ty_of (.int i), AK.ib, _, rfl, _, rfl, iteT ?_⟩
    refine ⟨_, rfl, _, rfl, rfl, ?_⟩
    rw [decide_eq_true rfl]
    exact q _ s1
  | @lst n a b xs ys ea eb el hx =>
    have hsp := hsp n rfl
    subst hsp
    refine ⟨_, rfl, rfl, _, rfl, yn ?_⟩
    refine ⟨_, rfl, .ref b, .ty "str", .type "str", .type "list", false, rfl, rel_ty.1, rel_ty.2, ty_of (.lst eb), AK.ls, _, rfl, yn ?_⟩
    refine ⟨_, rfl, (by show 2 ≤ sizeLine; decide), fun tp ntp => ⟨.ref b, tp, _, .type "list", true, rfl, zf, rfl, ?_, kL, _, rfl, yn ?_⟩⟩
    · exact .lst (zg (Same.refl _) ntp _ _ eb)
    have s1 : Same H (upd H tp (.tup [.ty "list", .ty "tuple"])) := zg (Same.refl _) ntp
    generalize upd H tp (.tup [.ty "list", .ty "tuple"]) = H1 at s1 ⊢
    have ea1 := s1 _ _ ea
    have eb1 := s1 _ _ eb
    refine ⟨_, rfl, .ref b, .ty "list", .type "list", .type "list", true, rfl, rel_ty.1, rel_ty.2, ty_of (.lst eb1), AK.ll, _, rfl, iteT ⟨_, rfl, .ref a, .ty "list", .type "list", .type "list", true, rfl, rel_ty.1, rel_ty.2, ty_of (.lst ea1), AK.ll, _, rfl, yn ?_⟩⟩
    refine ⟨_, rfl, .ref b, .ty "tuple", .type "tuple", .type "list", false, rfl, rel_ty.1, rel_ty.2, ty_of (.lst eb1), AK.lt, _, rfl, yn (yn ?_)⟩
    refine ⟨_, rfl, a, _, rfl, .inl (SqL.of ea1), _, rfl, b, _, rfl, .inl (SqL.of eb1), rfl, _, rfl, ?_⟩
    rw [el, decide_eq_true rfl]
    refine yn ?_
    refine ⟨_, rfl, _, rfl, a, b, rfl, .inl ⟨⟨_, SqL.of ea1⟩, ⟨_, SqL.of eb1⟩, ?_⟩⟩
    refine for_zip (xs := xs) (ys := ys) (fun i σ J => ∃ u2 u3, σ = [some (.ref a), some (.ref b), u2, u3] ∧ Same H1 J) ⟨none, none, rfl, Same.refl _⟩ (fun i σ J _ ⟨_, _, _, s2⟩ => ⟨SqL.of (s2 _ _ ea1), SqL.of (s2 _ _ eb1)⟩) el ?_ ?_
    · rintro i x y σ J T hx1 hy1 ⟨u2, u3, rfl, s2⟩ nT
      have s3 : Same J (upd J T (.tup [x, y])) := zg (Same.refl _) nT
      refine ⟨T, _, rfl, SqT.of zf, rfl, _, _, rfl, _, _, rfl, rfl, ?_⟩
      refine ⟨_, rfl, _, rfl, x, y, rfl, (hx i x y hx1 hy1).same ((s1.trans s2).trans s3), fun J2 s4 => ⟨_, rfl, yn ?_⟩⟩
      exact ⟨_, _, rfl, (s2.trans s3).trans s4⟩
    · rintro σ J ⟨u2, u3, rfl, s2⟩
      exact q J (s1.trans s2)
  | @tup n a b xs ys ea eb el hx =>
    have hsp := hsp n rfl
    subst hsp
    refine ⟨_, rfl, rfl, _, rfl, yn ?_⟩
    refine ⟨_, rfl, .ref b, .ty "str", .type "str", .type "tuple", false, rfl, rel_ty.1, rel_ty.2, ty_of (.tup eb), AK.ts, _, rfl, yn ?_⟩
    refine ⟨_, rfl, (by show 2 ≤ sizeLine; decide), fun tp ntp => ⟨.ref b, tp, _, .type "tuple", true, rfl, zf, rfl, ?_, kT, _, rfl, yn ?_⟩⟩
    · exact .tup (zg (Same.refl _) ntp _ _ eb)
    have s1 : Same H (upd H tp (.tup [.ty "list", .ty "tuple"])) := zg (Same.refl _) ntp
    generalize upd H tp (.tup [.ty "list", .ty "tuple"]) = H1 at s1 ⊢
    have ea1 := s1 _ _ ea
    have eb1 := s1 _ _ eb
    refine ⟨_, rfl, .ref b, .ty "list", .type "list", .type "tuple", false, rfl, rel_ty.1, rel_ty.2, ty_of (.tup eb1), AK.tl, _, rfl, yn (yn ?_)⟩
    refine ⟨_, rfl, .ref b, .ty "tuple", .type "tuple", .type "tuple", true, rfl, rel_ty.1, rel_ty.2, ty_of (.tup eb1), AK.tt, _, rfl, iteT ⟨_, rfl, .ref a, .ty "tuple", .type "tuple", .type "tuple", true, rfl, rel_ty.1, rel_ty.2, ty_of (.tup ea1), AK.tt, _, rfl, yn ?_⟩⟩
    refine ⟨_, rfl, a, _, rfl, .inr (SqT.of ea1), _, rfl, b, _, rfl, .inr (SqT.of eb1), rfl, _, rfl, ?_⟩
    rw [el, decide_eq_true rfl]
    refine yn ?_
    refine ⟨_, rfl, _, rfl, a, b, rfl, .inr ⟨⟨_, SqT.of ea1⟩, ⟨_, SqT.of eb1⟩, ?_⟩⟩
    refine for_zt (xs := xs) (ys := ys) (fun i σ J => ∃ u2 u3, σ = [some (.ref a), some (.ref b), u2, u3] ∧ Same H1 J) ⟨none, none, rfl, Same.refl _⟩ (fun i σ J _ ⟨_, _, _, s2⟩ => ⟨SqT.of (s2 _ _ ea1), SqT.of (s2 _ _ eb1)⟩) el ?_ ?_
    · rintro i x y σ J T hx1 hy1 ⟨u2, u3, rfl, s2⟩ nT
      have s3 : Same J (upd J T (.tup [x, y])) := zg (Same.refl _) nT
      refine ⟨T, _, rfl, SqT.of zf, rfl, _, _, rfl, _, _, rfl, rfl, ?_⟩
      refine ⟨_, rfl, _, rfl, x, y, rfl, (hx i x y hx1 hy1).same ((s1.trans s2).trans s3), fun J2 s4 => ⟨_, rfl, yn ?_⟩⟩
      exact ⟨_, _, rfl, (s2.trans s3).trans s4⟩
    · rintro σ J ⟨u2, u3, rfl, s2⟩
      exact q J (s1.trans s2)
theorem ok_alike (d : zC K mg "_law_alike" yT ["_law_found", "_law_due"]) (AK : AlK K mg) (hlen : mg "len" = none) (hzip : mg "zip" = none) : ∀ n : Nat, Ok P w K mg base CX0 (n + 2) "_law_alike" ["_law_found", "_law_due"] (spAlike n)
  | 0 => ok_alike_s (fun n' e => by cases e) d AK hlen hzip (ok_alike0 d)
  | n + 1 => ok_alike_s (fun n' e => by cases e; rfl) d AK hlen hzip (ok_alike d AK hlen hzip n)
end
end K35
namespace K35
open PySem L2
theorem sel_in (js : List Int) (m : List Bool) (j : Nat) (hj : j < m.length) (h : (j : Int) ∈ js ∨ m.getD j false = true) : (sel m js).getD j false = true := by
  induction js generalizing m with
  | nil =>
    rcases h with h | h
    · cases h
    · exact h
  | cons i js ih =>
    show (sel (m.set i.toNat true) js).getD j false = true
    refine ih _ (by rw [List.length_set]; exact hj) ?_
    by_cases e : i.toNat = j
    · right
      rw [List.getD_eq_getElem?_getD, e, List.getElem?_set_self hj]; rfl
    · rcases h with h | h
      · rcases List.mem_cons.mp h with h | h
        · exact absurd (by rw [← h]; rfl) e
        · exact .inl h
      · right
        rw [List.getD_eq_getElem?_getD, List.getElem?_set_ne e, ← List.getD_eq_getElem?_getD]; exact h
theorem dst_lt (d : List Int) (q : Nat) (m : List Bool) (lo k j : Nat) (h : j < lo) : (dst d q m lo k).getD j false = m.getD j false := by
  induction k with
  | zero => rfl
  | succ k ih => rw [dst_succ, List.getD_eq_getElem?_getD, List.getElem?_set_ne (by omega), ← List.getD_eq_getElem?_getD]; exact ih
theorem mem_upto {n j : Nat} (h : j < n) : (j : Int) ∈ upto n := List.mem_map.mpr ⟨j, List.mem_range.mpr h, rfl⟩
theorem actTo_all (M : Mc) (k n : Nat) (h : ∀ j, j < n → M.isAct k j = true) : M.actTo k n = upto n := by
  unfold Mc.actTo upto
  rw [List.filter_eq_self.mpr fun j hj => h j (List.mem_range.mp hj)]
  rfl
theorem strip_act {M : Mc} (ok : MOk0 M) (hg : M.group = 1 ∨ M.group = 2 ∨ M.group = 4) {b : Int} (hb : b ≤ M.many) : (M.strip b).act 0 = upto (M.wide b).toNat ∧ MOk (M.strip b) := by
  have l1 := ok.l1
  have rb : M.group * M.lanes ≤ 4 * M.lanes ∧ 1 ≤ M.group * M.lanes := by rcases hg with e | e | e <;> rw [e] <;> omega
  have w01 : 0 ≤ M.wide b ∧ M.wide b ≤ M.group * M.lanes := by unfold Mc.wide; split <;> omega
  have ml : 0 < M.masks.length := by rw [ok.ml]; decide
  have lm : (M.masks.getD 0 []).length = 4 * M.lanes := by
    rw [List.getD_eq_getElem?_getD, List.getElem?_eq_getElem ml]; exact ok.mm _ (List.getElem_mem ml)
  refine ⟨?_, ?_⟩
  · refine actTo_all _ _ _ fun j hj => ?_
    have hj : j < (M.wide b).toNat := hj
    unfold Mc.isAct
    have e1 : ((M.strip b).masks.getD 0 []).getD j false = true := by
      show ((M.masks.set 0 _).getD 0 []).getD j false = true
      rw [List.getD_eq_getElem?_getD (l := M.masks.set 0 _), List.getElem?_set_self ml]
      show (dst _ _ (sel (clr (M.masks.getD 0 []) (M.wide b).toNat) (upto (M.wide b).toNat)) (M.wide b).toNat _).getD j false = true
      rw [dst_lt _ _ _ _ _ _ hj]
      exact sel_in _ _ _ (by rw [clr_len, lm]; omega) (.inl (mem_upto hj))
    rw [e1]
    rfl
  · refine ⟨ok.l1, ok.l64, hg, ok.nl, ?_, fun m hm => ?_, w01.1, w01.2⟩
    · show (M.masks.set 0 _).length = 16
      rw [List.length_set]; exact ok.ml
    · rcases List.mem_or_eq_of_mem_set hm with hm | rfl
      · exact ok.mm m hm
      · show (dst _ _ (sel (clr (M.masks.getD 0 []) _) _) _ _).length = _
        rw [dst_len, sel_len, clr_len, lm]
        rfl
theorem layOne_is (told : List (Key × V)) (p : Nat) (M : Mc) (t : Nat) : M.layOne told p t = { M with nums := (M.layOne told p t).nums, dq := (M.layOne told p t).dq } := by
  unfold Mc.layOne; split <;> rfl
theorem layTo_is (told : List (Key × V)) (p : Nat) (M : Mc) (n : Nat) : M.layTo told p n = { M with nums := (M.layTo told p n).nums, dq := (M.layTo told p n).dq } := by
  induction n with
  | zero => rfl
  | succ n ih =>
    rw [M.layTo_succ]
    have e := layOne_is told p (M.layTo told p n) n
    rw [e]
    rw [ih]
theorem layTo_at (told : List (Key × V)) (p : Nat) (M : Mc) (n j : Nat) (v : Int) (hj : j < n) (hin : ∀ t : Nat, t < n → 0 ≤ (p : Int) * M.group * M.lanes + t ∧ ((p : Int) * M.group * M.lanes + t).toNat < M.nums.length) (hv : yl told (.inl (j : Int)) = some (.int v)) : (M.layTo told p n).numAt p j = v := by
  induction n with
  | zero => omega
  | succ n ih =>
    have s := M.layTo_same told p n
    have hn := hin n (by omega)
    have hjj := hin j hj
    rw [M.layTo_succ]
    by_cases e : j = n
    · subst e
      unfold Mc.layOne
      rw [hv]
      show (List.set _ _ _).getD _ 0 = v
      rw [s.g, s.l, List.getD_eq_getElem?_getD, List.getElem?_set_self (by rw [s.n]; exact hn.2)]; rfl
    · have e2 : ((M.layTo told p n).layOne told p n).numAt p j = (M.layTo told p n).numAt p j := by
        unfold Mc.layOne
        split
        · show (List.set _ _ _).getD _ 0 = _
          rw [List.getD_eq_getElem?_getD, List.getElem?_set_ne (by rw [s.g, s.l]; omega), ← List.getD_eq_getElem?_getD]; rfl
        · show (List.set _ _ _).getD _ 0 = _
          rw [List.getD_eq_getElem?_getD, List.getElem?_set_ne (by rw [s.g, s.l]; omega), ← List.getD_eq_getElem?_getD]; rfl
      rw [e2]
      exact ih (by omega) fun t ht => hin t (by omega)
inductive Steps (L : Lex) (code : List (List V)) : Nat → Mc → Mc → Prop
  | refl {M} : Steps L code 0 M M
  | cons {n M M1 Mf tv} : 0 ≤ M.pc → M.refusal = none → code[M.pc.toNat]? = some tv → Step L tv M M1 → Steps L code n M1 Mf → Steps L code (n + 1) M Mf
theorem Steps.trans {L : Lex} {code : List (List V)} {n k : Nat} {M M1 M2 : Mc} (h : Steps L code n M M1) (h2 : Steps L code k M1 M2) : Steps L code (n + k) M M2 := by
  induction h with
  | refl => rw [Nat.zero_add]; exact h2
  | cons a b c d _ ih => rw [Nat.add_right_comm]; exact .cons a b c d (ih h2)
theorem Steps.run {L : Lex} {code : List (List V)} {n : Nat} {M M1 : Mc} (h : Steps L code n M M1) (e : (code.length : Int) ≤ M1.pc ∨ M1.refusal.isSome = true) : Run L code n M M1 := by
  induction h with
  | refl => exact .done e
  | cons a b c d _ ih => exact .step a b c d (ih e)
end K35
namespace K35
open PySem L2
section
variable {P : Program} {w : World} {K : PySem.W.Frag} {mg : Str → Option Value} {base : Heap}
end
section
variable {P : Program} {w : World} {K : PySem.W.Frag} {mg : Str → Option Value} {base : Heap}
end
end K35
namespace K35
open PySem L2
def rowAll (M : Mc) (r : Nat) : Prop := r < M.starts.length ∧ r < M.lens.length ∧ 0 ≤ M.starts.getD r 0 ∧ M.starts.getD r 0 + M.lens.getD r 0 ≤ M.cells.length
section
variable {P : Program} {w : World} {K : PySem.W.Frag} {mg : Str → Option Value} {base : Heap}
end
end K35
namespace L2
open PySem
theorem pg_tupK {X : Cx} {K : PySem.W.Frag} {es : List Expr} {k : Nat} {t : TGs} {n : Nat} {pos : Pos} (e : X.K = K) (hc : X.calm = true) (h : PGs X es t) (hn : (assignEach es X.env).length = n := by rfl) (hst : (assignEach es X.env).findIdx? (·.1) = none := by rfl) : PG X (.Tuple es k pos) (gTup K n t) := e ▸ pg_tup hc h hn hst
theorem comp_zip {K : PySem.W.Frag} {l1 l2 D : Addr} {xs ys : List V} {g : TG} {te : TE} {σY : St} {H1 : Hp} {Q : VK} (Pv : Nat → St → Hp → Prop) (h0 : Pv 0 σY H1) (hl : ∀ i σ H, i ≤ xs.length → Pv i σ H → SqL K H l1 xs ∧ SqL K H l2 ys) (he : ys.length = xs.length)
    (hs : ∀ i x y σ H T, xs[i]? = some x → ys[i]? = some y → Pv i σ H → H T = none → g (.ref T) σ (upd H T (.tup [x, y])) fun σ3 H3 => te σ3 H3 fun v H4 => ∃ zs, H4 D = some (.lst zs) ∧ zs.length < sizeLine ∧ Pv (i + 1) σ3 (upd H4 D (.lst (zs ++ [v])))) (hd : ∀ σ H, Pv xs.length σ H → Q (.ref D) H) :
    CompW (Itz K l1 l2) g te σY H1 D Q := by
  refine ⟨fun i m σ H => m = xs.length - i ∧ i ≤ xs.length ∧ Pv i σ H, ⟨xs.length, by simp, Nat.zero_le _, h0⟩, ?_⟩
  rintro i m σ H ⟨rfl, hi, p⟩
  obtain ⟨q1, q2⟩ := hl i σ H hi p
  by_cases hlt : i < xs.length
  · refine .inr ⟨⟨xs, ys, xs[i], ys[i], q1, q2, by simp [hlt], by simp [he, hlt]⟩, Pv (i + 1), fun σ' H' p' => ⟨xs.length - (i + 1), by omega, rfl, hlt, p'⟩, fun x H' y => ?_⟩
    obtain ⟨T, u, v, e, nT, e', y⟩ := y
    subst e e'
    obtain ⟨y1, y2⟩ := y xs ys q1 q2
    exact hs i u v σ H T y1 y2 p nT
  · have e : i = xs.length := by omega
    subst e
    exact .inl ⟨⟨xs, ys, q1, q2, .inl (Nat.le_refl _)⟩, hd σ H p⟩
end L2
namespace K35
open PySem L2
section
variable {P : Program} {w : World} {K : PySem.W.Frag} {mg : Str → Option Value} {base : Heap}
end
end K35
namespace K35
open PySem L2
abbrev Tch := Int × Str × Int
abbrev DT := List Int × List Tch
def y4 (ds : List Int) (ps : List (Int × Int)) : List Int := ps.foldl (fun d pr => d.set pr.1.toNat pr.2) ds
theorem setAll_len (ps : List (Int × Int)) (ds : List Int) : (y4 ds ps).length = ds.length := by
  induction ps generalizing ds with
  | nil => rfl
  | cons p ps ih => show (y4 (ds.set _ _) ps).length = _; rw [ih, List.length_set]
theorem setAll_snoc (ds : List Int) (ps : List (Int × Int)) (p : Int × Int) : y4 ds (ps ++ [p]) = (y4 ds ps).set p.1.toNat p.2 := by unfold y4; rw [List.foldl_append]; rfl
theorem puts_cells (M : Mc) (q : Nat) (ps : List (Int × Int)) : (M.puts q ps).cells = y4 M.cells (ps.map fun p => (M.adr q p.1, p.2)) := by
  induction ps generalizing M with
  | nil => rfl
  | cons p ps ih => exact ih (M.wrote q p.1 p.2)
def wid (many side b : Int) : Nat := (min many (b + side) - b).toNat
structure InS (S LN : List Int) (L pl : Nat) (many group b : Int) (k : Nat) (s : DT) (M : Mc) : Prop where
  ok : MOk M
  wle : M.width ≤ (wid many (group * L) b : Nat)
  begun : M.begun = (wid many (group * L) b : Nat)
  base : M.base = b
  pc : M.pc = ((pl + k : Nat) : Int)
  opened : M.opened = (pl : Nat)
  many : M.many = many
  group : M.group = group
  lanes : M.lanes = L
  rf : M.refusal = none
  starts : M.starts = S
  lens : M.lens = LN
  cells : M.cells = s.1
  touches : M.touches = s.2
structure StripAt (S LN : List Int) (L pl : Nat) (many group b : Int) (s : DT) (M : Mc) : Prop where
  i : InS S LN L pl many group b 1 s M
  act : M.act 0 = upto (wid many (group * L) b)
  flt : M.faults = []
  cut : M.cut = none
structure RestAt (S LN : List Int) (L : Nat) (pc : Nat) (s : DT) (M : Mc) : Prop where
  ok : MOk0 M
  lanes : M.lanes = L
  rf : M.refusal = none
  starts : M.starts = S
  lens : M.lens = LN
  pc : M.pc = pc
  cells : M.cells = s.1
  touches : M.touches = s.2
theorem layTo_off (told : List (Key × V)) (p : Nat) (M : Mc) (n i : Nat) (h : ∀ t : Nat, t < n → ((p : Int) * M.group * M.lanes + t).toNat ≠ i) : (M.layTo told p n).nums.getD i 0 = M.nums.getD i 0 := by
  induction n with
  | zero => rfl
  | succ n ih =>
    have s := M.layTo_same told p n
    have hn := h n (by omega)
    rw [M.layTo_succ]
    have e2 : ((M.layTo told p n).layOne told p n).nums.getD i 0 = (M.layTo told p n).nums.getD i 0 := by
      unfold Mc.layOne
      split
      · show (List.set _ _ _).getD _ 0 = _
        rw [List.getD_eq_getElem?_getD, List.getElem?_set_ne (by rw [s.g, s.l]; exact hn), ← List.getD_eq_getElem?_getD]
      · show (List.set _ _ _).getD _ 0 = _
        rw [List.getD_eq_getElem?_getD, List.getElem?_set_ne (by rw [s.g, s.l]; exact hn), ← List.getD_eq_getElem?_getD]
    rw [e2]
    exact ih fun t ht => h t (by omega)
theorem seats_apart {g L p q j t : Int} (g0 : 1 ≤ g) (l1 : 1 ≤ L) (ne : p ≠ q) (j0 : 0 ≤ j) (j1 : j < g * L) (t0 : 0 ≤ t) (t1 : t < g * L) : p * g * L + t ≠ q * g * L + j := by
  intro z
  rw [Int.mul_assoc, Int.mul_assoc] at z
  generalize g * L = x at *
  rcases Int.lt_or_gt_of_ne ne with h | h
  · have a : (p + 1) * x ≤ q * x := Int.mul_le_mul_of_nonneg_right (by omega) (by omega)
    rw [Int.add_mul] at a
    omega
  · have a : (q + 1) * x ≤ p * x := Int.mul_le_mul_of_nonneg_right (by omega) (by omega)
    rw [Int.add_mul] at a
    omega
section
variable {Lx : Lex} {S LN : List Int} {L pl k : Nat} {many group b : Int} {s : DT} {M : Mc}
theorem InS.one {code : List (List V)} {tv : List V} {M' : Mc} (h : InS S LN L pl many group b k s M) (c : code[pl + k]? = some tv) (st : Step Lx tv M M') : Steps Lx code 1 M M' :=
  .cons (by rw [h.pc]; exact Int.natCast_nonneg _) h.rf (by rw [h.pc, Int.toNat_natCast]; exact c) st .refl
theorem InS.mem (h : InS S LN L pl many group b k s M) {m : Nat} {j : Int} (hj : j ∈ M.act m) : 0 ≤ j ∧ j < group * L ∧ b + j < many := by
  have a := Mc.act_mem hj
  have w := h.wle
  have w0 := h.ok.w0
  unfold wid at w
  omega
theorem InS.len (h : InS S LN L pl many group b k s M) (m : Nat) : (M.act m).length ≤ wid many (group * L) b := by
  have a := M.actTo_len m M.width.toNat
  have w := h.wle
  have w0 := h.ok.w0
  unfold Mc.act
  omega
end
def upG (one : Int → DT → DT) (side : Int) (s : DT) (i : Nat) : DT := (List.range i).foldl (fun s (i : Nat) => one (i * side) s) s
theorem yW (one : Int → DT → DT) (side : Int) (s : DT) (i : Nat) : upG one side s (i + 1) = one (i * side) (upG one side s i) := by unfold upG; rw [List.range_succ, List.foldl_append]; rfl
theorem wide_wid {M : Mc} {b : Int} (hb : b ≤ M.many) (hg : 0 ≤ M.group * M.lanes) : M.wide b = (wid M.many (M.group * M.lanes) b : Nat) := by
  unfold Mc.wide wid
  split <;> omega
theorem stripAt_of {S LN : List Int} {L pl : Nat} {many group b : Int} {s : DT} {M : Mc} (ok : MOk0 M) (hg : group = 1 ∨ group = 2 ∨ group = 4) (e1 : M.group = group) (e2 : M.many = many) (e3 : M.lanes = L) (e4 : M.opened = pl) (hb : b ≤ many) (rf : M.refusal = none) (st : M.starts = S) (ln : M.lens = LN) (ce : M.cells = s.1) (to : M.touches = s.2) :
    StripAt S LN L pl many group b s { M.strip b with pc := pl + 1 } := by
  subst e1 e2 e3
  obtain ⟨a, o⟩ := strip_act ok hg hb
  have l1 := ok.l1
  have gp : 0 ≤ M.group * M.lanes := by rcases hg with e | e | e <;> rw [e] <;> omega
  have ww := wide_wid hb gp
  refine ⟨⟨⟨o.l1, o.l64, o.g, o.nl, o.ml, o.mm, o.w0, o.w1⟩, by show M.wide b ≤ _; rw [ww]; exact Int.le_refl _, ww, rfl, by show (pl : Int) + 1 = _; omega, e4, rfl, rfl, rfl, rf, st, ln, ce, to⟩, ?_, rfl, rfl⟩
  show (M.strip b).act 0 = _
  rw [a, ww, Int.toNat_natCast]
theorem round_gen {Lx : Lex} (hB : Lx.W "begin" beginW) (hX : Lx.W "next" nextW) {code : List (List V)} {S LN : List Int} {L pl n N : Nat} {many group : Int} {one : Int → DT → DT} {I : Nat → DT → Prop} {s : DT} {M : Mc} (h : RestAt S LN L pl s M) (hg : group = 1 ∨ group = 2 ∨ group = 4) (h1 : 1 ≤ many)
    (c0 : code[pl]? = some [.str "begin", .int many, .int group]) (c3 : code[pl + (n + 1)]? = some [.str "next"]) (hN : ∀ i : Nat, i < N ↔ (i : Int) * (group * L) < many) (i0 : I 0 s)
    (go : ∀ (i : Nat) (s : DT) (M : Mc), i < N → I i s → StripAt S LN L pl many group (i * (group * L)) s M → ∃ k M', Steps Lx code k M M' ∧ InS S LN L pl many group (i * (group * L)) (n + 1) (one (i * (group * L)) s) M' ∧ I (i + 1) (one (i * (group * L)) s)) :
    ∃ k M', Steps Lx code k M M' ∧ RestAt S LN L (pl + (n + 2)) (upG one (group * L) s N) M' ∧ I N (upG one (group * L) s N) := by
  have l1 := h.ok.l1
  have hL := h.lanes
  have sd : 1 ≤ group * (L : Int) := by rcases hg with e | e | e <;> rw [e] <;> omega
  have N1 : 0 < N := (hN 0).mpr (by omega)
  have low : ∀ i : Nat, (0 : Int) ≤ i * (group * L) := fun i => Int.mul_nonneg (by omega) (by omega)
  have sc : ∀ i : Nat, ((i + 1 : Nat) : Int) * (group * L) = i * (group * L) + group * L := fun i => by rw [Int.natCast_add, Int.add_mul]; show _ + 1 * (group * (L : Int)) = _; rw [Int.one_mul]
  have at_i : ∀ i : Nat, i < N → ∃ k M', Steps Lx code k M M' ∧ StripAt S LN L pl many group (i * (group * L)) (upG one (group * L) s i) M' ∧ I i (upG one (group * L) s i) := by
    intro i
    induction i with
    | zero =>
      intro _
      have st : Step Lx [.str "begin", .int many, .int group] M { M.round many group with pc := M.pc + 1 } := Step.way (L := Lx) (word := "begin") hB rfl ⟨many, group, rfl, rfl, h.ok, hg, by omega, rfl, rfl⟩
      have sa : StripAt S LN L pl many group 0 s { ({ M with opened := M.pc, many := many, group := group, carried := none } : Mc).strip 0 with pc := pl + 1 } := stripAt_of ⟨h.ok.l1, h.ok.l64, h.ok.nl, h.ok.ml, h.ok.mm⟩ hg rfl rfl h.lanes h.pc (by omega) h.rf h.starts h.lens h.cells h.touches
      rw [h.pc] at st
      refine ⟨1, _, .cons (by rw [h.pc]; omega) h.rf (by rw [h.pc, Int.toNat_natCast]; exact c0) st .refl, ?_, i0⟩
      have e : ((0 : Nat) : Int) * (group * L) = 0 := by omega
      rw [e]
      unfold Mc.round
      rw [h.pc] at sa ⊢
      exact sa
    | succ i ih =>
      intro hi
      obtain ⟨k, M1, st, sa, ii⟩ := ih (by omega)
      have hi1 := (hN (i + 1)).mp hi
      rw [sc] at hi1
      have hl := low i
      have hw : wid many (group * L) (i * (group * L)) = (group * (L : Int)).toNat := by unfold wid; omega
      obtain ⟨k2, M2, st2, e2, i2⟩ := go i _ M1 (by omega) ii sa
      have bb : M2.base + M2.begun = ((i + 1 : Nat) : Int) * (group * L) := by rw [sc, e2.base, e2.begun, hw]; omega
      have st3 : Step Lx [.str "next"] M2 { M2.strip (((i + 1 : Nat) : Int) * (group * L)) with pc := (pl : Int) + 1 } := Step.way (L := Lx) (word := "next") hX rfl (by
        refine ⟨e2.ok.zero, by rw [e2.group]; exact hg, ?_⟩
        rw [bb, if_pos (by rw [e2.many, sc]; exact hi1), e2.opened]
        exact ⟨rfl, rfl⟩)
      refine ⟨k + k2 + 1, _, (st.trans st2).trans (e2.one c3 st3), ?_, by rw [yW]; exact i2⟩
      rw [yW]
      exact stripAt_of e2.ok.zero hg e2.group e2.many e2.lanes e2.opened (by rw [sc]; omega) e2.rf e2.starts e2.lens e2.cells e2.touches
  obtain ⟨k, M1, st, sa, ii⟩ := at_i (N - 1) (by omega)
  have hi0 := (hN (N - 1)).mp (by omega)
  have hi1 : ¬ ((N - 1 + 1 : Nat) : Int) * (group * L) < many := fun z => by have := (hN (N - 1 + 1)).mpr z; omega
  rw [sc] at hi1
  have hl := low (N - 1)
  have hw : (wid many (group * L) ((N - 1 : Nat) * (group * L)) : Int) = many - (N - 1 : Nat) * (group * L) := by unfold wid; omega
  obtain ⟨k2, M2, st2, e2, i2⟩ := go (N - 1) _ M1 (by omega) ii sa
  have st3 : Step Lx [.str "next"] M2 { M2 with pc := ((pl + (n + 2) : Nat) : Int) } := by
    refine Step.way (L := Lx) (word := "next") hX rfl ?_
    refine ⟨e2.ok.zero, by rw [e2.group]; exact hg, ?_⟩
    rw [if_neg (by rw [e2.base, e2.begun, e2.many]; omega), e2.pc]
    exact ⟨rfl, by omega⟩
  have eN : N = N - 1 + 1 := by omega
  refine ⟨k + k2 + 1, _, (st.trans st2).trans (e2.one c3 st3), ?_, by rw [eN, yW]; exact i2⟩
  rw [eN, yW]
  exact ⟨⟨e2.ok.l1, e2.ok.l64, e2.ok.nl, e2.ok.ml, e2.ok.mm⟩, e2.lanes, e2.rf, e2.starts, e2.lens, rfl, e2.cells, e2.touches⟩
end K35
namespace K35
open PySem L2
theorem MAt.putFault {c : MCs} {B : Hp} {A : Ma} {M : Mc} {R : List (Addr × HO)} {H : Hp} (m : MAt c B A M R H) (f : List (Key × V)) : MAt c B A { M with faults := f } R (upd H A.aF (.dK f)) :=
  ⟨⟨m.bb.lens, m.bb.starts, m.bb.bx, m.bb.msk, m.bb.ml, m.bb.dl, m.bb.pl, m.bb.tl, m.bb.tt, m.bb.ul, m.bb.uu, m.bb.rf⟩, m.h.put (o' := .dK f) 7 rfl⟩
def outF (f : List (Key × V)) (js : List Int) : List (Key × V) := js.foldl (fun f j => putK f (.inl j) (.str "outside")) f
theorem outF_len (js : List Int) (f : List (Key × V)) : (outF f js).length ≤ f.length + js.length := by
  induction js generalizing f with
  | nil => exact Nat.le_refl _
  | cons j js ih =>
    have := ih (putK f (.inl j) (.str "outside"))
    have := xc f (.inl j : Key) (.str "outside")
    show (outF (putK f _ _) js).length ≤ _
    rw [List.length_cons]; omega
section
variable {P : Program} {w : World} {K : PySem.W.Frag} {mg : Str → Option Value} {base : Heap}
end
end K35
namespace K35
open PySem L2
section
variable {P : Program} {w : World} {K : PySem.W.Frag} {mg : Str → Option Value} {base : Heap}
end
section
variable {P : Program} {w : World} {K : PySem.W.Frag} {mg : Str → Option Value} {base : Heap}
end
end K35
namespace K35
open PySem L2
section
variable {P : Program} {w : World} {K : PySem.W.Frag} {mg : Str → Option Value} {base : Heap}
end
def Mc.gaOne (M : Mc) (r : Nat) (place lane : Int) : Mc × Option Int := if 0 ≤ place ∧ place < M.lens.getD r 0 then (M.touched "read" (M.adr r place), some (M.cells.getD (M.adr r place).toNat 0)) else ({ M with faults := putK M.faults (.inl lane) (.str "outside") }, none)
theorem Mc.gaOne_is (M : Mc) (r : Nat) (place lane : Int) : (M.gaOne r place lane).1 = { M with touches := (M.gaOne r place lane).1.touches, faults := (M.gaOne r place lane).1.faults } ∧ (M.gaOne r place lane).1.touches.length ≤ M.touches.length + 1 ∧ (M.gaOne r place lane).1.faults.length ≤ M.faults.length + 1 := by
  unfold Mc.gaOne
  split
  · exact ⟨rfl, by show (M.touches ++ [_]).length ≤ _; rw [List.length_append]; exact Nat.le_refl _, Nat.le_succ _⟩
  · exact ⟨rfl, Nat.le_succ _, xc _ _ _⟩
def Mc.gaAll (r : Nat) : List (Int × Int) → Mc → Mc × List (Option Int)
  | [], M => (M, [])
  | p :: ps, M => let x := M.gaOne r p.1 p.2; let y := Mc.gaAll r ps x.1; (y.1, x.2 :: y.2)
theorem Mc.gaAll_snoc (r : Nat) (p : Int × Int) : ∀ (ps : List (Int × Int)) (M : Mc), Mc.gaAll r (ps ++ [p]) M = (((Mc.gaAll r ps M).1.gaOne r p.1 p.2).1, (Mc.gaAll r ps M).2 ++ [((Mc.gaAll r ps M).1.gaOne r p.1 p.2).2])
  | [], M => rfl
  | q :: ps, M => by
    show ((Mc.gaAll r (ps ++ [p]) _).1, _ :: (Mc.gaAll r (ps ++ [p]) _).2) = _
    rw [Mc.gaAll_snoc r p ps]; rfl
theorem Mc.gaAll_is (r : Nat) : ∀ (ps : List (Int × Int)) (M : Mc), (Mc.gaAll r ps M).1 = { M with touches := (Mc.gaAll r ps M).1.touches, faults := (Mc.gaAll r ps M).1.faults } ∧ (Mc.gaAll r ps M).1.touches.length ≤ M.touches.length + ps.length ∧ (Mc.gaAll r ps M).1.faults.length ≤ M.faults.length + ps.length ∧ (Mc.gaAll r ps M).2.length = ps.length
  | [], M => ⟨rfl, Nat.le_refl _, Nat.le_refl _, rfl⟩
  | p :: ps, M => by
    obtain ⟨a1, a2, a3⟩ := M.gaOne_is r p.1 p.2
    obtain ⟨b1, b2, b3, b4⟩ := Mc.gaAll_is r ps (M.gaOne r p.1 p.2).1
    refine ⟨?_, ?_, ?_, ?_⟩
    · show (Mc.gaAll r ps (M.gaOne r p.1 p.2).1).1 = { M with touches := (Mc.gaAll r ps (M.gaOne r p.1 p.2).1).1.touches, faults := (Mc.gaAll r ps (M.gaOne r p.1 p.2).1).1.faults }
      rw [b1]
      rw [a1]
    · show (Mc.gaAll r ps (M.gaOne r p.1 p.2).1).1.touches.length ≤ _
      rw [List.length_cons]; omega
    · show (Mc.gaAll r ps (M.gaOne r p.1 p.2).1).1.faults.length ≤ _
      rw [List.length_cons]; omega
    · show (_ :: (Mc.gaAll r ps _).2).length = _
      rw [List.length_cons, b4]; rfl
open Classical in
noncomputable def xi : FnM := fun tv M js => match (tv[2]? : Option V), (tv[3]? : Option V) with
  | some (V.int p), some (V.int r) => if 0 ≤ p ∧ (p + 1) * M.group ≤ 8 ∧ 0 ≤ r ∧ rowAll M r.toNat ∧ M.touches.length < 90000 ∧ M.faults.length < 90000 then some (Mc.gaAll r.toNat (js.map fun j => (M.numAt p.toNat j, j)) M) else none
  | _, _ => none
theorem gatherM_is {tv : List V} {M M' : Mc} {js : List Int} {ns : List (Option Int)} (h : xi tv M js = some (M', ns)) : ∃ (p r : Nat), tv[2]? = some (.int p) ∧ tv[3]? = some (.int r) ∧ ((p : Int) + 1) * M.group ≤ 8 ∧ rowAll M r ∧ M.touches.length < 90000 ∧ M.faults.length < 90000 ∧ M' = (Mc.gaAll r (js.map fun j => (M.numAt p j, j)) M).1 ∧ ns = (Mc.gaAll r (js.map fun j => (M.numAt p j, j)) M).2 := by
  unfold xi at h
  split at h
  · rename_i p r e1 e2
    split at h
    · rename_i hc
      obtain ⟨p0, p8, r0, ra, ht, hf⟩ := hc
      have h := Option.some.inj h
      refine ⟨p.toNat, r.toNat, by rw [e1]; congr 2; omega, by rw [e2]; congr 2; omega, by rw [Int.toNat_of_nonneg p0]; exact p8, ra, ht, hf, by rw [h], by rw [h]⟩
    · cases h
  · cases h
theorem gatherM_ok : FnMOk xi where
  ok := fun {tv M js M' ns} h ok => by
    obtain ⟨p, r, _, _, _, _, _, _, rfl, _⟩ := gatherM_is h
    rw [(Mc.gaAll_is r (js.map fun j => (M.numAt p j, j)) M).1]
    exact ⟨ok.l1, ok.l64, ok.g, ok.nl, ok.ml, ok.mm, ok.w0, ok.w1⟩
  g := fun {tv M js M' ns} h => by
    obtain ⟨p, r, _, _, _, _, _, _, rfl, _⟩ := gatherM_is h
    rw [(Mc.gaAll_is r (js.map fun j => (M.numAt p j, j)) M).1]
  n := fun {tv M js M' ns} h => by
    obtain ⟨p, r, _, _, _, _, _, _, _, rfl⟩ := gatherM_is h
    rw [(Mc.gaAll_is r (js.map fun j => (M.numAt p j, j)) M).2.2.2, List.length_map]
section
variable {P : Program} {w : World} {K : PySem.W.Frag} {mg : Str → Option Value} {base : Heap}
def spGa (c : MCs) : Sp := fun vs H Q _ => ∃ (B : Hp) (A : Ma) (M : Mc) (R : List (Addr × HO)) (r : Nat) (place lane : Int), vs = [.ref A.b, .int r, .int place, .int lane] ∧ MAt c B A M R H ∧ rowAll M r ∧ M.touches.length < 100000 ∧ M.faults.length < 100000 ∧
  ∀ B' A' H', Same B B' → A'.b = A.b → MAt c B' A' (M.gaOne r place lane).1 R H' → Q (oV (M.gaOne r place lane).2) H'
theorem ok_gaOne {c : MCs} (d : zC K mg "number_gathered" z9 ["bench", "row", "place", "lane"]) (CC : MCls K c) (RC : OkM P w K mg base CX0 2 c.bn "read_cell" ["self", "row", "place"] (spRead c)) : Ok P w K mg base CX0 3 "number_gathered" ["bench", "row", "place", "lane"] (spGa c) := by
  obtain ⟨g, fd, m, F, b⟩ := d
  refine ⟨g, fd, m, F.kp, b, F.ok sc_number_gathered (fun vs H Q E ⟨_, _, _, _, _, _, _, e, _⟩ => by rw [e]; rfl) fun cdv A outer s H vs Q E hr h => ?_⟩
  obtain ⟨B, A, M, R, r, place, lane, rfl, m, ⟨ra1, ra2, ra3, ra4⟩, ht, hf, q⟩ := h
  have hu := Nat.lt_of_le_of_lt (Nat.add_le_add_left (show 1 ≤ 64 by decide) _) hr.units
  have hr2 := hr
  have CN := CC.n
  have SL : (200000 : Nat) < sizeLine := by decide
  refine ⟨_, (zb (yr (pt_chain op_le op_lt zc (pv 2) (zE zB (zp (pv 0) rfl) (pv 1) (fun _ _ => rfl))) (zh (zu (yz RC CC.n.c hr2 zr (pv 0) (za (pv 1) (za (pv 2) zd))))) zK)
      (zb (ps_dput hu (zp (pv 0) rfl) (pv 3) yY rfl)
      (zh (zu yZ)))), ?_⟩
  refine ⟨_, rfl, _, _, rfl, rfl, _, rfl, ?_⟩
  by_cases z0 : 0 ≤ place
  · rw [decide_eq_true z0]
    refine iteT ⟨_, rfl, A.b, _, _, _, .ref A.aL, rfl, m.b, CN.c, CN.lengths, rfl, _, rfl, A.aL, _, _, _, rfl, rfl, SqL.of (m.h.sm _ _ m.bb.lens), at_int r ra2 rfl, _, _, rfl, rfl, _, rfl, ?_⟩
    by_cases z1 : place < M.lens.getD r 0
    · rw [decide_eq_true z1]
      have e : M.gaOne r place lane = (M.touched "read" (M.adr r place), some (M.cells.getD (M.adr r place).toNat 0)) := if_pos ⟨z0, z1⟩
      rw [e] at q
      refine iteT ⟨_, rfl, A.b, _, _, rfl, m.b, rfl, _, rfl, _, rfl, B, A, M, R, r, place, rfl, m, ht, ra1, ?_, ?_, fun B1 A1 H1 s1 eb m1 => q B1 A1 H1 s1 eb m1⟩
      · unfold Mc.adr; omega
      · unfold Mc.adr; omega
    · rw [decide_eq_false z1]
      have e : M.gaOne r place lane = ({ M with faults := putK M.faults (.inl lane) (.str "outside") }, none) := if_neg fun y => z1 y.2
      rw [e] at q
      exact yn ⟨_, rfl, A.b, _, _, _, .ref A.aF, rfl, m.b, CN.c, CN.faults, rfl, _, rfl, A.aF, _, rfl, DPut.k (k := .inl lane) (m.h.get 7 rfl) (by omega), q B A _ (Same.refl _) rfl (m.putFault _)⟩
  · rw [decide_eq_false z0]
    have e : M.gaOne r place lane = ({ M with faults := putK M.faults (.inl lane) (.str "outside") }, none) := if_neg fun y => z0 y.1
    rw [e] at q
    exact yn ⟨_, rfl, yn ⟨_, rfl, A.b, _, _, _, .ref A.aF, rfl, m.b, CN.c, CN.faults, rfl, _, rfl, A.aF, _, rfl, DPut.k (k := .inl lane) (m.h.get 7 rfl) (by omega), q B A _ (Same.refl _) rfl (m.putFault _)⟩⟩
theorem ok_gather {c : MCs} (d : zC K mg "numbers_gathered" zR ["bench", "step", "active"]) (hzip : mg "zip" = none) (CC : MCls K c) (NI : OkM P w K mg base CX0 3 c.bn "numbers_in" ["self", "seat", "active"] (spNums c K)) (NG : Ok P w K mg base CX0 3 "number_gathered" ["bench", "row", "place", "lane"] (spGa c)) : Ok P w K mg base CX0 4 "numbers_gathered" ["bench", "step", "active"] (spFn c xi) := by
  obtain ⟨g, fd, m, F, b⟩ := d
  refine ⟨g, fd, m, F.kp, b, F.ok sc_numbers_gathered (fun vs H Q E ⟨_, _, _, _, _, _, _, _, _, _, e, _⟩ => by rw [e]; rfl) fun cdv A outer s H vs Q E hr h => ?_⟩
  obtain ⟨B, A, M, R, st, aa, tv, js, M', ns, rfl, m, es, ea, ef, ok, hj, hl, q⟩ := h
  obtain ⟨p, r, e2, e3, p8, ra, ht, hf, rfl, rfl⟩ := gatherM_is ef
  have nd := sc_numbers_gathered.nd
  have hr3 := hr
  have CN := CC.n
  have SL : (3000 : Nat) < sizeLine := by decide
  let pr : Int → Int × Int := fun j => (M.numAt p j, j)
  refine ⟨_, (zb (zt (i := 3) nd rfl (Or.inl rfl) (yz NI CC.n.c hr3 zr (pv 0) (za (zE yM (pv 1) zc (fun _ _ => rfl)) (za (pv 2) zd))))
      (zh (zu (y3 ["place", "lane", "bench", "step"] [none, none, some 0, some 1] rfl rfl rfl (pi_zip rfl hzip (za (pv 3) (za (pv 2) zd))) (fun s3 H3 fp => ⟨pg_tupK (K := K) (n := 2) rfl rfl (pgs_cons (zI (i := 0) (show ((["place", "lane", "bench", "step"] : List Str)).Nodup by decide +kernel) rfl (Or.inl rfl)) (pgs_cons (zI (i := 1) (show ((["place", "lane", "bench", "step"] : List Str)).Nodup by decide +kernel) rfl (Or.inl rfl)) pgs_nil)), (zO NG hr3 (by rfl) zr (za (pv 2) (za (zE (ix_tupK (K := K) rfl) (pv 3) zc (fun _ _ => rfl)) (za (pv 0) (za (pv 1) zd)))))⟩))))), ?_⟩
  refine ⟨_, rfl, A.b, _, _, rfl, m.b, rfl, _, rfl, st, _, _, _, rfl, rfl, SqT.of (m.h.sm _ _ es), zM (j := 2) e2, _, rfl, B, A, M, R, p, aa, js, rfl, m, ok, p8, ea, hj, hl, fun B1 H1 l s1 m1 el => ?_⟩
  have ea1 := s1 _ _ ea
  refine ⟨_, rfl, _, rfl, l, aa, rfl, ⟨_, SqL.of (m1.h.sm _ _ el)⟩, ⟨_, SqL.of (m1.h.sm _ _ ea1)⟩, _, rfl, fun D nD => ?_⟩
  have m0 : MAt c B1 A (Mc.gaAll r ((js.take 0).map pr) M).1 ((D, .lst ((Mc.gaAll r ((js.take 0).map pr) M).2.map oV)) :: R) (upd H1 D (.lst [])) := m1.newR nD
  generalize upd H1 D (.lst []) = H2 at m0 ⊢
  refine comp_zip (K := K) (xs := (js.map (M.numAt p)).map V.int) (ys := js.map V.int) (fun i σ J => ∃ (u0 u1 : Option V) (B2 : Hp) (A2 : Ma), σ = [u0, u1, some (.ref A.b), some (.ref st)] ∧ Same B1 B2 ∧ A2.b = A.b ∧ MAt c B2 A2 (Mc.gaAll r ((js.take i).map pr) M).1 ((D, .lst ((Mc.gaAll r ((js.take i).map pr) M).2.map oV)) :: R) J) ⟨none, none, B1, A, rfl, Same.refl _, rfl, m0⟩ (fun i σ J _ ⟨_, _, B2, A2, _, s2, _, m2⟩ => ⟨SqL.of (m2.h.sm _ _ (s2 _ _ el)), SqL.of (m2.h.sm _ _ (s2 _ _ ea1))⟩) (by rw [List.length_map, List.length_map, List.length_map]) ?_ ?_
  · clear m0
    rintro i x y σ J T hx hy ⟨u0, u1, B2, A2, rfl, s2, eb, m2⟩ nT
    obtain ⟨j, e9, rfl⟩ := map_at hy
    obtain ⟨z, e10, rfl⟩ := map_at hx
    rw [List.getElem?_map, e9] at e10
    cases e10
    have hlt : i < js.length := (List.getElem?_eq_some_iff.mp e9).1
    have m3 := m2.grow (o := .tup [.int (M.numAt p j), .int j]) nT
    have s3 : Same B2 (upd B2 T (.tup [.int (M.numAt p j), .int j])) := zg (Same.refl _) (m2.h.free nT)
    have e4 : upd B2 T (.tup [.int (M.numAt p j), .int j]) T = some (.tup [.int (M.numAt p j), .int j]) := zf
    generalize upd J T (.tup [.int (M.numAt p j), .int j]) = J3 at m3 ⊢
    generalize upd B2 T (.tup [.int (M.numAt p j), .int j]) = B3 at m3 s3 e4
    obtain ⟨i1, i2, i3, i4⟩ := Mc.gaAll_is r ((js.take i).map pr) M
    have et : (js.take (i + 1)).map pr = (js.take i).map pr ++ [pr j] := by rw [List.take_add_one, e9, List.map_append]; rfl
    rw [et, Mc.gaAll_snoc]
    rw [List.length_map, List.length_take] at i2 i3 i4
    have sq : SqT K J3 st tv := SqT.of (m3.h.sm _ _ (s3 _ _ (s2 _ _ (s1 _ _ es))))
    have raI : rowAll (Mc.gaAll r ((js.take i).map pr) M).1 r := by rw [i1]; exact ra
    generalize Mc.gaAll r ((js.take i).map pr) M = X at *
    obtain ⟨MX, nX⟩ := X
    have i2 : MX.touches.length ≤ M.touches.length + min i js.length := i2
    have i3 : MX.faults.length ≤ M.faults.length + min i js.length := i3
    have i4 : nX.length = min i js.length := i4
    refine ⟨T, _, rfl, SqT.of (m3.h.sm _ _ e4), rfl, _, _, rfl, _, _, rfl, rfl, ?_⟩
    refine ⟨_, rfl, _, rfl, st, _, _, _, rfl, rfl, sq, zM (j := 3) e3, _, rfl, _, rfl, B3, A2, MX, _, r, M.numAt p j, j, by rw [eb]; rfl, m3, raI, by omega, by omega, fun B4 A4 H4 s4 eb4 m4 => ?_⟩
    refine ⟨_, m4.getR, (by rw [List.length_map]; omega), _, _, B4, A4, rfl, (s2.trans s3).trans s4, eb4.trans eb, ?_⟩
    rw [List.map_append]
    exact m4.putR
  · rintro σ J ⟨u0, u1, B2, A2, rfl, s2, eb, m2⟩
    rw [List.length_map, List.length_map, List.take_length] at m2
    have nb : B2 D = none := m2.h.nw (D, _) (List.mem_of_getElem? atR)
    exact q _ A2 J D ((s1.trans s2).trans (zg (Same.refl _) nb)) eb m2.settle zf
end
end K35
namespace K35
open PySem L2
section
variable {P : Program} {w : World} {K : PySem.W.Frag} {mg : Str → Option Value} {base : Heap}
end
end K35
namespace K35
open PySem L2
theorem outF_some (js : List Int) (f : List (Key × V)) (j : Int) : (yl (outF f js) (.inl j)).isSome = ((yl f (.inl j)).isSome || decide (j ∈ js)) := by
  induction js generalizing f with
  | nil => show _ = (_ || decide (j ∈ [])); rw [decide_eq_false (fun z => by cases z), Bool.or_false]; rfl
  | cons i js ih =>
    show (yl (outF (putK f (.inl i) (.str "outside")) js) (.inl j)).isSome = _
    rw [ih, valV_put]
    by_cases e : j = i
    · subst e
      rw [if_pos rfl, decide_eq_true (List.mem_cons_self)]
      rw [Bool.or_true]; rfl
    · rw [if_neg (fun z => e (Sum.inl.inj z))]
      congr 1
      by_cases m : j ∈ js
      · rw [decide_eq_true m, decide_eq_true (List.mem_cons_of_mem _ m)]
      · rw [decide_eq_false m, decide_eq_false (fun z => by rcases List.mem_cons.mp z with z | z; exact e z; exact m z)]
section
variable {Lx : Lex} {S LN : List Int} {L pl k : Nat} {many group b : Int} {s : DT} {M : Mc}
end
end K35
namespace L2
open PySem PySem.Spec PyProof.Rows
section
variable {X : Cx} {pins : List (Addr × Obj)} {σ σ' : St} {H H' : Hp} {s s' : Shared} {a : Addr} {kvs : List (Key × V)}
theorem Inv.hideD (I : Inv X pins σ H s) (e : H a = some (.dK kvs)) : ∃ (ob : Obj) (es : Array DictEntry) (ep : Nat) (vs : List (Key × Value)), KV kvs vs ∧ (ob.ExactDict ∧ ob.data = .dict es ep ∧ PySem.KeysOf (zH X.prog X.w) es ∧ PySem.Pairs (zH X.prog X.w) es.toList vs ∧ (vs.map (fun x => x.fst)).Nodup) ∧ s.heap.get? a = some ob ∧ (a == sysModules) = false ∧ kvs.length ≤ sizeLine ∧ Inv X ((a, ob) :: pins) σ (but H [a]) s := by
  obtain ⟨hz, hS, vs, r, ob, es, ep, ea, c1, c2, c3⟩ := I.hok a _ e
  have ne : ∀ {b : Addr} {o : HO}, H b = some o → o ≠ .dK kvs → b ∉ [a] := fun {b o} z y m => by
    cases List.mem_singleton.mp m
    rw [e] at z; injection z with z; exact y z.symm
  have nn : ∀ {b : Addr}, H b = none → but H [a] b = none := fun {b} z => by
    unfold but; split
    · rfl
    · exact z
  refine ⟨ob, es, ep, vs, r, ⟨c1, c2, c3⟩, ea, hS, hz, I.ok, I.os, I.bare, ⟨I.base.keep, I.base.slot, fun b o q m x => nn (I.base.free b o q m x), I.base.there, fun b ys q => but_of (I.base.tups b ys q) (ne (I.base.tups b ys q) (fun z => by cases z)), fun b o u q => but_of (I.base.frzs b o u q) (ne (I.base.frzs b o u q) (fun z => by cases z)), fun b ps q => let ⟨more, z⟩ := I.base.tbls b ps q; ⟨more, but_of z (ne z (fun z => by cases z))⟩⟩, I.loc, I.cell, nn I.free, fun x c q => nn (I.freeC x c q), fun p m => ?_, fun b u q => ?_, I.len⟩
  · rcases List.mem_append.mp m with m | m
    · have q := I.pin p (List.mem_append_left _ m)
      exact ⟨q.1, nn q.2.1, q.2.2⟩
    · rcases List.mem_cons.mp m with rfl | m
      · refine ⟨ea, but_none (List.mem_singleton_self a), fun z => ?_, fun z => ?_, fun v z => by rw [c2] at z; cases z⟩
        · have := I.free
          rw [← z] at this
          have e' : H a = some (.dK kvs) := e
          rw [e'] at this; cases this
        · obtain ⟨_, o, q, _⟩ := I.ok.funs.mem z
          have := I.base.free a o q (I.ok.frf a z) (fun y => I.ok.exfs a y z)
          rw [e] at this; cases this
      · have q := I.pin p (List.mem_append_right _ m)
        exact ⟨q.1, nn q.2.1, q.2.2⟩
  · obtain ⟨nb, q⟩ := but_inv q
    exact (I.hok b u q).stay (fun _ _ _ z => z) (fun c z => but_of z (ne z (fun y => by cases y))) (fun c ys z => but_of z (ne z (fun y => by cases y)))
theorem Inv.backD {ob : Obj} {es : Array DictEntry} {ep : Nat} {vs : List (Key × Value)} (I : Inv X pins σ H s) (e : H a = some (.dK kvs)) (r : KV kvs vs) (c : ob.ExactDict ∧ ob.data = .dict es ep ∧ PySem.KeysOf (zH X.prog X.w) es ∧ PySem.Pairs (zH X.prog X.w) es.toList vs ∧ (vs.map (fun x => x.fst)).Nodup) (hS : (a == sysModules) = false) (hz : kvs.length ≤ sizeLine) (J : Inv X ((a, ob) :: pins) σ' H' s') : H' a = none ∧ Inv X pins σ' (upd H' a (.dK kvs)) s' := by
  have ea := J.pin (a, ob) (List.mem_append_right _ List.mem_cons_self)
  have na : ∀ {b : Addr}, H b = none → b ≠ a := fun {b} z y => by subst y; rw [e] at z; cases z
  have st : ∀ {b : Addr} {o : HO}, H' b = some o → upd H' a (.dK kvs) b = some o := fun {b o} z => by rw [zj (zo z ea.2.1)]; exact z
  refine ⟨ea.2.1, J.ok, J.os, J.bare, ⟨J.base.keep, J.base.slot, fun b o q m x => ?_, J.base.there, fun b ys q => st (J.base.tups b ys q), fun b o u q => st (J.base.frzs b o u q), fun b ps q => let ⟨more, z⟩ := J.base.tbls b ps q; ⟨more, st z⟩⟩, J.loc, J.cell, ?_, fun x c q => ?_, fun p m => ?_, fun b u q => ?_, J.len⟩
  · rw [zj (na (I.base.free b o q m x))]; exact J.base.free b o q m x
  · rw [zj (na I.free)]; exact J.free
  · rw [zj (na (I.freeC x c q))]; exact J.freeC x c q
  · have q := J.pin p (by
      rcases List.mem_append.mp m with m | m
      · exact List.mem_append_left _ m
      · exact List.mem_append_right _ (List.mem_cons_of_mem _ m))
    exact ⟨q.1, by rw [zj (na (I.pin p m).2.1)]; exact q.2.1, q.2.2⟩
  · by_cases hb : b = a
    · subst hb
      rw [zf] at q
      cases q
      exact ⟨hz, hS, vs, r, ob, es, ep, ea.1, c⟩
    · rw [zj hb] at q
      exact (J.hok b u q).stay (fun _ _ _ z => z) (fun c z => st z) (fun c ys z => st z)
end
theorem kV_rel {P : Program} {w : World} {k : Key} {u : Value} (h : (zH P w).is k u = true) : RelV (kV k) u := by
  rcases yf h with ⟨i, t, rfl, rfl⟩ | ⟨x, t, rfl, rfl⟩
  · exact ⟨t, rfl⟩
  · exact ⟨t, rfl⟩
def Itk (kvs : List (Key × V)) : It := ⟨fun i _ => i < kvs.length, fun i H x H' => H' = H ∧ ∃ p, kvs[i]? = some p ∧ x = kV p.1, fun i _ => kvs.length ≤ i⟩
def tCompD (td : TE) (g : TG) (tt : TT) (te : TE) (σ0 : St → Hp → St → Prop) : TE := fun σ H Q => td σ H fun x H1 => ∃ d kvs, x = .ref d ∧ H1 d = some (.dK kvs) ∧ ∃ σY, σ0 σ (but H1 [d]) σY ∧ ∀ D, but H1 [d] D = none → D ≠ d → CompWF (Itk kvs) g tt te σY (upd (but H1 [d]) D (.lst [])) D fun v H' => H' d = none → Q v (upd H' d (.dK kvs))
section
variable {X : Cx} {tg : Expr}
theorem comp_coreD {iter elt tst : Expr} {scope : Scope} {pos pos' : Pos} {cl : List (Str × Addr)} {NY : List Str} {td : TE} {g : TG} {tt : TT} {te : TE} {σ0 : St → Hp → St → Prop} (hc : X.calm = true) (S : Sees X scope cl) (hi : PE X iter td)
    (hY : ∀ (s3 : Shared) (H3 : Hp) (fp : List Addr), PG (X.comp scope cl NY s3 H3 fp) tg g ∧ PT (X.comp scope cl NY s3 H3 fp) tst tt ∧ PE (X.comp scope cl NY s3 H3 fp) elt te)
    (h0 : ∀ (pins : List (Addr × Obj)) (σ : St) (H : Hp) (s3 : Shared) (σY : St), Inv X pins σ H s3 → σ0 σ H σY → σY.length = NY.length ∧ ∀ (i : Nat) (x : Str) (v : V), NY[i]? = some x → σY[i]? = some (some v) →
      ∃ c u, (((compEnvC scope cl 0 X.env).kindOf x = some .cell ∨ (compEnvC scope cl 0 X.env).kindOf x = some .free)) ∧ cl.lookup x = some c ∧ RelV v u ∧ s3.heap.IsCell c (some u))
    (hs : ∀ x, foldedSetIterable iter X.env x = pure x) {use : Option (Value → Sem Unit)} {R : Value → Shared → Prop} {pins : List (Addr × Obj)} {s : Shared} {σ : St} {H : Hp} {Q : VK} (I : Inv X pins σ H s) (h : tCompD td g tt te σ0 σ H Q)
    (fin : ∀ (C D : Addr) (H5 : Hp) (s6 : Shared), CompEnd X pins σ H5 s6 C → Q (.ref D) H5 → compPost (model X.prog X.w) X.A X.xe use R (.ref D) C (.ok .next) s6) :
    wpAny (model X.prog X.w) X.A (comprehension (.ListComp elt [⟨tg, iter, [tst], 0⟩] scope pos) scope X.env pos' (newList []) (firstAsync [⟨tg, iter, [tst], 0⟩]) (firstIter [⟨tg, iter, [tst], 0⟩] X.env) use) R X.xe s := by
  refine wpAny_comprehension_free rfl hs S.clos S.kind S.names (thn (hi pins s σ H _ I h) fun v s1 h1 => ?_)
  obtain ⟨x, H1, I1, r1, d, kvs, ex, ed, σY, hσ, hW⟩ := h1
  subst ex
  cases r1
  obtain ⟨ob, es, ep, vs, rk, cc, eob, hS, hz, J1⟩ := I1.hideD ed
  have lk : kvs.length = vs.length := rk.length
  have DA : ∀ {h : Heap}, h.get? d = some ob → Heap.DictAt (zH X.prog X.w) h d vs ep := fun {h} q => ⟨ob, es, q, cc⟩
  refine wpAny_pyIter_dict hS (DA eob) ?_
  generalize hH2 : but H1 [d] = H2 at *
  have nd2 : H2 d = none := by rw [← hH2]; exact but_none (List.mem_singleton_self d)
  let it : Addr := s1.heap.objs.size
  generalize hs2 : ({ s1 with heap := s1.heap.push { cls := .type "dict_keyiterator", data := .fields #[.ref d, .int 0 0, .int (vs.length : Nat) 0, .int (ep : Nat) 0] } } : Shared) = s2
  have k12 : ∀ b o, s1.heap.get? b = some o → s2.heap.get? b = some o := fun b o q => by rw [← hs2]; exact Heap.get?_push_of_some _ q
  have I2 : Inv X ((d, ob) :: pins) σ H2 s2 := by rw [← hs2]; exact J1.kept (t' := s1.toks) fun b o e => Heap.get?_push_of_some _ e
  let fp : List Addr := [it]
  let tn : Nat → Heap → Prop := fun i h => h.IsKeyIter it d i vs.length ep
  have st2 : tn 0 s2.heap := by rw [← hs2]; exact ⟨_, Heap.get?_push_size _ rfl, rfl, rfl⟩
  have f2 : ∀ b ∈ fp, FpOk X ((d, ob) :: pins) H2 b := fun b hb => by
    have e : b = it := List.mem_singleton.mp hb
    subst e
    exact J1.fpOk (Nat.le_refl _) (J1.hok.fresh (Nat.le_refl _))
  have Tobj : ∀ i h, tn i h → ∀ b ∈ fp, ∃ o, h.get? b = some o ∧ ∀ v, o.data ≠ .cell v := fun i h st b hb => by
    have e : b = it := List.mem_singleton.mp hb
    subst e
    obtain ⟨o, e, c, d⟩ := st
    exact ⟨o, e, fun v z => by rw [d] at z; cases z⟩
  have Tkeep : ∀ i h h', tn i h → (∀ b ∈ fp, ∀ o, h.get? b = some o → h'.get? b = some o) → tn i h' := fun i h h' st k => st.at fun o e => k it (List.mem_singleton.mpr rfl) o e
  refine wpAny_newObj_type ?_
  have I3 : Inv X ((d, ob) :: pins) σ (upd H2 s2.heap.objs.size (.lst [])) { s2 with heap := s2.heap.push { cls := .type "list", data := .seq ([] : List Value).toArray } } := I2.lnew (t' := s2.toks) (its := []) .nil (Nat.zero_le _)
  have eob2 : s2.heap.get? d = some ob := k12 _ _ eob
  have dlt : d ≠ s2.heap.objs.size := Nat.ne_of_lt (Heap.lt_size eob2)
  obtain ⟨W, ⟨m0, w0⟩, turn⟩ := hW s2.heap.objs.size (I2.hok.fresh (Nat.le_refl _)) (Ne.symm dlt)
  have ob2 := Tobj _ _ st2
  have hfp : ∀ b ∈ fp, FpOk X ((d, ob) :: pins) (upd H2 s2.heap.objs.size (.lst [])) b := fun b hb => by
    obtain ⟨o, q, _⟩ := ob2 b hb
    exact ⟨by rw [zj (Nat.ne_of_lt (Heap.lt_size q))]; exact (f2 b hb).1, (f2 b hb).2⟩
  have hob : ∀ b ∈ fp, ∃ o, (s2.heap.push { cls := .type "list", data := .seq ([] : List Value).toArray }).get? b = some o := fun b hb => by
    obtain ⟨o, q, _⟩ := ob2 b hb
    exact ⟨o, Heap.get?_push_of_some _ q⟩
  refine wpAny_newFunctionEnv S.nocell (fun y hy => absurd hy (by simp)) (fun h1 hn1 hs1 => ?_) S.kind
  obtain ⟨hl, hY0⟩ := h0 _ σ H2 s2 σY I2 hσ
  have k23 : ∀ b o, s2.heap.get? b = some o → (s2.heap.push { cls := .type "list", data := .seq ([] : List Value).toArray }).get? b = some o := fun b o q => Heap.get?_push_of_some _ q
  have k34 : ∀ b o, (s2.heap.push { cls := .type "list", data := .seq ([] : List Value).toArray }).get? b = some o → h1.get? b = some o := fun b o q => (hs1.2 b (Nat.ne_of_lt (Heap.lt_size q))).trans (Heap.get?_push_of_some _ q)
  have I4 := comp_inv (scope := scope) (cl := cl) (NY := NY) (fp := fp) (h1 := h1) (t := s2.toks) (σY := σY) I3 S hfp hob hn1 k34 hl fun i x v e1 e2 => by
    obtain ⟨c, u, k, q, r, o, z1, z2⟩ := hY0 i x v e1 e2
    exact ⟨c, u, k, q, r, o, k23 _ _ z1, z2⟩
  have st4 : tn 0 h1 := Tkeep _ _ _ st2 fun b hb o q => k34 _ _ (k23 _ _ q)
  have fr4 : ∀ b ∈ fp, (upd H2 s2.heap.objs.size (.lst [])) b = none := fun b hb => (hfp b hb).1
  obtain ⟨hg, ht, he⟩ := hY { s2 with heap := s2.heap.push { cls := .type "list", data := .seq ([] : List Value).toArray } } (upd H2 s2.heap.objs.size (.lst [])) fp
  have okY := I4.ok
  have statY : ∀ {H' : Hp}, (∀ b ∈ fp, H' b = none) → ∀ b ∈ fp, FpOk (X.comp scope cl NY { s2 with heap := s2.heap.push { cls := .type "list", data := .seq ([] : List Value).toArray } } (upd H2 s2.heap.objs.size (.lst [])) fp) [] H' b :=
    fun hn b hb => ⟨hn b hb, (okY.exf b hb).1, okY.exfs b hb, .inl hb, (okY.exf b hb).2, fun p hp => absurd hp (by simp)⟩
  have pinD := I3.pin (d, ob) (List.mem_append_right _ List.mem_cons_self)
  have dfs : d ∉ (X.comp scope cl NY { s2 with heap := s2.heap.push { cls := .type "list", data := .seq ([] : List Value).toArray } } (upd H2 s2.heap.objs.size (.lst [])) fp).fs := fun z => by
    rcases List.mem_cons.mp (I3.stkSub d z) with y | y
    · exact pinD.2.2.1 y
    · exact pinD.2.2.2.1 y
  have dex : d ∉ fp := fun z => by
    have e : d = it := List.mem_singleton.mp z
    exact absurd (Heap.lt_size eob) (by rw [e]; exact Nat.lt_irrefl _)
  have stay : ∀ {pp : List (Addr × Obj)} {σ' : St} {H' : Hp} {s' : Shared}, Inv (X.comp scope cl NY { s2 with heap := s2.heap.push { cls := .type "list", data := .seq ([] : List Value).toArray } } (upd H2 s2.heap.objs.size (.lst [])) fp) pp σ' H' s' → s'.heap.get? d = some ob := fun I' =>
    I'.base.keep d ob (k23 _ _ eob2) (show upd H2 s2.heap.objs.size (.lst []) d = none by rw [zj dlt]; exact nd2) dfs dex
  have loop : codeAny (model X.prog X.w) X.A (.compLoop (.ListComp elt [⟨tg, iter, [tst], 0⟩] scope pos) 0 (.ref it) (.ref s2.heap.objs.size) (compEnvC scope cl (s2.heap.push { cls := .type "list", data := .seq ([] : List Value).toArray }).objs.size X.env))
      (compPost (model X.prog X.w) X.A X.xe use R (.ref s2.heap.objs.size) (s2.heap.push { cls := .type "list", data := .seq ([] : List Value).toArray }).objs.size) { s2 with heap := h1, toks := s2.toks } := by
    refine comp_loopF (fun n s' => ∃ i σ' H', Inv (X.comp scope cl NY { s2 with heap := s2.heap.push { cls := .type "list", data := .seq ([] : List Value).toArray } } (upd H2 s2.heap.objs.size (.lst [])) fp) [] σ' H' s' ∧ tn i s'.heap ∧ (∀ b ∈ fp, H' b = none) ∧ W i n σ' H') ?_ m0 ⟨0, σY, _, I4, st4, fr4, w0⟩
    rintro n s5 ⟨i, σ5, H5, I5, st5, fr5, w5⟩
    obtain ⟨g0, g1, g2, g3, g4, g5⟩ := statY fr5 it (List.mem_singleton.mpr rfl)
    rcases turn i n σ5 H5 w5 with ⟨stop, q⟩ | ⟨go, N, hN, step⟩
    · have stop : kvs.length ≤ i := stop
      refine wpAny_pyNext_dict_end (I5.ok.hd hc) st5 (DA (stay I5)) (List.getElem?_eq_none (by omega)) fun h' eb => ?_
      have I6 : Inv (X.comp scope cl NY { s2 with heap := s2.heap.push { cls := .type "list", data := .seq ([] : List Value).toArray } } (upd H2 s2.heap.objs.size (.lst [])) fp) [] σ5 H5 { s5 with heap := h' } := I5.turned (t' := s5.toks) (fun b o hb e => eb b o hb e) g0 g1 g3 g4 g5
      obtain ⟨m, hm, _⟩ := I6.loc
      have back := fun (h2 : Heap) (hs' : Heap.SameBut (s2.heap.push { cls := .type "list", data := .seq ([] : List Value).toArray }).objs.size h' h2) => I1.backD ed rk cc hS hz (comp_back I3 hfp I6 hs')
      have nd5 := (back h' ⟨rfl, fun _ _ => rfl⟩).1
      have dC : (s2.heap.push { cls := .type "list", data := .seq ([] : List Value).toArray }).objs.size ≠ d := Ne.symm (Nat.ne_of_lt (Heap.lt_size (k23 _ _ eob2)))
      refine fin _ _ (upd H5 d (.dK kvs)) _ ⟨⟨m, hm⟩, by rw [zj dC]; exact I6.free, Ne.symm (Nat.ne_of_lt I3.lt), I3.sz, fun x c z => ?_, fun p hp => ?_, fun h2 hs' => (back h2 hs').2⟩ (q nd5)
      · obtain ⟨_, o, z1, _⟩ := I3.cell x c z
        exact Nat.ne_of_lt (Heap.lt_size z1)
      · exact Nat.ne_of_lt (Heap.lt_size (I3.pin p (by
          rcases List.mem_append.mp hp with hp | hp
          · exact List.mem_append_left _ hp
          · exact List.mem_append_right _ (List.mem_cons_of_mem _ hp))).1)
    · have go : i < kvs.length := go
      obtain ⟨pv, hpv⟩ : ∃ p, vs[i]? = some p := ⟨vs[i]'(by omega), List.getElem?_eq_getElem _⟩
      obtain ⟨pk', hpk⟩ : ∃ p, kvs[i]? = some p := ⟨kvs[i], List.getElem?_eq_getElem go⟩
      have ek : pk'.1 = pv.1 := by
        have := rk.keys
        have e1 : (kvs.map (·.1))[i]? = some pk'.1 := by rw [List.getElem?_map, hpk]; rfl
        rw [this, List.getElem?_map, hpv] at e1
        exact (Option.some.inj e1).symm
      refine wpAny_pyNext_dict_item st5 (DA (stay I5)) (k := pv.1) (v := pv.2) hpv fun key h' hkey st' sb => ?_
      have I6 : Inv (X.comp scope cl NY { s2 with heap := s2.heap.push { cls := .type "list", data := .seq ([] : List Value).toArray } } (upd H2 s2.heap.objs.size (.lst [])) fp) [] σ5 H5 { s5 with heap := h' } := I5.turned (t' := s5.toks) (fun b o hb e => (sb.2 b hb).trans e) g0 g1 g3 g4 g5
      obtain ⟨oi, ei, ci, di⟩ := id st'
      have rkey : RelV (kV pk'.1) key := by
        rw [ek]
        exact kV_rel hkey
      show wpAny (model X.prog X.w) X.A (letOwnedTupleGo tg (.ref it) key) _ _ { s5 with heap := h' }
      refine go_of (s := { s5 with heap := h' }) ei ci di (by decide) ?_
      have I7' := I6.pinned (statY fr5) (Tobj _ _ st')
      refine thn (hg _ _ σ5 H5 (kV pk'.1) key _ I7' rkey (step (kV pk'.1) H5 ⟨rfl, pk', hpk, rfl⟩)) fun _ s8 ⟨σ8, H8, I8, q8⟩ => ?_
      have pk : ∀ {H' : Hp} {s' : Shared} {σ' : St}, Inv (X.comp scope cl NY { s2 with heap := s2.heap.push { cls := .type "list", data := .seq ([] : List Value).toArray } } (upd H2 s2.heap.objs.size (.lst [])) fp) ([] ++ pinsAt fp h') σ' H' s' → tn (i + 1) s'.heap ∧ ∀ b ∈ fp, H' b = none := fun I' => by
        refine ⟨Tkeep _ _ _ st' fun b hb o q => (I'.pin (b, o) (List.mem_append_right _ (List.mem_append_right _ (yC hb q)))).1, fun b hb => ?_⟩
        obtain ⟨o, q, d⟩ := Tobj _ _ st' b hb
        exact (I'.pin (b, o) (List.mem_append_right _ (List.mem_append_right _ (yC hb q)))).2.1
      refine thn (ht _ s8 σ8 H8 _ I8 q8) fun bb s8' ⟨H8', I8', q8'⟩ => ?_
      cases bb with
      | false =>
        have q8' := (show N σ8 H8' by simpa using q8')
        obtain ⟨m', hm, w10⟩ := hN _ _ q8'
        exact ⟨m', hm, i + 1, σ8, _, I8'.unpinned, (pk I8').1, (pk I8').2, w10⟩
      | true =>
        have q8' := (show te σ8 H8' _ by simpa using q8')
        refine thn (he _ s8' σ8 H8' _ I8' q8') fun z s9 ⟨v9, H9, I9, r9, xs, hx9, hz9, n9⟩ => ?_
        refine thn (xa _ s9 σ8 H9 (.ref s2.heap.objs.size) [v9] (.ref s2.heap.objs.size) [z] (fun _ H' => H' = upd H9 s2.heap.objs.size (.lst (xs ++ [v9]))) I9 rfl (.cons r9 .nil) ⟨s2.heap.objs.size, xs, v9, rfl, rfl, hx9, hz9, rfl⟩) fun y s10 ⟨v10, H10, I10, _, e10⟩ => ?_
        subst e10
        obtain ⟨m', hm, w10⟩ := hN _ _ n9
        exact ⟨m', hm, i + 1, σ8, _, I10.unpinned, (pk I10).1, (pk I10).2, w10⟩
  exact codeAny_compStart_list loop (wpAny_pyIter_keyiter st4 loop)
theorem ps_compD {iter elt tst : Expr} {scope : Scope} {pos pos' spos : Pos} {td : TE} {g : TG} {tt : TT} {te : TE} {i : Nat} {y : Str} (NY : List Str) (cap : List (Option Nat)) (hc : X.calm = true) (hk : seesOk X scope = true) (hcap : capOk X scope NY cap = true) (hi : PE X iter td)
    (hY : ∀ (s3 : Shared) (H3 : Hp) (fp : List Addr), PG (X.comp scope (clOf X.env scope) NY s3 H3 fp) tg g ∧ PT (X.comp scope (clOf X.env scope) NY s3 H3 fp) tst tt ∧ PE (X.comp scope (clOf X.env scope) NY s3 H3 fp) elt te) (hN : X.N.Nodup) (hi' : X.N[i]? = some y) (hx : Loc X.env.scope y)
    (hf : X.fn y = true ∨ X.env.scope.names.lookup y = some .local := by first | exact .inl rfl | exact .inr rfl) (hw : swapsWith (.ListComp elt [⟨tg, iter, [tst], 0⟩] scope pos) (some (.Name y pos')) spos.line X.env = pure true := by rfl)
    (hs : ∀ x, foldedSetIterable iter X.env x = pure x := by intro _; rfl) : PS X (.Assign [.Name y pos'] (.ListComp elt [⟨tg, iter, [tst], 0⟩] scope pos) spos) (tAsg (tCompD td g tt te fun σ _ σY => σY = capt cap σ) (gName i)) := by
  intro pins s σ H D I h
  rw [exec_Assign_Name_used _ _ _ _ hw, arm_evalThenUse_ListComp]
  refine wpAny_bind (wpAny_standAt (wpAny_bind (wpAny_bind (wpAny_mono (comp_coreD (NY := NY) (use := some (assign (.Name y pos') X.env)) (R := fun _ s' => SP X pins D .next s') hc (sees_of I.ok hk) hi hY (fun pins σ H s3 σY I3 e => by
    subst e
    exact capt_ok I3 (sees_of I3.ok hk) hcap) hs I h fun C L H5 s6 e q => ?_) (fun _ s' z => wpAny_pure (wpAny_pure z)) fun _ _ z => z))))
  obtain ⟨m, hm⟩ := e.ns
  have I6 : Inv X pins σ H5 s6 := e.inv s6.heap ⟨rfl, fun _ _ => rfl⟩
  refine wpAny_assign_Name (store_ok2 I6 hN hi' hx (v := .ref L) rfl (fun s' I' ⟨a, sb, ha⟩ => ?_) hf)
  have ne : C ≠ a := by
    rintro rfl
    rcases ha with z | z
    · exact e.hL z
    · exact e.h2 _ _ z rfl
  refine ⟨m, ?_, fun h' hs' => ?_⟩
  · obtain ⟨o, es, ep, z, r⟩ := hm
    exact ⟨o, es, ep, (sb.2 _ ne).trans z, r⟩
  · exact ⟨_, H5, I'.turned (t' := s'.toks) (it := C) (fun b o nb z => (hs'.2 b nb).trans z) e.hn e.hL (.inr e.h1) e.h2 e.h3, q⟩
theorem compF_keys {kvs : List (Key × V)} {D : Addr} {g : TG} {tt : TT} {te : TE} {σY : St} {H1 : Hp} {Q : VK} (Pv : Nat → St → Hp → Prop) (h0 : Pv 0 σY H1)
    (hs : ∀ i p σ H, kvs[i]? = some p → Pv i σ H → g (kV p.1) σ H fun σ3 H3 => tt σ3 H3 fun b H4 => if b = true then te σ3 H4 fun v H5 => ∃ ys, H5 D = some (.lst ys) ∧ ys.length < sizeLine ∧ Pv (i + 1) σ3 (upd H5 D (.lst (ys ++ [v]))) else Pv (i + 1) σ3 H4) (hd : ∀ σ H, Pv kvs.length σ H → Q (.ref D) H) :
    CompWF (Itk kvs) g tt te σY H1 D Q := by
  refine ⟨fun i m σ H => m = kvs.length - i ∧ i ≤ kvs.length ∧ Pv i σ H, ⟨kvs.length, by simp, Nat.zero_le _, h0⟩, ?_⟩
  rintro i m σ H ⟨rfl, hi, p⟩
  by_cases hlt : i < kvs.length
  · refine .inr ⟨hlt, Pv (i + 1), fun σ' H' p' => ⟨kvs.length - (i + 1), by omega, rfl, hlt, p'⟩, fun x H' y => ?_⟩
    obtain ⟨e, q, hq, ex⟩ := y
    subst e ex
    exact hs i q σ _ hq p
  · have e : i = kvs.length := by omega
    subst e
    exact .inl ⟨Nat.le_refl _, hd σ H p⟩
end
end L2
namespace L2
open PySem PySem.Spec PyProof.Rows
section
variable {X : Cx}
theorem call_minM (hc : X.calm = true) : CallR X (.builtin "min") (fun xs H Q => ∃ (p : Addr) (ns : List Int), xs = [.ref p] ∧ SqL X.K H p (ns.map V.int) ∧ 0 < ns.length ∧ ∀ m, m ∈ ns → (∀ v ∈ ns, m ≤ v) → Q (.int m) H) := by
  intro pins s σ H xs us Q I r h
  obtain ⟨p, ns, rfl, hp, h0, q⟩ := h
  obtain ⟨u, rfl, ru⟩ := r.one
  cases (show u = Value.ref p from ru)
  obtain ⟨its, rv, pl, _⟩ := I.list hp
  obtain ⟨ys, hy⟩ := (ints_of rv).allInts.items
  have hl : s.heap.IsList p (intItems ys) := hy ▸ pl.isList
  have e1 := vals_len rv
  rw [List.length_map] at e1
  have hsz : ys.size = ns.length := by
    have z : its.toArray.size = (intItems ys).size := by rw [hy]
    simp [intItems] at z
    omega
  have hne : 0 < ys.size := by omega
  refine min_intList (I.ok.hd hc) hl hne fun v h' tk hv hk => ?_
  have z : its[argBest (fun i j => decide (numAt ys i < numAt ys j)) (ys.size - 1)]? = some v := by
    rw [← hy] at hv
    simpa using hv
  obtain ⟨n, t, en, rfl⟩ := ints_at rv _ v z
  have nu : ∀ (j : Nat) (n' : Int), ns[j]? = some n' → n' = numAt ys j := fun j n' e => by
    obtain ⟨u, eu, ru⟩ := rv.get (show (ns.map V.int)[j]? = some (.int n') by rw [List.getElem?_map, e]; rfl)
    obtain ⟨t', rfl⟩ := (show ∃ t', u = Value.int n' t' from ru)
    obtain ⟨t2, e2⟩ := intItems_at (xs := ys) (i := j) (v := .int n' t') (by rw [← hy]; simpa using eu)
    injection e2
  refine ⟨.int n, H, I.kept hk, ⟨_, rfl⟩, q n (List.mem_of_getElem? en) fun v' hv' => ?_⟩
  obtain ⟨j, hj, ej⟩ := List.getElem_of_mem hv'
  have a1 := nu j v' (by rw [List.getElem?_eq_getElem hj, ej])
  have a2 := nu _ n en
  have a3 := (argBest_lt (numAt ys) (ys.size - 1)).2 j (by omega)
  rw [a1, a2]
  exact a3
end
end L2
namespace K35
open PySem L2
def keysI (f : List (Key × V)) : List Int := f.filterMap fun p => match p.1 with
  | .inl j => some j
  | .inr _ => none
def intKeys (f : List (Key × V)) : Prop := ∀ p ∈ f, ∃ j, p.1 = .inl j
def minI : List Int → Int
  | [] => 0
  | [x] => x
  | x :: xs => min x (minI xs)
theorem minI_le : ∀ (xs : List Int), ∀ v ∈ xs, minI xs ≤ v
  | [], v, h => by cases h
  | [x], v, h => by cases List.mem_singleton.mp h; exact Int.le_refl _
  | x :: y :: xs, v, h => by
    have ih := minI_le (y :: xs)
    show min x (minI (y :: xs)) ≤ v
    rcases List.mem_cons.mp h with rfl | h
    · omega
    · have := ih v h; omega
theorem minI_mem : ∀ (xs : List Int), xs ≠ [] → minI xs ∈ xs
  | [], h => absurd rfl h
  | [x], _ => List.mem_singleton.mpr rfl
  | x :: y :: xs, _ => by
    have ih := minI_mem (y :: xs) (by simp)
    show min x (minI (y :: xs)) ∈ _
    by_cases c : x ≤ minI (y :: xs)
    · rw [Int.min_eq_left c]; exact List.mem_cons_self
    · rw [Int.min_eq_right (by omega)]; exact List.mem_cons_of_mem _ ih
theorem minI_is {xs : List Int} {m : Int} (h1 : m ∈ xs) (h2 : ∀ v ∈ xs, m ≤ v) : m = minI xs := by
  have a := minI_le xs m h1
  have b := h2 _ (minI_mem xs (fun z => by rw [z] at h1; cases h1))
  omega
def Mc.faulted (M : Mc) : List Int := (keysI M.faults).filter fun j => decide (j < M.width)
def Mc.trimmed (M : Mc) : Mc := if M.faulted = [] then M else { M with cut := some (minI M.faulted), width := minI M.faulted }
open Classical in
noncomputable def trimM : EfM := fun _ M => if intKeys M.faults ∧ M.faults.length < 100000 then some M.trimmed else none
def stopM : EfM := fun tv M => match (tv[1]? : Option V), M.cut with
  | some (V.int n), some c => (match yl M.faults (.inl c) with
    | some (V.str z) => some { M with refusal := some (n, M.base + c, z) }
    | _ => none)
  | some (V.int _), none => some M
  | _, _ => none
theorem keysI_at {f : List (Key × V)} (h : intKeys f) : ∀ i p, f[i]? = some p → ∃ j, p.1 = .inl j ∧ keysI (f.take (i + 1)) = keysI (f.take i) ++ [j] := fun i p e => by
  obtain ⟨j, hj⟩ := h p (List.mem_of_getElem? e)
  refine ⟨j, hj, ?_⟩
  unfold keysI
  rw [List.take_add_one, e, List.filterMap_append]
  congr 1
  obtain ⟨k, v⟩ := p
  have hj : k = .inl j := hj
  subst hj
  rfl
theorem keysI_len (f : List (Key × V)) : (keysI f).length ≤ f.length := List.length_filterMap_le _ _
section
variable {P : Program} {w : World} {K : PySem.W.Frag} {mg : Str → Option Value} {base : Heap}
theorem MAt.s_refusal {c : MCs} {B : Hp} {A : Ma} {M : Mc} {R : List (Addr × HO)} {H : Hp} (m : MAt c B A M R H) {t : Addr} {r : Int × Int × Str} (e : B t = some (.tup [.int r.1, .int r.2.1, .str r.2.2])) : MAt c B { A with rf := .ref t } { M with refusal := some r } R (upd H A.b (.ins c.bn A.db (zw "refusal" (.ref t) (flds A M)))) :=
  ⟨⟨m.bb.lens, m.bb.starts, m.bb.bx, m.bb.msk, m.bb.ml, m.bb.dl, m.bb.pl, m.bb.tl, m.bb.tt, m.bb.ul, m.bb.uu, ⟨t, rfl, e⟩⟩, m.h.put (o' := .ins c.bn A.db (zw "refusal" (.ref t) (flds A M))) 0 rfl⟩
theorem ok_trim {c : MCs} (d : zC K mg "play_trim" yO ["bench", "step"]) (hlen : mg "len" = none) (hmin : mg "min" = none) (CC : MCls K c) : Ok P w K mg base CX0 1 "play_trim" ["bench", "step"] (spEf c trimM) := by
  obtain ⟨g, fd, m, F, b⟩ := d
  refine ⟨g, fd, m, F.kp, b, F.ok sc_play_trim (fun vs H Q E ⟨_, _, _, _, _, _, _, e, _⟩ => by rw [e]; rfl) fun cdv A outer s H vs Q E hr h => ?_⟩
  obtain ⟨B, A, M, R, st, tv, M', rfl, m, es, ef, ok, q⟩ := h
  have nd := sc_play_trim.nd
  have CN := CC.n
  have SL : (200000 : Nat) < sizeLine := by decide
  unfold trimM at ef
  split at ef
  case isFalse => cases ef
  rename_i hc
  cases ef
  obtain ⟨ik, fl⟩ := hc
  refine ⟨_, (zb (ps_compD (i := 2) ["lane", "bench"] [none, some 0] rfl rfl rfl (zp (pv 0) rfl) (fun s3 H3 fp => ⟨zI (i := 0) (show ((["lane", "bench"] : List Str)).Nodup by decide +kernel) rfl (Or.inl rfl), (zX op_lt (pv 0) (pe_fldK (K := K) rfl (pv 1) rfl) (zW _)), (pv 0)⟩) nd rfl (Or.inl rfl))
      (zh (yr (zX op_gt (zF ye (by rfl) hlen PySem.boot_len (za (pv 2) zd)) zc (zW _)) (zb (zy (pv 0) (zF (call_minM rfl) (by rfl) hmin PyProof.Rows.boot_min (za (pv 2) zd)) rfl)
      (zh (zy (pv 0) (zp (pv 0) rfl) rfl))) zK))), ?_⟩
  have eF : H A.aF = some (.dK M.faults) := m.h.get 7 rfl
  have nbF : A.b ≠ A.aF := fun z => by have := m.b; rw [z, eF] at this; cases this
  have eb0 : but H [A.aF] A.b = some (.ins c.bn A.db (flds A M)) := but_of m.b (fun z => nbF (List.mem_singleton.mp z))
  refine ⟨_, rfl, A.b, _, _, _, .ref A.aF, rfl, m.b, CN.c, CN.faults, rfl, A.aF, M.faults, rfl, eF, _, rfl, fun D nD neD => ?_⟩
  have nDH : H D = none := but_free nD neD
  have nbD : A.b ≠ D := fun z => by have := m.b; rw [z, nDH] at this; cases this
  let ks : Nat → List Int := fun i => (keysI (M.faults.take i)).filter fun j => decide (j < M.width)
  have kl : ∀ i, (ks i).length ≤ M.faults.length := fun i => Nat.le_trans (List.length_filter_le _ _) (Nat.le_trans (keysI_len _) (by rw [List.length_take]; omega))
  refine compF_keys (kvs := M.faults) (fun i σ J => ∃ u, σ = [u, some (.ref A.b)] ∧ J = upd (but H [A.aF]) D (.lst ((ks i).map V.int))) ⟨none, rfl, rfl⟩ ?_ ?_
  · rintro i p σ J hp ⟨u, rfl, rfl⟩
    obtain ⟨j, hj, ek⟩ := keysI_at ik i p hp
    have eks : ks (i + 1) = ks i ++ if j < M.width then [j] else [] := by
      show List.filter _ (keysI (M.faults.take (i + 1))) = List.filter _ (keysI (M.faults.take i)) ++ _
      rw [ek, List.filter_append]
      congr 1
      by_cases z : j < M.width
      · rw [List.filter_cons_of_pos (by simpa using z), if_pos z]; rfl
      · rw [List.filter_cons_of_neg (by simpa using z), if_neg z]; rfl
    have ekV : kV p.1 = .int j := by rw [hj]; rfl
    rw [ekV]
    have eb1 : upd (but H [A.aF]) D (.lst ((ks i).map V.int)) A.b = some (.ins c.bn A.db (flds A M)) := by rw [zj nbD]; exact eb0
    refine ⟨_, rfl, _, rfl, A.b, _, _, _, .int M.width, rfl, eb1, CN.c, CN.width, rfl, _, _, rfl, rfl, _, rfl, ?_⟩
    rw [eks]
    refine ite2 (fun z => ?_) (fun z => ?_)
    · have z : j < M.width := by simpa using z
      rw [if_pos z]
      refine ⟨_, rfl, _, zf, (by rw [List.length_map]; have := kl i; omega), _, rfl, ?_⟩
      rw [upd_upd, List.map_append]; rfl
    · have z : ¬ j < M.width := by simpa using z
      rw [if_neg z, List.append_nil]
      exact ⟨_, rfl, rfl⟩
  rintro σ J ⟨u, rfl, rfl⟩ nd'
  have ek : ks M.faults.length = M.faulted := by show List.filter _ (keysI (M.faults.take _)) = _; rw [List.take_length]; rfl
  rw [ek]
  have eH : upd (upd (but H [A.aF]) D (.lst (M.faulted.map V.int))) A.aF (.dK M.faults) = upd H D (.lst (M.faulted.map V.int)) := by
    funext x
    by_cases z : x = A.aF
    · subst z; rw [zf, zj (Ne.symm neD)]; exact eF.symm
    · rw [zj z]
      by_cases y : x = D
      · subst y; rw [zf, zf]
      · rw [zj y, zj y]
        unfold but
        rw [if_neg (fun q => z (List.mem_singleton.mp q))]
  rw [eH]
  have m1 := m.grow (o := .lst (M.faulted.map V.int)) nDH
  have s1 : Same B (upd B D (.lst (M.faulted.map V.int))) := zg (Same.refl _) (m.h.free nDH)
  have eD : upd B D (.lst (M.faulted.map V.int)) D = _ := zf
  generalize upd B D (.lst (M.faulted.map V.int)) = B1 at m1 s1 eD
  generalize upd H D (.lst (M.faulted.map V.int)) = H1 at m1 ⊢
  have qD : SqL K H1 D (M.faulted.map V.int) := SqL.of (m1.h.sm _ _ eD)
  refine ⟨_, rfl, D, _, rfl, .inl qD, _, _, rfl, rfl, _, rfl, ?_⟩
  rw [List.length_map]
  unfold Mc.trimmed at q
  refine ite2 (fun z => ?_) (fun z => ?_)
  · have z : (0 : Int) < (M.faulted.length : Int) := by simpa using z
    have ne : M.faulted ≠ [] := fun y => by rw [y] at z; exact absurd z (by decide)
    rw [if_neg ne] at q
    refine ⟨_, rfl, D, M.faulted, rfl, qD, by omega, fun mn h1 h2 => ?_⟩
    cases minI_is h1 h2
    refine ⟨_, rfl, A.b, _, _, _, rfl, m1.b, CN.c, CN.cut, (by show 23 < 1000; decide), ?_⟩
    have m2 := m1.s_cut (some (minI M.faulted))
    refine ⟨_, rfl, A.b, _, _, _, .int (minI M.faulted), rfl, m2.b, CN.c, CN.cut, rfl, _, rfl, A.b, _, _, _, rfl, m2.b, CN.c, CN.width, (by show 23 < 1000; decide), ?_⟩
    exact q B1 A _ s1 rfl (m2.s_width (minI M.faulted))
  · have z : ¬ (0 : Int) < (M.faulted.length : Int) := by simpa using z
    have ne : M.faulted = [] := List.length_eq_zero_iff.mp (by omega)
    rw [if_pos ne] at q
    exact q B1 A _ s1 rfl m1
theorem ok_stop {c : MCs} (d : zC K mg "play_stop" yP ["bench", "step"]) (CC : MCls K c) : Ok P w K mg base CX0 1 "play_stop" ["bench", "step"] (spEf c stopM) := by
  obtain ⟨g, fd, m, F, b⟩ := d
  refine ⟨g, fd, m, F.kp, b, F.ok sc_play_stop (fun vs H Q E ⟨_, _, _, _, _, _, _, e, _⟩ => by rw [e]; rfl) fun cdv A outer s H vs Q E hr h => ?_⟩
  obtain ⟨B, A, M, R, st, tv, M', rfl, m, es, ef, ok, q⟩ := h
  have nd := sc_play_stop.nd
  have hu := Nat.lt_of_le_of_lt (Nat.add_le_add_left (show 1 ≤ 64 by decide) _) hr.units
  have CN := CC.n
  have SL : (200000 : Nat) < sizeLine := by decide
  refine ⟨_, (zh (yr (zX op_notN (zp (pv 0) rfl) yZ (zW _)) (zh (zy (pv 0) (yJ (za (zE yM (pv 1) zc (fun _ _ => rfl)) (za (zi zv (zp (pv 0) rfl) (zp (pv 0) rfl)) (za (pe_dget hu (zp (pv 0) rfl) (zp (pv 0) rfl) (fun _ _ => rfl)) zd)))) rfl)) zK)), ?_⟩
  have eF : H A.aF = some (.dK M.faults) := m.h.get 7 rfl
  refine ⟨_, rfl, A.b, _, _, _, oV M.cut, rfl, m.b, CN.c, CN.cut, rfl, rfl, _, rfl, ?_⟩
  unfold stopM at ef
  split at ef
  · rename_i n cc e1 ec
    split at ef
    case h_2 => cases ef
    rename_i z ez
    cases ef
    rw [ec]
    have e2 : (!decide (oV (some cc) = V.non)) = true := by rw [decide_eq_false (fun y => by cases y)]; rfl
    rw [e2]
    refine iteT ⟨_, rfl, st, _, _, _, rfl, rfl, SqT.of (m.h.sm _ _ es), zM (j := 1) e1, _, rfl, A.b, _, _, _, .int M.base, rfl, m.b, CN.c, CN.base, rfl, _, rfl, A.b, _, _, _, .int cc, rfl, m.b, CN.c, CN.cut, (by show some (oV M.cut) = _; rw [ec]; rfl), _, _, rfl, rfl, _, rfl, A.b, _, _, _, .ref A.aF, rfl, m.b, CN.c, CN.faults, rfl, _, rfl, A.b, _, _, _, .int cc, rfl, m.b, CN.c, CN.cut, (by show some (oV M.cut) = _; rw [ec]; rfl), A.aF, .str z, rfl, (by rw [← ez]; exact DGet.k (k := .inl cc) eF), (by show 3 ≤ sizeLine; omega), fun t nt => ?_⟩
    have m1 := m.grow (o := .tup [.int n, .int (M.base + cc), .str z]) nt
    have s1 : Same B (upd B t (.tup [.int n, .int (M.base + cc), .str z])) := zg (Same.refl _) (m.h.free nt)
    have et : upd B t (.tup [.int n, .int (M.base + cc), .str z]) t = _ := zf
    generalize upd B t (.tup [.int n, .int (M.base + cc), .str z]) = B1 at m1 s1 et
    refine ⟨_, rfl, A.b, _, _, _, rfl, m1.b, CN.c, CN.refusal, (by show 23 < 1000; decide), ?_⟩
    exact q B1 { A with rf := .ref t } _ s1 rfl (m1.s_refusal (r := (n, M.base + cc, z)) et)
  · rename_i n e1 ec
    cases ef
    rw [ec]
    have e2 : (!decide (oV none = V.non)) = false := by rw [decide_eq_true (show oV none = V.non from rfl)]; rfl
    rw [e2]
    exact yn (q B A H (Same.refl _) rfl m)
  · cases ef
end
end K35
namespace K35
open PySem L2
theorem actTo_less (M : Mc) (k n n' : Nat) (h : n' ≤ n) : M.actTo k n' = (M.actTo k n).filter fun j => decide (j < (n' : Int)) := by
  induction n with
  | zero =>
    have e : n' = 0 := by omega
    subst e; rfl
  | succ n ih =>
    rw [M.actTo_succ]
    by_cases c : n' ≤ n
    · rw [List.filter_append, ih c]
      have : (if M.isAct k n then [(n : Int)] else []).filter (fun j => decide (j < (n' : Int))) = [] := by
        split
        · rw [List.filter_cons_of_neg (by simp; omega)]; rfl
        · rfl
      rw [this, List.append_nil]
    · have e : n' = n + 1 := by omega
      subst e
      rw [← M.actTo_succ, List.filter_eq_self.mpr fun j hj => ?_]
      obtain ⟨i, hi, rfl⟩ := List.mem_map.mp hj
      have := List.mem_range.mp (List.mem_filter.mp hi).1
      simp; omega
section
variable {Lx : Lex} {S LN : List Int} {L pl k : Nat} {many group b : Int} {s : DT} {M : Mc}
theorem InS.trim (h : InS S LN L pl many group b k s M) (hS : Lx.E "trim" trimM) (ik : intKeys M.faults) (hf : M.faults.length < 100000) (h0 : ∀ j ∈ keysI M.faults, 0 ≤ j) :
    ∃ M', Step Lx [.str "trim"] M M' ∧ InS S LN L pl many group b (k + 1) s M' ∧ M'.faults = M.faults ∧ (∀ (p' : Nat) (j : Int), M'.numAt p' j = M.numAt p' j) ∧
      ((M.faulted = [] ∧ M'.width = M.width ∧ M'.cut = M.cut ∧ ∀ m, M'.act m = M.act m) ∨ (M.faulted ≠ [] ∧ M'.width = minI M.faulted ∧ M'.cut = some (minI M.faulted) ∧ ∀ m, M'.act m = (M.act m).filter fun j => decide (j < minI M.faulted))) := by
  have e : trimM [.str "trim"] M = some M.trimmed := by
    unfold trimM
    exact if_pos ⟨ik, hf⟩
  have st := Step.eff (word := "trim") hS rfl e h.ok
  have hpc : M.pc + 1 = ((pl + (k + 1) : Nat) : Int) := by rw [h.pc]; omega
  unfold Mc.trimmed at st
  by_cases z : M.faulted = []
  · rw [if_pos z] at st
    exact ⟨_, st, ⟨⟨h.ok.l1, h.ok.l64, h.ok.g, h.ok.nl, h.ok.ml, h.ok.mm, h.ok.w0, h.ok.w1⟩, h.wle, h.begun, h.base, hpc, h.opened, h.many, h.group, h.lanes, h.rf, h.starts, h.lens, h.cells, h.touches⟩, rfl, fun _ _ => rfl, .inl ⟨z, rfl, rfl, fun _ => rfl⟩⟩
  · rw [if_neg z] at st
    have mem := minI_mem _ z
    have mp := List.mem_filter.mp mem
    have m0 := h0 _ mp.1
    have mw : minI M.faulted < M.width := of_decide_eq_true mp.2
    have w1 := h.ok.w1
    refine ⟨_, st, ⟨⟨h.ok.l1, h.ok.l64, h.ok.g, h.ok.nl, h.ok.ml, h.ok.mm, m0, Int.le_trans (Int.le_of_lt mw) w1⟩, Int.le_trans (Int.le_of_lt mw) h.wle, h.begun, h.base, hpc, h.opened, h.many, h.group, h.lanes, h.rf, h.starts, h.lens, h.cells, h.touches⟩, rfl, fun _ _ => rfl, .inr ⟨z, rfl, rfl, fun m => ?_⟩⟩
    show M.actTo m (minI M.faulted).toNat = _
    rw [actTo_less M m M.width.toNat _ (by omega)]
    unfold Mc.act
    refine List.filter_congr fun j _ => ?_
    rw [Int.toNat_of_nonneg m0]
theorem InS.stopNo {n : Int} (h : InS S LN L pl many group b k s M) (hS : Lx.E "stop" stopM) (hc : M.cut = none) : ∃ M', Step Lx [.str "stop", .int n] M M' ∧ InS S LN L pl many group b (k + 1) s M' ∧ M'.width = M.width ∧ M'.faults = M.faults ∧ (∀ m, M'.act m = M.act m) ∧ (∀ (p' : Nat) (j : Int), M'.numAt p' j = M.numAt p' j) := by
  have e : stopM [.str "stop", .int n] M = some M := by
    unfold stopM
    rw [hc]; rfl
  have hpc : M.pc + 1 = ((pl + (k + 1) : Nat) : Int) := by rw [h.pc]; omega
  exact ⟨_, Step.eff (word := "stop") hS rfl e h.ok, ⟨⟨h.ok.l1, h.ok.l64, h.ok.g, h.ok.nl, h.ok.ml, h.ok.mm, h.ok.w0, h.ok.w1⟩, h.wle, h.begun, h.base, hpc, h.opened, h.many, h.group, h.lanes, h.rf, h.starts, h.lens, h.cells, h.touches⟩, rfl, rfl, fun _ => rfl, fun _ _ => rfl⟩
theorem InS.stopAt {n c : Int} {z : Str} (h : InS S LN L pl many group b k s M) (hS : Lx.E "stop" stopM) (hc : M.cut = some c) (hz : yl M.faults (.inl c) = some (.str z)) : ∃ M', Step Lx [.str "stop", .int n] M M' ∧ M'.refusal = some (n, b + c, z) ∧ M'.cells = s.1 ∧ M'.touches = s.2 := by
  have e : stopM [.str "stop", .int n] M = some { M with refusal := some (n, M.base + c, z) } := by
    unfold stopM
    rw [hc]
    show (match yl M.faults (.inl c) with | some (V.str z) => _ | _ => _) = _
    rw [hz]
  exact ⟨_, Step.eff (word := "stop") hS rfl e h.ok, by show some (n, M.base + c, z) = _; rw [h.base], h.cells, h.touches⟩
end
end K35
namespace K35
open PySem L2
def Plain (tv : List V) : Prop := ∃ ds, (∀ K H, DVs K H tv ds) ∧ PyData.canLayAll0 ds = true ∧ PyData.depthAll ds ≤ 1
theorem plain_code {K : PySem.W.Frag} {H : Hp} : ∀ {cs : List Addr} {code : List (List V)}, CodeAt H cs code → (∀ tv ∈ code, Plain tv) → ∃ dsc, DVs K H (cs.map V.ref) dsc ∧ PyData.canLayAll0 dsc = true ∧ PyData.depthAll dsc ≤ 2
  | [], _, _, _ => ⟨[], .nil, rfl, dep_nil⟩
  | a :: cs, [], h, _ => by have := h.n; cases this
  | a :: cs, tv :: code, h, hp => by
    obtain ⟨ds, d1, d2, d3⟩ := hp tv List.mem_cons_self
    obtain ⟨dsc, e1, e2, e3⟩ := plain_code (K := K) (H := H) (cs := cs) (code := code) ⟨by have := h.n; simpa using this, fun i b t x y => h.t (i + 1) b t (by simpa using x) (by simpa using y)⟩ fun t ht => hp t (List.mem_cons_of_mem _ ht)
    refine ⟨.tuple ds :: dsc, .cons (.tup (SqT.of (h.t 0 a tv rfl rfl)) (d1 K H)) e1, ?_, xf (dep_tup d3) e3⟩
    show (PyData.canLayAll0 ds && PyData.canLayAll0 dsc) = true
    rw [d2, e2]; rfl
theorem lay_str {z : Str} {xs : List PyData} (h : PyData.canLay0 (.str z) = true) (h2 : PyData.canLayAll0 xs = true) : PyData.canLayAll0 (.str z :: xs) = true := by
  show (PyData.canLay0 (.str z) && PyData.canLayAll0 xs) = true
  rw [h, h2]; rfl
theorem dep_int {n : Int} : (PyData.int n).depth ≤ 1 := by simp [PyData.depth]
theorem dep_str {z : Str} : (PyData.str z).depth ≤ 1 := by simp [PyData.depth]
section
variable {P : Program} {w : World} {K : PySem.W.Frag} {mg : Str → Option Value} {base : Heap}
def spLRan (c : MCs) (K : PySem.W.Frag) (Lx : Lex) : Sp := fun vs H Q _ => ∃ (a l1 l2 l3 l4 : Addr) (cs : List Addr) (code : List (List V)) (lens cells dust picks : List Int) (L n : Nat) (Mf : Mc), vs = [.ref a, .ref l1, .ref l2, .int L, .ref l3, .ref l4] ∧ SqL K H a (cs.map V.ref) ∧ CodeAt H cs code ∧ (∀ tv ∈ code, Plain tv) ∧ SqL K H l1 (lens.map V.int) ∧ SqL K H l2 (cells.map V.int) ∧ SqL K H l3 (dust.map V.int) ∧ SqL K H l4 (picks.map V.int) ∧ 1 ≤ L ∧ L ≤ 64 ∧ lens.length ≤ 1000 ∧ code.length ≤ 1000 ∧ Run Lx code n (Mc.fresh lens cells L dust picks) Mf ∧
  ∀ B' A' H' t, Same H B' → MAt c B' A' Mf [] H' → B' t = some (.tup [.ref A'.aC, A'.rf, .ref A'.aT]) → Q (.ref t) H'
theorem ok_lran {c : MCs} {Lx : Lex} (d : zC K mg "_law_ran" s_l_ran ["_law_code", "_law_lengths", "_law_cells", "_law_lanes_here", "_law_dust_here", "_law_picks"]) (hlist : mg "list" = none) (RN : Ok P w K mg base CX0 10 "ran" ["code", "lengths", "cells", "lanes", "dust", "picks"] (spRan c K Lx)) :
    Ok P w K mg base CX0 11 "_law_ran" ["_law_code", "_law_lengths", "_law_cells", "_law_lanes_here", "_law_dust_here", "_law_picks"] (spLRan c K Lx) := by
  obtain ⟨g, fd, m, F, b⟩ := d
  refine ⟨g, fd, m, F.kp, b, F.ok sc_l_ran (fun vs H Q E ⟨_, _, _, _, _, _, _, _, _, _, _, _, _, _, e, _⟩ => by rw [e]; rfl) fun cdv A outer s H vs Q E hr h => ?_⟩
  obtain ⟨a, l1, l2, l3, l4, cs, code, lens, cells, dust, picks, L, n, Mf, rfl, qa, CA, hpl, q1, q2, q3, q4, L1, L64, hl, hcl, run, q⟩ := h
  have nd := sc_l_ran.nd
  have hr7 := hr
  have hu := hr.units
  have SL : (200000 : Nat) < sizeLine := by decide
  refine ⟨_, (zb (zt (i := 6) nd rfl (Or.inl rfl) (yL (za (yc yd (by rfl) hlist PyProof.Rows.boot_list (za (pv 0) zd)) (za (yc yd (by rfl) hlist PyProof.Rows.boot_list (za (pv 1) zd)) (za (yc yd (by rfl) hlist PyProof.Rows.boot_list (za (pv 2) zd)) (za (yc yd (by rfl) hlist PyProof.Rows.boot_list (za (pv 4) zd)) (za (yc yd (by rfl) hlist PyProof.Rows.boot_list (za (pv 5) zd)) zd)))))))
      (zb (zt (i := 7) nd rfl (Or.inl rfl) (zO RN hr7 (by rfl) zr (za (zE zB (pv 6) zc (fun _ _ => rfl)) (za (zE zB (pv 6) zc (fun _ _ => rfl)) (za (zE zB (pv 6) zc (fun _ _ => rfl)) (za (pv 3) (za (zE zB (pv 6) zc (fun _ _ => rfl)) (za (zE zB (pv 6) zc (fun _ _ => rfl)) zd))))))))
      (zb (yr (zX (op_neD hu) (pv 6) (yL (za (pv 0) (za (pv 1) (za (pv 2) (za (pv 4) (za (pv 5) zd)))))) (zW _)) (zh (zu yZ)) zK)
      (zh (zu (pv 7)))))), ?_⟩
  refine ⟨_, rfl, a, _, rfl, .inl qa, fun x1 n11 => ?_⟩
  have s11 : Same H (upd H x1 (.lst (cs.map V.ref))) := zg (Same.refl _) n11
  have e11 : upd H x1 (.lst (cs.map V.ref)) x1 = some (.lst (cs.map V.ref)) := zf
  generalize upd H x1 (.lst (cs.map V.ref)) = G1 at s11 e11 ⊢
  refine ⟨_, rfl, l1, _, rfl, .inl (zq q1 s11), fun x2 n12 => ?_⟩
  have s12 : Same G1 (upd G1 x2 (.lst (lens.map V.int))) := zg (Same.refl _) n12
  have e12 : upd G1 x2 (.lst (lens.map V.int)) x2 = some (.lst (lens.map V.int)) := zf
  generalize upd G1 x2 (.lst (lens.map V.int)) = G2 at s12 e12 ⊢
  have t2 : Same H G2 := s11.trans s12
  refine ⟨_, rfl, l2, _, rfl, .inl (zq q2 t2), fun x3 n13 => ?_⟩
  have s13 : Same G2 (upd G2 x3 (.lst (cells.map V.int))) := zg (Same.refl _) n13
  have e13 : upd G2 x3 (.lst (cells.map V.int)) x3 = some (.lst (cells.map V.int)) := zf
  generalize upd G2 x3 (.lst (cells.map V.int)) = G3 at s13 e13 ⊢
  have t3 : Same H G3 := t2.trans s13
  refine ⟨_, rfl, l3, _, rfl, .inl (zq q3 t3), fun x4 n14 => ?_⟩
  have s14 : Same G3 (upd G3 x4 (.lst (dust.map V.int))) := zg (Same.refl _) n14
  have e14 : upd G3 x4 (.lst (dust.map V.int)) x4 = some (.lst (dust.map V.int)) := zf
  generalize upd G3 x4 (.lst (dust.map V.int)) = G4 at s14 e14 ⊢
  have t4 : Same H G4 := t3.trans s14
  refine ⟨_, rfl, l4, _, rfl, .inl (zq q4 t4), fun x5 n15 => ?_⟩
  have s15 : Same G4 (upd G4 x5 (.lst (picks.map V.int))) := zg (Same.refl _) n15
  have e15 : upd G4 x5 (.lst (picks.map V.int)) x5 = some (.lst (picks.map V.int)) := zf
  generalize upd G4 x5 (.lst (picks.map V.int)) = G5 at s15 e15 ⊢
  have t5 : Same H G5 := t4.trans s15
  refine ⟨(by show 5 ≤ sizeLine; omega), fun hh n16 => ?_⟩
  have s16 : Same G5 (upd G5 hh (.lst [.ref x1, .ref x2, .ref x3, .ref x4, .ref x5])) := zg (Same.refl _) n16
  have e16 : upd G5 hh (.lst [.ref x1, .ref x2, .ref x3, .ref x4, .ref x5]) hh = some (.lst [.ref x1, .ref x2, .ref x3, .ref x4, .ref x5]) := zf
  generalize upd G5 hh (.lst [.ref x1, .ref x2, .ref x3, .ref x4, .ref x5]) = G6 at s16 e16 ⊢
  have t6 : Same H G6 := t5.trans s16
  have qh : SqL K G6 hh [.ref x1, .ref x2, .ref x3, .ref x4, .ref x5] := SqL.of e16
  have z5 := s16
  have z4 := s15.trans z5
  have z3 := s14.trans z4
  have z2 := s13.trans z3
  have z1 := s12.trans z2
  have CG : CodeAt G6 cs code := ⟨CA.n, fun i b tv x y => t6 _ _ (CA.t i b tv x y)⟩
  refine ⟨_, rfl, hh, _, _, .ref x1, rfl, rfl, qh, rfl, _, rfl, hh, _, _, .ref x2, rfl, rfl, qh, rfl, _, rfl, hh, _, _, .ref x3, rfl, rfl, qh, rfl, _, rfl, _, rfl, hh, _, _, .ref x4, rfl, rfl, qh, rfl, _, rfl, hh, _, _, .ref x5, rfl, rfl, qh, rfl, ?_⟩
  refine ⟨x1, x2, x3, x4, x5, cs, code, lens, cells, dust, picks, L, n, Mf, rfl, SqL.of (z1 _ _ e11), CG, SqL.of (z2 _ _ e12), SqL.of (z3 _ _ e13), SqL.of (z4 _ _ e14), SqL.of (z5 _ _ e15), L1, L64, hl, hcl, run, fun B9 A9 H9 t s9 m9 et => ?_⟩
  refine ⟨_, rfl, _, rfl, _, rfl, _, rfl, _, rfl, _, rfl, (by show 5 ≤ sizeLine; omega), fun ll n17 => ?_⟩
  have m10 := m9.grow (o := .lst [.ref a, .ref l1, .ref l2, .ref l3, .ref l4]) n17
  have s10 : Same B9 (upd B9 ll (.lst [.ref a, .ref l1, .ref l2, .ref l3, .ref l4])) := zg (Same.refl _) (m9.h.free n17)
  have e17 : upd H9 ll (.lst [.ref a, .ref l1, .ref l2, .ref l3, .ref l4]) ll = some (.lst [.ref a, .ref l1, .ref l2, .ref l3, .ref l4]) := zf
  generalize upd B9 ll (.lst [.ref a, .ref l1, .ref l2, .ref l3, .ref l4]) = B10 at m10 s10
  generalize upd H9 ll (.lst [.ref a, .ref l1, .ref l2, .ref l3, .ref l4]) = H10 at m10 e17 ⊢
  have y6 : Same G6 H10 := (s9.trans s10).trans m10.h.sm
  have y0 : Same H H10 := t6.trans y6
  obtain ⟨dsc, c1, c2, c3⟩ := plain_code (K := K) (H := H10) (cs := cs) (code := code) ⟨CG.n, fun i b tv x y => y6 _ _ (CG.t i b tv x y)⟩ hpl
  have lay : (PyData.list [.list dsc, dI lens, dI cells, dI dust, dI picks]).canLay0 = true := by
    show (PyData.canLayAll0 dsc && (PyData.canLay0 (dI lens) && (PyData.canLay0 (dI cells) && (PyData.canLay0 (dI dust) && (PyData.canLay0 (dI picks) && true))))) = true
    rw [c2, lay_ints, lay_ints, lay_ints, lay_ints]; rfl
  refine ⟨.list [.list dsc, dI lens, dI cells, dI dust, dI picks], .list [.list dsc, dI lens, dI cells, dI dust, dI picks], ?_, ?_, lay, lay, ?_, ?_⟩
  · exact .lst (SqL.of (y6 _ _ e16)) (.cons (.lst (SqL.of (y6 _ _ (z1 _ _ e11))) c1) (.cons (dv_ints (SqL.of (y6 _ _ (z2 _ _ e12)))) (.cons (dv_ints (SqL.of (y6 _ _ (z3 _ _ e13)))) (.cons (dv_ints (SqL.of (y6 _ _ (z4 _ _ e14)))) (.cons (dv_ints (SqL.of (y6 _ _ (z5 _ _ e15)))) .nil)))))
  · exact .lst (SqL.of e17) (.cons (.lst (zq qa y0) c1) (.cons (dv_ints (zq q1 y0)) (.cons (dv_ints (zq q2 y0)) (.cons (dv_ints (zq q3 y0)) (.cons (dv_ints (zq q4 y0)) .nil)))))
  · exact Nat.le_trans (dep_list (n := 3) (xf (dep_list c3) (xf (Nat.le_trans dep_ints (by decide)) (xf (Nat.le_trans dep_ints (by decide)) (xf (Nat.le_trans dep_ints (by decide)) (xf (Nat.le_trans dep_ints (by decide)) dep_nil)))))) (by decide)
  · refine ⟨_, rfl, ?_⟩
    rw [SeqAt.eqv_refl _ lay]
    refine yn ⟨_, rfl, ?_⟩
    exact q B10 A9 H10 t ((t6.trans s9).trans s10) m10 (s10 _ _ et)
end
end K35
namespace K35
open PySem L2
structure TAt (B : Hp) (ts : List Addr) (T : List Tch) : Prop where
  n : ts.length = T.length
  t : ∀ (i : Nat) a p, ts[i]? = some a → T[i]? = some p → B a = some (.tup [.int p.1, .str p.2.1, .int p.2.2])
theorem TAt.same {B B' : Hp} {ts : List Addr} {T : List Tch} (h : TAt B ts T) (s : Same B B') : TAt B' ts T := ⟨h.n, fun i a p x y => s _ _ (h.t i a p x y)⟩
theorem TAt.snoc {B : Hp} {ts : List Addr} {T : List Tch} {t : Addr} {p : Tch} (h : TAt B ts T) (e : B t = some (.tup [.int p.1, .str p.2.1, .int p.2.2])) : TAt B (ts ++ [t]) (T ++ [p]) := by
  refine ⟨by rw [List.length_append, List.length_append, h.n]; rfl, fun i a q x y => ?_⟩
  have hn := h.n
  by_cases z : i < ts.length
  · rw [List.getElem?_append_left z] at x
    rw [List.getElem?_append_left (by omega)] at y
    exact h.t i a q x y
  · rw [List.getElem?_append_right (by omega)] at x y
    rw [hn] at x
    cases e2 : i - T.length with
    | zero => rw [e2] at x y; cases x; cases y; exact e
    | succ j => rw [e2] at x; cases x
theorem size_iff {many side : Int} (h1 : 1 ≤ many) (h2 : 1 ≤ side) : ∃ N : Nat, Builtin.Range.rangeSize 0 many side = N ∧ ∀ i : Nat, i < N ↔ (i : Int) * side < many := by
  have e : Builtin.Range.rangeSize 0 many side = (many - 0 - 1) / side + 1 := by
    unfold Builtin.Range.rangeSize
    rw [if_pos (show side > 0 by omega), if_pos (by omega)]
  have nn : 0 ≤ (many - 0 - 1) / side := Int.ediv_nonneg (by omega) (by omega)
  refine ⟨((many - 0 - 1) / side + 1).toNat, by rw [e]; omega, fun i => ?_⟩
  have k := Int.le_ediv_iff_mul_le (a := (i : Int)) (b := many - 0 - 1) (show 0 < side by omega)
  constructor
  · intro z
    have := k.mp (by omega)
    omega
  · intro z
    have := k.mpr (by omega)
    omega
theorem xb : ∀ (ns : List Int) (r : Nat), (∀ v ∈ ns, 0 ≤ v) → 0 ≤ (ns.take r).sum ∧ (ns.take r).sum ≤ ns.sum
  | [], r, _ => by rw [List.take_nil]; exact ⟨Int.le_refl _, Int.le_refl _⟩
  | n :: ns, 0, h => by
    have := (xb ns 0 fun v hv => h v (List.mem_cons_of_mem _ hv))
    have h0 := h n List.mem_cons_self
    rw [List.take_zero, List.sum_nil] at this ⊢
    rw [List.sum_cons]; omega
  | n :: ns, r + 1, h => by
    have := (xb ns r fun v hv => h v (List.mem_cons_of_mem _ hv))
    have h0 := h n List.mem_cons_self
    rw [List.take_succ_cons, List.sum_cons, List.sum_cons]; omega
theorem take_sum_succ (ns : List Int) (r : Nat) (h : r < ns.length) : (ns.take (r + 1)).sum = (ns.take r).sum + ns.getD r 0 := by
  rw [List.take_add_one, List.getD_eq_getElem?_getD, List.getElem?_eq_getElem h, List.sum_append]
  show _ + (ns[r] + 0) = _ + ns[r]
  omega
theorem row_room {ns : List Int} {r : Nat} {m : Int} (hv : ∀ v ∈ ns, 0 ≤ v) (h : r < ns.length) (hm : m ≤ ns.getD r 0) : 0 ≤ (ns.take r).sum ∧ (ns.take r).sum + m ≤ ns.sum := by
  have a := xb ns r hv
  have b := xb ns (r + 1) hv
  rw [take_sum_succ ns r h] at b
  omega
theorem starts_at {ns : List Int} {r : Nat} (h : r < ns.length) : (zk ns).getD r 0 = (ns.take r).sum := by
  unfold zk
  rw [List.getD_eq_getElem?_getD, List.getElem?_map, List.getElem?_range h]; rfl
theorem starts_len (ns : List Int) : (zk ns).length = ns.length := by unfold zk; rw [List.length_map, List.length_range]
theorem TAt.note {B : Hp} {L : List (Addr × HO)} {H : Hp} {ts : List Addr} {T : List Tch} {t : Addr} {p : Tch} (h : TAt B ts T) (hd : Hd B L H) (nt : H t = none) : Hd (upd B t (.tup [.int p.1, .str p.2.1, .int p.2.2])) L (upd H t (.tup [.int p.1, .str p.2.1, .int p.2.2])) ∧ TAt (upd B t (.tup [.int p.1, .str p.2.1, .int p.2.2])) (ts ++ [t]) (T ++ [p]) ∧ Same B (upd B t (.tup [.int p.1, .str p.2.1, .int p.2.2])) :=
  ⟨hd.grow nt, (h.same (zg (Same.refl _) (hd.free nt))).snoc zf, zg (Same.refl _) (hd.free nt)⟩
end K35
namespace K35
open PySem L2
theorem yK {z : Str} {ns : List Int} (h : PyData.canLay0 (.str z) = true) : Plain (.str z :: ns.map V.int) := by
  refine ⟨.str z :: ns.map PyData.int, fun K H => .cons (.str _) ?_, lay_str h layAll_ints, xf dep_str ?_⟩
  · induction ns with
    | nil => exact .nil
    | cons n ns ih => exact .cons (.int _) ih
  · induction ns with
    | nil => exact dep_nil
    | cons n ns ih => exact xf dep_int ih
theorem code_app {B : Hp} {cs os : List Addr} {code one : List (List V)} (h : CodeAt B cs code) (h2 : CodeAt B os one) : CodeAt B (cs ++ os) (code ++ one) := by
  refine ⟨by rw [List.length_append, List.length_append, h.n, h2.n], fun t b tv hx hy => ?_⟩
  by_cases z : t < cs.length
  · rw [List.getElem?_append_left z] at hx
    rw [List.getElem?_append_left (by rw [← h.n]; exact z)] at hy
    exact h.t t b tv hx hy
  · rw [List.getElem?_append_right (by omega)] at hx
    rw [List.getElem?_append_right (by rw [← h.n]; omega), ← h.n] at hy
    exact h2.t _ b tv hx hy
end K35
namespace K35
open PySem L2
theorem told_inV (g : Int → V) {j : Int} : ∀ (js : List Int) (kvs : List (Key × V)), (j ∈ js ∨ yl kvs (.inl j) = some (g j)) → yl (putAll kvs (js.map fun j => ((.inl j : Key), g j))) (.inl j) = some (g j)
  | [], kvs, h => by
    rcases h with h | h
    · cases h
    · exact h
  | i :: js, kvs, h => by
    show yl (putAll (putK kvs (.inl i) (g i)) _) _ = _
    refine told_inV g js _ ?_
    by_cases e : j = i
    · right; rw [valV_put, e, if_pos rfl]
    · rcases h with h | h
      · rcases List.mem_cons.mp h with h | h
        · exact absurd h e
        · exact .inl h
      · right
        rw [valV_put, if_neg (fun z => e (Sum.inl.inj z))]
        exact h
theorem told_memO (g : Int → Option Int) {js : List Int} {j : Int} (h : j ∈ js) : yl (yX js (js.map g)) (.inl j) = some (oV (g j)) := by
  have e : (js.map Sum.inl).zip ((js.map g).map oV) = js.map fun j => ((.inl j : Key), oV (g j)) := by
    rw [List.map_map, List.zip_map']; rfl
  unfold yX
  rw [e]
  exact told_inV (fun j => oV (g j)) js [] (.inl h)
theorem act_less {M N : Mc} {bad : Int → Bool} (hm : N.masks = M.masks) (hw : N.width = M.width) (hf : ∀ j : Int, (yl N.faults (.inl j)).isSome = ((yl M.faults (.inl j)).isSome || bad j)) (m : Nat) : N.act m = (M.act m).filter fun j => !bad j := by
  unfold Mc.act Mc.actTo
  rw [hw, List.filter_map, List.filter_filter]
  congr 1
  refine List.filter_congr fun j _ => ?_
  show N.isAct m j = (!bad (j : Int) && M.isAct m j)
  unfold Mc.isAct
  rw [hm, hf]
  cases (M.masks.getD m []).getD j false <;> cases (yl M.faults (.inl (j : Int))).isSome <;> cases bad (j : Int) <;> rfl
structure Kp (M N : Mc) : Prop where
  w : N.width = M.width
  cut : N.cut = M.cut
  masks : N.masks = M.masks
  slots : N.slots = M.slots
  carried : N.carried = M.carried
  raised : N.raised = M.raised
  turns : N.turns = M.turns
  pq : N.pq = M.pq
  picks : N.picks = M.picks
theorem act_same {M N : Mc} (hk : Kp M N) (hf : N.faults = M.faults) (m : Nat) : N.act m = M.act m := by
  unfold Mc.act Mc.actTo Mc.isAct
  rw [hk.w, hk.masks, hf]
section
variable {Lx : Lex} {S LN : List Int} {L pl k : Nat} {many group b : Int} {s : DT} {M : Mc}
theorem InS.seatO {word : Str} {f : FnM} {tv : List V} {p m : Nat} {T' : List Tch} {F' : List (Key × V)} {g : Int → Option Int} (h : InS S LN L pl many group b k s M) (hS : Lx.S word f) (h0 : tv[0]? = some (.str word)) (h1 : tv[1]? = some (.int p)) (hl : tv.getLast? = some (.int m)) (p8 : ((p : Int) + 1) * group ≤ 8) (m16 : m < 16)
    (ef : f tv M (M.act m) = some ({ M with touches := M.touches ++ T', faults := F' }, (M.act m).map g)) :
    ∃ M', Step Lx tv M M' ∧ InS S LN L pl many group b (k + 1) (s.1, s.2 ++ T') M' ∧ (Kp M M' ∧ M'.faults = F') ∧ (∀ j ∈ M.act m, ∀ v, g j = some v → M'.numAt p j = v) ∧ (∀ (p' : Nat) (j : Int), p' ≠ p → 0 ≤ j → j < group * L → M'.numAt p' j = M.numAt p' j) := by
  have l1 := h.ok.l1
  have hg := h.ok.g
  have w0 := h.ok.w0
  have w1 := h.ok.w1
  have hL := h.lanes
  have hG := h.group
  have g1 : 1 ≤ group := by rw [← hG]; omega
  generalize hN0 : ({ M with touches := M.touches ++ T', faults := F' } : Mc) = N0 at ef
  have ese : seatM f tv M = some (N0.laidSeat (yX (M.act m) ((M.act m).map g)) p) := by
    unfold seatM
    rw [h1, hl]
    show (if _ then _ else _) = _
    rw [if_pos ⟨by omega, by rw [hG]; exact p8, by omega, by omega⟩, Int.toNat_natCast, Int.toNat_natCast, ef]; rfl
  have st1 := Step.seat hS h0 ese h.ok
  unfold Mc.laidSeat at st1
  have gN0 : N0.group = M.group := by rw [← hN0]
  have lN0 : N0.lanes = M.lanes := by rw [← hN0]
  have rm : N0.room = (group * (L : Int)).toNat := by unfold Mc.room; rw [gN0, lN0, hG, hL]
  have hin : ∀ t : Nat, t < N0.room → 0 ≤ (p : Int) * N0.group * N0.lanes + t ∧ ((p : Int) * N0.group * N0.lanes + t).toNat < N0.nums.length := fun t ht => by
    rw [gN0, lN0]
    rw [rm] at ht
    have := seat_in hg (show (1 : Int) ≤ M.lanes by omega) (show (0 : Int) ≤ p by omega) (by rw [hG]; exact p8) (show (0 : Int) ≤ t by omega) (by rw [hG, hL]; omega)
    have e : N0.nums.length = 8 * M.lanes := by rw [← hN0]; exact h.ok.nl
    rw [e]
    omega
  have eN := layTo_is (yX (M.act m) ((M.act m).map g)) p N0 N0.room
  have hlen := (N0.layTo_same (yX (M.act m) ((M.act m).map g)) p N0.room).n
  have hat : ∀ j ∈ M.act m, ∀ v, g j = some v → (N0.layTo (yX (M.act m) ((M.act m).map g)) p N0.room).numAt p j = v := fun j hj v hv => by
    have a := h.mem hj
    obtain ⟨jn, rfl⟩ : ∃ n : Nat, j = n := ⟨j.toNat, by omega⟩
    exact layTo_at _ p _ _ jn _ (by rw [rm]; omega) hin (by rw [told_memO g hj, hv]; rfl)
  have hoff : ∀ (p' : Nat) (j : Int), p' ≠ p → 0 ≤ j → j < group * L → (N0.layTo (yX (M.act m) ((M.act m).map g)) p N0.room).nums.getD ((p' : Int) * group * L + j).toNat 0 = M.nums.getD ((p' : Int) * group * L + j).toNat 0 := fun p' j ne j0 j1 => by
    have := layTo_off (yX (M.act m) ((M.act m).map g)) p N0 N0.room ((p' : Int) * group * L + j).toNat fun t ht z => by
      have t2 := hin t ht
      rw [rm] at ht
      rw [gN0, lN0, hG, hL] at z t2
      have ap := seats_apart (p := (p : Int)) (q := (p' : Int)) (L := (L : Int)) g1 (by omega) (fun y => ne (by omega)) j0 j1 (show (0 : Int) ≤ t by omega) (by omega)
      have pos : 0 ≤ (p' : Int) * group * L := Int.mul_nonneg (Int.mul_nonneg (by omega) (by omega)) (by omega)
      omega
    rw [this, ← hN0]
  generalize N0.layTo (yX (M.act m) ((M.act m).map g)) p N0.room = N at *
  have eN1 : ({ N with pc := N.pc + 1 } : Mc) = { M with nums := N.nums, dq := N.dq, touches := M.touches ++ T', faults := F', pc := ((pl + (k + 1) : Nat) : Int) } := by
    have e2 : N.pc + 1 = ((pl + (k + 1) : Nat) : Int) := by rw [eN, ← hN0]; show M.pc + 1 = _; rw [h.pc]; omega
    rw [e2, eN, ← hN0]
  have gN : N.group = M.group := by rw [eN]; exact gN0
  have lN : N.lanes = M.lanes := by rw [eN]; exact lN0
  rw [eN1] at st1
  refine ⟨_, st1, ⟨⟨h.ok.l1, h.ok.l64, h.ok.g, ?_, h.ok.ml, h.ok.mm, w0, w1⟩, h.wle, h.begun, h.base, rfl, h.opened, h.many, hG, hL, h.rf, h.starts, h.lens, h.cells, ?_⟩, ⟨⟨rfl, rfl, rfl, rfl, rfl, rfl, rfl, rfl, rfl⟩, rfl⟩, fun j hj v hv => ?_, fun p' j ne j0 j1 => ?_⟩
  · show N.nums.length = _
    rw [hlen, ← hN0]; exact h.ok.nl
  · show M.touches ++ T' = _
    rw [h.touches]
  · have := hat j hj v hv
    unfold Mc.numAt at this ⊢
    rw [gN, lN] at this
    exact this
  · have := hoff p' j ne j0 j1
    unfold Mc.numAt
    show N.nums.getD ((p' : Int) * M.group * M.lanes + j).toNat 0 = M.nums.getD ((p' : Int) * M.group * M.lanes + j).toNat 0
    rw [hG, hL]
    exact this
theorem InS.loadO {r p m : Nat} (h : InS S LN L pl many group b k s M) (hS : Lx.S "load" loadM) (p8 : ((p : Int) + 1) * group ≤ 8) (m16 : m < 16) (hr : r < S.length) (b0 : 0 ≤ b) (ir : 0 ≤ S.getD r 0 ∧ S.getD r 0 + many ≤ s.1.length) (ht : s.2.length + (M.act m).length < 100000) :
    ∃ M', Step Lx [.str "load", .int p, .int r, .int m] M M' ∧ InS S LN L pl many group b (k + 1) (s.1, s.2 ++ ((M.act m).map (b + ·)).map fun e => (((pl + k : Nat) : Int), ("read" : Str), S.getD r 0 + e)) M' ∧ (Kp M M' ∧ M'.faults = M.faults) ∧ (∀ j ∈ M.act m, M'.numAt p j = s.1.getD (S.getD r 0 + (b + j)).toNat 0) ∧ (∀ (p' : Nat) (j : Int), p' ≠ p → 0 ≤ j → j < group * L → M'.numAt p' j = M.numAt p' j) := by
  have et : M.touches ++ (M.act m).map (fun j => (M.pc, ("read" : Str), M.adr r (M.base + j))) = M.touches ++ ((M.act m).map (b + ·)).map fun e => (((pl + k : Nat) : Int), ("read" : Str), S.getD r 0 + e) := by
    congr 1
    rw [List.map_map]
    refine List.map_congr_left fun j hj => ?_
    show (M.pc, ("read" : Str), M.starts.getD r 0 + (M.base + j)) = (_, _, S.getD r 0 + (b + j))
    rw [h.starts, h.base, h.pc]
  have ef : loadM [.str "load", .int p, .int r, .int m] M (M.act m) = some ({ M with touches := M.touches ++ ((M.act m).map (b + ·)).map fun e => (((pl + k : Nat) : Int), ("read" : Str), S.getD r 0 + e), faults := M.faults }, (M.act m).map fun j => some (s.1.getD (S.getD r 0 + (b + j)).toNat 0)) := by
    unfold loadM
    refine (if_pos ?_).trans ?_
    · rw [Int.toNat_natCast, h.touches]
      refine ⟨by omega, ⟨by rw [h.starts]; exact hr, fun j hj => ?_⟩, ht⟩
      have := h.mem hj
      unfold Mc.adr
      rw [h.starts, h.cells, h.base]
      omega
    · rw [Int.toNat_natCast]
      unfold Mc.reads
      rw [et]
      congr 2
      refine List.map_congr_left fun j hj => ?_
      unfold Mc.valAt Mc.adr
      rw [h.starts, h.cells, h.base]
  obtain ⟨M', st, i, w, n, o⟩ := h.seatO (tv := [.str "load", .int p, .int r, .int m]) hS rfl rfl rfl p8 m16 ef
  exact ⟨M', st, i, w, fun j hj => n j hj _ rfl, o⟩
theorem InS.storeO {q p m : Nat} {F : Int → Int} (h : InS S LN L pl many group b k s M) (hS : Lx.E "store" storeM) (p8 : ((p : Int) + 1) * group ≤ 8) (m16 : m < 16) (hq : q < S.length) (b0 : 0 ≤ b) (iq : 0 ≤ S.getD q 0 ∧ S.getD q 0 + many ≤ s.1.length) (ht : s.2.length + (M.act m).length < 100000) (hn : ∀ j ∈ M.act m, M.numAt p j = F (b + j)) :
    ∃ M', Step Lx [.str "store", .int q, .int p, .int m] M M' ∧ InS S LN L pl many group b (k + 1) (y4 s.1 (((M.act m).map (b + ·)).map fun e => (S.getD q 0 + e, F e)), s.2 ++ ((M.act m).map (b + ·)).map fun e => (((pl + k : Nat) : Int), ("write" : Str), S.getD q 0 + e)) M' ∧ (Kp M M' ∧ M'.faults = M.faults) ∧ (∀ (p' : Nat) (j : Int), M'.numAt p' j = M.numAt p' j) := by
  have est : storeM [.str "store", .int q, .int p, .int m] M = some (M.puts q ((M.act m).map fun j => (M.base + j, M.numAt p j))) := by
    unfold storeM
    refine (if_pos ?_).trans ?_
    rotate_left
    · rw [Int.toNat_natCast, Int.toNat_natCast]; rfl
    · show _ ∧ _ ∧ _ ∧ _ ∧ _ ∧ rowIn M (Int.toNat q) (M.act (Int.toNat m)) ∧ _ + (M.act (Int.toNat m)).length < _
      rw [Int.toNat_natCast, Int.toNat_natCast, h.group, h.touches]
      refine ⟨by omega, by omega, p8, by omega, by omega, ⟨by rw [h.starts]; exact hq, fun j hj => ?_⟩, ht⟩
      have := h.mem hj
      unfold Mc.adr
      rw [h.starts, h.cells, h.base]
      omega
  have st := Step.eff (word := "store") hS rfl est h.ok
  obtain ⟨pi1, pi2⟩ := M.puts_is q ((M.act m).map fun j => (M.base + j, M.numAt p j))
  have ec : (M.puts q ((M.act m).map fun j => (M.base + j, M.numAt p j))).cells = y4 s.1 (((M.act m).map (b + ·)).map fun e => (S.getD q 0 + e, F e)) := by
    rw [puts_cells, h.cells]
    congr 1
    rw [List.map_map, List.map_map]
    refine List.map_congr_left fun j hj => ?_
    show (M.starts.getD q 0 + (M.base + j), M.numAt p j) = (S.getD q 0 + (b + j), F (b + j))
    rw [h.starts, h.base, hn j hj]
  have et : M.touches ++ ((M.act m).map fun j => (M.base + j, M.numAt p j)).map (fun p => (M.pc, ("write" : Str), M.adr q p.1)) = s.2 ++ ((M.act m).map (b + ·)).map fun e => (((pl + k : Nat) : Int), ("write" : Str), S.getD q 0 + e) := by
    rw [h.touches]
    congr 1
    rw [List.map_map, List.map_map]
    refine List.map_congr_left fun j hj => ?_
    show (M.pc, ("write" : Str), M.starts.getD q 0 + (M.base + j)) = (_, _, S.getD q 0 + (b + j))
    rw [h.starts, h.base, h.pc]
  rw [ec, et] at pi1
  generalize M.puts q ((M.act m).map fun j => (M.base + j, M.numAt p j)) = N at *
  subst pi1
  refine ⟨_, st, ⟨⟨h.ok.l1, h.ok.l64, h.ok.g, h.ok.nl, h.ok.ml, h.ok.mm, h.ok.w0, h.ok.w1⟩, h.wle, h.begun, h.base, ?_, h.opened, h.many, h.group, h.lanes, h.rf, h.starts, h.lens, rfl, rfl⟩, ⟨⟨rfl, rfl, rfl, rfl, rfl, rfl, rfl, rfl, rfl⟩, rfl⟩, fun _ _ => rfl⟩
  show M.pc + 1 = _
  rw [h.pc]; omega
def gIn (n x : Int) : Bool := decide (0 ≤ x) && decide (x < n)
theorem gaAll_eq (r : Nat) (f : Int → Int) : ∀ (js : List Int) (M : Mc), Mc.gaAll r (js.map fun j => (f j, j)) M = ({ M with touches := M.touches ++ (js.filter fun j => gIn (M.lens.getD r 0) (f j)).map fun j => (M.pc, ("read" : Str), M.adr r (f j)), faults := outF M.faults (js.filter fun j => !gIn (M.lens.getD r 0) (f j)) }, js.map fun j => if gIn (M.lens.getD r 0) (f j) = true then some (M.cells.getD (M.adr r (f j)).toNat 0) else none)
  | [], M => by
    show (M, []) = ({ M with touches := M.touches ++ [], faults := M.faults }, [])
    rw [List.append_nil]
  | j :: js, M => by
    show ((Mc.gaAll r (js.map fun j => (f j, j)) (M.gaOne r (f j) j).1).1, (M.gaOne r (f j) j).2 :: (Mc.gaAll r (js.map fun j => (f j, j)) (M.gaOne r (f j) j).1).2) = _
    rw [gaAll_eq r f js]
    by_cases z : gIn (M.lens.getD r 0) (f j) = true
    · have e : M.gaOne r (f j) j = (M.touched "read" (M.adr r (f j)), some (M.cells.getD (M.adr r (f j)).toNat 0)) := if_pos (by
        unfold gIn at z
        rw [Bool.and_eq_true] at z
        exact ⟨of_decide_eq_true z.1, of_decide_eq_true z.2⟩)
      rw [e, List.filter_cons_of_pos (p := fun j => gIn (M.lens.getD r 0) (f j)) z, List.filter_cons_of_neg (p := fun j => !gIn (M.lens.getD r 0) (f j)) (by show ¬ (!gIn (M.lens.getD r 0) (f j)) = true; rw [z]; decide), List.map_cons, List.map_cons, if_pos z]
      have a : M.touches ++ (M.pc, ("read" : Str), M.adr r (f j)) :: ((js.filter fun j => gIn (M.lens.getD r 0) (f j)).map fun j => (M.pc, ("read" : Str), M.adr r (f j))) = M.touches ++ [(M.pc, ("read" : Str), M.adr r (f j))] ++ ((js.filter fun j => gIn (M.lens.getD r 0) (f j)).map fun j => (M.pc, ("read" : Str), M.adr r (f j))) := by rw [List.append_assoc]; rfl
      rw [a]; rfl
    · have e : M.gaOne r (f j) j = ({ M with faults := putK M.faults (.inl j) (.str "outside") }, none) := if_neg (fun y => z (by
        unfold gIn
        rw [decide_eq_true y.1, decide_eq_true y.2]; rfl))
      rw [e, List.filter_cons_of_neg (p := fun j => gIn (M.lens.getD r 0) (f j)) z, List.filter_cons_of_pos (p := fun j => !gIn (M.lens.getD r 0) (f j)) (by rw [Bool.not_eq_true] at z; show (!gIn (M.lens.getD r 0) (f j)) = true; rw [z]; rfl), List.map_cons, if_neg z]
      rfl
theorem InS.gather {p q r m : Nat} {F : Int → Int} (h : InS S LN L pl many group b k s M) (hS : Lx.S "gather" xi) (p8 : ((p : Int) + 1) * group ≤ 8) (q8 : ((q : Int) + 1) * group ≤ 8) (m16 : m < 16) (hr : r < S.length) (hr2 : r < LN.length) (ir : 0 ≤ S.getD r 0 ∧ S.getD r 0 + LN.getD r 0 ≤ s.1.length) (ht : s.2.length < 90000) (hf : M.faults.length < 90000) (hq : ∀ j ∈ M.act m, M.numAt q j = F (b + j)) :
    ∃ M', Step Lx [.str "gather", .int p, .int q, .int r, .int m] M M' ∧ InS S LN L pl many group b (k + 1) (s.1, s.2 ++ (((M.act m).map (b + ·)).filter fun e => gIn (LN.getD r 0) (F e)).map fun e => (((pl + k : Nat) : Int), ("read" : Str), S.getD r 0 + F e)) M' ∧ (Kp M M' ∧ M'.faults = outF M.faults ((M.act m).filter fun j => !gIn (LN.getD r 0) (F (b + j)))) ∧ (∀ j ∈ M.act m, gIn (LN.getD r 0) (F (b + j)) = true → M'.numAt p j = s.1.getD (S.getD r 0 + F (b + j)).toNat 0) ∧ (∀ (p' : Nat) (j : Int), p' ≠ p → 0 ≤ j → j < group * L → M'.numAt p' j = M.numAt p' j) := by
  have ef : xi [.str "gather", .int p, .int q, .int r, .int m] M (M.act m) = some ({ M with touches := M.touches ++ (((M.act m).map (b + ·)).filter fun e => gIn (LN.getD r 0) (F e)).map fun e => (((pl + k : Nat) : Int), ("read" : Str), S.getD r 0 + F e), faults := outF M.faults ((M.act m).filter fun j => !gIn (LN.getD r 0) (F (b + j))) }, (M.act m).map fun j => if gIn (LN.getD r 0) (F (b + j)) = true then some (s.1.getD (S.getD r 0 + F (b + j)).toNat 0) else none) := by
    have e1 : xi [.str "gather", .int p, .int q, .int r, .int m] M (M.act m) = some (Mc.gaAll r ((M.act m).map fun j => (M.numAt q j, j)) M) := by
      unfold xi
      refine (if_pos ?_).trans ?_
      · rw [Int.toNat_natCast, h.group, h.touches]
        refine ⟨by omega, q8, by omega, ⟨by rw [h.starts]; exact hr, by rw [h.lens]; exact hr2, ?_, ?_⟩, ht, hf⟩
        · rw [h.starts]; exact ir.1
        · rw [h.starts, h.lens, h.cells]; exact ir.2
      · rw [Int.toNat_natCast, Int.toNat_natCast]
    have e2 : ((M.act m).map fun j => (M.numAt q j, j)) = (M.act m).map fun j => (F (b + j), j) := List.map_congr_left fun j hj => by rw [hq j hj]
    rw [e1, e2, gaAll_eq r (fun j => F (b + j))]
    rw [h.lens, List.filter_map, List.map_map, h.pc]
    unfold Mc.adr
    rw [h.starts, h.cells]
    rfl
  obtain ⟨M', st, i, w, n, o⟩ := h.seatO (tv := [.str "gather", .int p, .int q, .int r, .int m]) hS rfl rfl rfl p8 m16 ef
  exact ⟨M', st, i, w, fun j hj z => n j hj _ (if_pos z), o⟩
end
theorem setAll_off {i : Nat} : ∀ (ps : List (Int × Int)) (ds : List Int), (∀ p ∈ ps, p.1.toNat ≠ i) → (y4 ds ps).getD i 0 = ds.getD i 0
  | [], ds, _ => rfl
  | p :: ps, ds, h => by
    show (y4 (ds.set p.1.toNat p.2) ps).getD i 0 = _
    rw [setAll_off ps _ fun q hq => h q (List.mem_cons_of_mem _ hq), List.getD_eq_getElem?_getD, List.getElem?_set_ne (h p List.mem_cons_self), ← List.getD_eq_getElem?_getD]
def elems (many side b : Int) : List Int := (upto (wid many side b)).map (b + ·)
theorem elems_len (many side b : Int) : (elems many side b).length = wid many side b := by unfold elems upto; rw [List.length_map, List.length_map, List.length_range]
theorem mem_keysI (f : List (Key × V)) (j : Int) : j ∈ keysI f ↔ (yl f (.inl j)).isSome = true := by
  induction f with
  | nil => exact ⟨(fun h => by cases h), (fun h => by cases h)⟩
  | cons p f ih =>
    obtain ⟨k, v⟩ := p
    by_cases e : k = .inl j
    · rw [yv (p := (k, v)) e]
      subst e
      exact ⟨fun _ => rfl, fun _ => List.mem_cons_self⟩
    · rw [yw (p := (k, v)) e, ← ih]
      cases k with
      | inl i =>
        show j ∈ i :: keysI f ↔ _
        refine ⟨fun h => ?_, fun h => List.mem_cons_of_mem _ h⟩
        rcases List.mem_cons.mp h with h | h
        · exact absurd (by rw [h]) e
        · exact h
      | inr _ => exact Iff.rfl
theorem intKeys_put {f : List (Key × V)} (h : intKeys f) (j : Int) (v : V) : intKeys (putK f (.inl j) v) := by
  unfold putK
  split
  · intro p hp
    obtain ⟨q, hq, rfl⟩ := List.mem_map.mp hp
    obtain ⟨i, hi⟩ := h q hq
    refine ⟨i, ?_⟩
    split
    · exact hi
    · exact hi
  · intro p hp
    rcases List.mem_append.mp hp with hp | hp
    · exact h p hp
    · cases List.mem_singleton.mp hp; exact ⟨j, rfl⟩
theorem intKeys_out (js : List Int) : ∀ {f : List (Key × V)}, intKeys f → intKeys (outF f js) := by
  induction js with
  | nil => exact fun h => h
  | cons j js ih => exact fun h => ih (intKeys_put h j _)
theorem outF_val (js : List Int) (j : Int) : ∀ (f : List (Key × V)), (j ∈ js ∨ yl f (.inl j) = some (.str "outside")) → yl (outF f js) (.inl j) = some (.str "outside") := by
  induction js with
  | nil => exact fun f h => h.elim (fun z => by cases z) id
  | cons i js ih =>
    intro f h
    refine ih _ ?_
    rw [valV_put]
    by_cases e : j = i
    · right; rw [if_pos (by rw [e])]
    · rw [if_neg (fun z => e (Sum.inl.inj z))]
      rcases h with h | h
      · rcases List.mem_cons.mp h with h | h
        · exact absurd h e
        · exact .inl h
      · exact .inr h
theorem round_to {Lx : Lex} (hB : Lx.W "begin" beginW) (hX : Lx.W "next" nextW) {code : List (List V)} {S LN : List Int} {L pl n N : Nat} {many group : Int} {one : Int → DT → DT} {I : Nat → DT → Prop} {s : DT} {M : Mc} (h : RestAt S LN L pl s M) (hg : group = 1 ∨ group = 2 ∨ group = 4) (h1 : 1 ≤ many)
    (c0 : code[pl]? = some [.str "begin", .int many, .int group]) (c3 : code[pl + (n + 1)]? = some [.str "next"]) (hN : ∀ i : Nat, i < N ↔ (i : Int) * (group * L) < many) (i0 : I 0 s) : ∀ i : Nat, i < N →
    (∀ (j : Nat) (s : DT) (M : Mc), j < i → I j s → StripAt S LN L pl many group (j * (group * L)) s M → ∃ k M', Steps Lx code k M M' ∧ InS S LN L pl many group (j * (group * L)) (n + 1) (one (j * (group * L)) s) M' ∧ I (j + 1) (one (j * (group * L)) s)) →
    ∃ k M', Steps Lx code k M M' ∧ StripAt S LN L pl many group (i * (group * L)) (upG one (group * L) s i) M' ∧ I i (upG one (group * L) s i) := by
  have l1 := h.ok.l1
  have hL := h.lanes
  have sd : 1 ≤ group * (L : Int) := by rcases hg with e | e | e <;> rw [e] <;> omega
  have low : ∀ i : Nat, (0 : Int) ≤ i * (group * L) := fun i => Int.mul_nonneg (by omega) (by omega)
  have sc : ∀ i : Nat, ((i + 1 : Nat) : Int) * (group * L) = i * (group * L) + group * L := fun i => by rw [Int.natCast_add, Int.add_mul]; show _ + 1 * (group * (L : Int)) = _; rw [Int.one_mul]
  intro i
  induction i with
  | zero =>
    intro _ _
    have st : Step Lx [.str "begin", .int many, .int group] M { M.round many group with pc := M.pc + 1 } := Step.way (L := Lx) (word := "begin") hB rfl ⟨many, group, rfl, rfl, h.ok, hg, by omega, rfl, rfl⟩
    have sa : StripAt S LN L pl many group 0 s { ({ M with opened := M.pc, many := many, group := group, carried := none } : Mc).strip 0 with pc := pl + 1 } := stripAt_of ⟨h.ok.l1, h.ok.l64, h.ok.nl, h.ok.ml, h.ok.mm⟩ hg rfl rfl h.lanes h.pc (by omega) h.rf h.starts h.lens h.cells h.touches
    rw [h.pc] at st
    refine ⟨1, _, .cons (by rw [h.pc]; omega) h.rf (by rw [h.pc, Int.toNat_natCast]; exact c0) st .refl, ?_, i0⟩
    have e : ((0 : Nat) : Int) * (group * L) = 0 := by omega
    rw [e]
    unfold Mc.round
    rw [h.pc] at sa ⊢
    exact sa
  | succ i ih =>
    intro hi go
    obtain ⟨k, M1, st, sa, ii⟩ := ih (by omega) fun j s M hj => go j s M (by omega)
    have hi1 := (hN (i + 1)).mp hi
    rw [sc] at hi1
    have hl := low i
    have hw : wid many (group * L) (i * (group * L)) = (group * (L : Int)).toNat := by unfold wid; omega
    obtain ⟨k2, M2, st2, e2, i2⟩ := go i _ M1 (by omega) ii sa
    have bb : M2.base + M2.begun = ((i + 1 : Nat) : Int) * (group * L) := by rw [sc, e2.base, e2.begun, hw]; omega
    have st3 : Step Lx [.str "next"] M2 { M2.strip (((i + 1 : Nat) : Int) * (group * L)) with pc := (pl : Int) + 1 } := Step.way (L := Lx) (word := "next") hX rfl (by
      refine ⟨e2.ok.zero, by rw [e2.group]; exact hg, ?_⟩
      rw [bb, if_pos (by rw [e2.many, sc]; exact hi1), e2.opened]
      exact ⟨rfl, rfl⟩)
    refine ⟨k + k2 + 1, _, (st.trans st2).trans (e2.one c3 st3), ?_, by rw [yW]; exact i2⟩
    rw [yW]
    exact stripAt_of e2.ok.zero hg e2.group e2.many e2.lanes e2.opened (by rw [sc]; omega) e2.rf e2.starts e2.lens e2.cells e2.touches
def ends {α : Type} (bad : Nat → Option α) : Nat → Nat × Option α
  | 0 => (0, none)
  | n + 1 => match ends bad n with
    | (i, some r) => (i, some r)
    | (_, none) => (n + 1, bad n)
theorem ends_is {α : Type} (bad : Nat → Option α) : ∀ n : Nat, ((ends bad n = (n, none)) ∧ ∀ i, i < n → bad i = none) ∨ ∃ i r, i < n ∧ bad i = some r ∧ (∀ j, j < i → bad j = none) ∧ ends bad n = (i + 1, some r)
  | 0 => .inl ⟨rfl, fun i hi => by omega⟩
  | n + 1 => by
    rcases ends_is bad n with ⟨e, h⟩ | ⟨i, r, hi, hb, hj, e⟩
    · have e2 : ends bad (n + 1) = (n + 1, bad n) := by unfold ends; rw [e]
      cases q : bad n with
      | none =>
        left
        refine ⟨by rw [e2, q], fun i hi => ?_⟩
        rcases Nat.lt_or_eq_of_le (Nat.le_of_lt_succ hi) with z | z
        · exact h i z
        · rw [z]; exact q
      | some r => exact .inr ⟨n, r, by omega, q, h, by rw [e2, q]⟩
    · right
      refine ⟨i, r, by omega, hb, hj, ?_⟩
      unfold ends
      rw [e]
theorem ends_at {α : Type} {bad : Nat → Option α} {N j : Nat} {r : α} (hj : j < N) (hb : bad j = some r) (h : ∀ i, i < j → bad i = none) : ends bad N = (j + 1, some r) := by
  rcases ends_is bad N with ⟨_, z⟩ | ⟨i, r', hi, hb', hj', e⟩
  · rw [z j hj] at hb; cases hb
  · have : i = j := by
      rcases Nat.lt_trichotomy i j with y | y | y
      · rw [h i y] at hb'; cases hb'
      · exact y
      · rw [hj' j y] at hb; cases hb
    subst this
    rw [hb'] at hb
    cases hb
    exact e
theorem ends_none {α : Type} {bad : Nat → Option α} {N : Nat} (h : ∀ i, i < N → bad i = none) : ends bad N = (N, none) := by
  rcases ends_is bad N with ⟨e, _⟩ | ⟨i, r', hi, hb', _, _⟩
  · exact e
  · rw [h i hi] at hb'; cases hb'
theorem round_stop {Lx : Lex} (hB : Lx.W "begin" beginW) (hX : Lx.W "next" nextW) {code : List (List V)} {S LN : List Int} {L pl n N : Nat} {many group : Int} {one : Int → DT → DT} {I : Nat → DT → Prop} {bad : Nat → Option (Int × Int × Str)} {s : DT} {M : Mc} (h : RestAt S LN L pl s M) (hg : group = 1 ∨ group = 2 ∨ group = 4) (h1 : 1 ≤ many)
    (c0 : code[pl]? = some [.str "begin", .int many, .int group]) (c3 : code[pl + (n + 1)]? = some [.str "next"]) (hN : ∀ i : Nat, i < N ↔ (i : Int) * (group * L) < many) (i0 : I 0 s)
    (go : ∀ (i : Nat) (s : DT) (M : Mc), i < N → bad i = none → I i s → StripAt S LN L pl many group (i * (group * L)) s M → ∃ k M', Steps Lx code k M M' ∧ InS S LN L pl many group (i * (group * L)) (n + 1) (one (i * (group * L)) s) M' ∧ I (i + 1) (one (i * (group * L)) s))
    (gb : ∀ (i : Nat) (r : Int × Int × Str) (s : DT) (M : Mc), i < N → bad i = some r → I i s → StripAt S LN L pl many group (i * (group * L)) s M → ∃ k M', Steps Lx code k M M' ∧ M'.refusal = some r ∧ M'.cells = (one (i * (group * L)) s).1 ∧ M'.touches = (one (i * (group * L)) s).2) :
    ∃ k M', Steps Lx code k M M' ∧ M'.refusal = (ends bad N).2 ∧ M'.cells = (upG one (group * L) s (ends bad N).1).1 ∧ M'.touches = (upG one (group * L) s (ends bad N).1).2 ∧ ((ends bad N).2 = none → M'.pc = ((pl + (n + 2) : Nat) : Int)) := by
  rcases ends_is bad N with ⟨e, hb⟩ | ⟨i, r, hi, hb, hj, e⟩
  · obtain ⟨k, M', st, ra, _⟩ := round_gen hB hX h hg h1 c0 c3 hN i0 fun i s M hi => go i s M hi (hb i hi)
    rw [e]
    exact ⟨k, M', st, ra.rf, ra.cells, ra.touches, fun _ => ra.pc⟩
  · obtain ⟨k, M1, st, sa, ii⟩ := round_to hB hX h hg h1 c0 c3 hN i0 i hi fun j s M hji => go j s M (by omega) (hj j hji)
    obtain ⟨k2, M2, st2, r2, ce2, to2⟩ := gb i r _ M1 hi hb ii sa
    rw [e]
    exact ⟨k + k2, M2, st.trans st2, r2, by rw [ce2, yW], by rw [to2, yW], fun z => by cases z⟩
def RfAt (H : Hp) (v : V) : Option (Int × Int × Str) → Prop
  | none => v = .non
  | some r => ∃ t, v = .ref t ∧ H t = some (.tup [.int r.1, .int r.2.1, .str r.2.2])
theorem RfAt.same {H H' : Hp} {v : V} {r : Option (Int × Int × Str)} (h : RfAt H v r) (s : Same H H') : RfAt H' v r := by
  cases r with
  | none => exact h
  | some r => obtain ⟨t, e, q⟩ := h; exact ⟨t, e, s _ _ q⟩
theorem lk_told2 {c : MCs} {B H : Hp} {A : Ma} {M : Mc} (m : MAt c B A M [] H) {t t2 dd tt : Addr} {rv : V} {ro : Option (Int × Int × Str)} {ds : List Int} {ts : List Addr} {T : List Tch} (et : H t = some (.tup [.ref A.aC, A.rf, .ref A.aT])) (et2 : H t2 = some (.tup [.ref dd, rv, .ref tt])) (rf : M.refusal = ro) (er : RfAt H rv ro) (hc : M.cells = ds) (hT : M.touches = T) (edd : H dd = some (.lst (ds.map V.int))) (ett : H tt = some (.lst (ts.map V.ref))) (ta : TAt H ts T) : Lk H 3 (.ref t) (.ref t2) := by
  have rfz : Lk H 2 A.rf rv := by
    have := m.bb.rf
    rw [rf] at this
    cases ro with
    | none => rw [show A.rf = .non from this, show rv = .non from er]; exact .non
    | some r =>
      obtain ⟨t3, e3, q3⟩ := this
      obtain ⟨t4, e4, q4⟩ := er
      rw [e3, e4]
      refine .tup (m.h.sm _ _ q3) q4 rfl fun i x y hx hy => ?_
      rw [hx] at hy; cases hy
      match i, hx with
      | 0, hx => cases hx; exact .int _
      | 1, hx => cases hx; exact .int _
      | 2, hx => cases hx; exact .str _
      | i + 3, hx => cases hx
  have eAC : H A.aC = some (.lst (ds.map V.int)) := by have := m.h.get (i := 1) (a := A.aC) rfl; rw [this, hc]
  have eAT : H A.aT = some (.lst (A.ts.map V.ref)) := m.h.get 6 rfl
  have tl := m.bb.tl
  rw [hT] at tl
  refine .tup et et2 rfl fun i x y hx hy => ?_
  match i, hx, hy with
  | 0, hx, hy =>
    cases hx; cases hy
    refine .lst eAC edd rfl fun i x y hx hy => ?_
    obtain ⟨n, _, rfl⟩ := map_at hx
    rw [hx] at hy; cases hy; exact .int _
  | 1, hx, hy => cases hx; cases hy; exact rfz
  | 2, hx, hy =>
    cases hx; cases hy
    refine .lst eAT ett (by rw [List.length_map, List.length_map, ta.n, tl]) fun i x y hx hy => ?_
    obtain ⟨b1', hb1, rfl⟩ := map_at hx
    obtain ⟨b2', hb2, rfl⟩ := map_at hy
    have il : i < T.length := by rw [← tl]; exact (List.getElem?_eq_some_iff.mp hb1).1
    have eT : T[i]? = some T[i] := List.getElem?_eq_getElem il
    have w1' := m.bb.tt i b1' T[i] hb1 (by rw [hT]; exact eT)
    have w2' := ta.t i b2' T[i] hb2 eT
    refine .tup (m.h.sm _ _ w1') w2' rfl fun i x y hx hy => ?_
    rw [hx] at hy; cases hy
    match i, hx with
    | 0, hx => cases hx; exact .int _
    | 1, hx => cases hx; exact .str _
    | 2, hx => cases hx; exact .int _
    | i + 3, hx => cases hx
  | i + 3, hx, hy => cases hx
end K35
namespace K35
open PySem L2
def Lx : Lex := ⟨fun w f => (w = "load" ∧ f = loadM) ∨ (w = "gather" ∧ f = xi), fun w f => (w = "store" ∧ f = storeM) ∨ (w = "trim" ∧ f = trimM) ∨ (w = "stop" ∧ f = stopM), fun w f => (w = "begin" ∧ f = beginW) ∨ (w = "next" ∧ f = nextW)⟩
structure Gw where
  s0 : Int
  s1 : Int
  s2 : Int
  n : Int
  pl : Int → Int
  sv : Int → Int
def Gw.good (R : Gw) (e : Int) : Bool := gIn R.n (R.pl e)
def Gw.cut (R : Gw) (many side : Int) (tr : Bool) (b : Int) : Nat := if tr = true then (List.range (wid many side b)).findIdx (fun j : Nat => !R.good (b + j)) else wid many side b
def Gw.st (R : Gw) (many side : Int) (tr : Bool) (b : Int) : List Int := ((upto (R.cut many side tr b)).map (b + ·)).filter R.good
def plc (tr : Bool) : Int := if tr = true then 4 else 3
def Gw.one (R : Gw) (many side : Int) (tr : Bool) (b : Int) (s : DT) : DT :=
  (y4 s.1 ((R.st many side tr b).map fun e => (R.s2 + e, R.sv (R.pl e))),
   s.2 ++ ((elems many side b).map fun e => (1, ("read" : Str), R.s0 + e)) ++ (((elems many side b).filter R.good).map fun e => (2, ("read" : Str), R.s1 + R.pl e)) ++ (R.st many side tr b).map fun e => (plc tr, ("write" : Str), R.s2 + e))
def Gw.bad (R : Gw) (many side : Int) (tr sp : Bool) (n b : Int) : Option (Int × Int × Str) := if sp = true ∧ R.cut many side tr b < wid many side b then some (n, b + (R.cut many side tr b : Nat), "outside") else none
structure Gw.Src (R : Gw) (many : Int) (ds : List Int) : Prop where
  p : ∀ e, 0 ≤ e → e < many → ds.getD (R.s0 + e).toNat 0 = R.pl e
  g : ∀ x, 0 ≤ x → x < R.n → ds.getD (R.s1 + x).toNat 0 = R.sv x
structure Gw.Fit (R : Gw) (many : Int) (nc : Nat) : Prop where
  f0 : 0 ≤ R.s0 ∧ R.s0 + many ≤ nc
  f1 : 0 ≤ R.s1 ∧ R.s1 + R.n ≤ nc
  f2 : 0 ≤ R.s2 ∧ R.s2 + many ≤ nc
  ap : (R.s0 + many ≤ R.s2 ∨ R.s2 + many ≤ R.s0) ∧ (R.s1 + R.n ≤ R.s2 ∨ R.s2 + many ≤ R.s1)
theorem Gw.cut_le (R : Gw) (many side : Int) (tr : Bool) (b : Int) : R.cut many side tr b ≤ wid many side b := by
  unfold Gw.cut
  split
  · have := List.findIdx_le_length (xs := List.range (wid many side b)) (p := fun j : Nat => !R.good (b + j))
    rwa [List.length_range] at this
  · exact Nat.le_refl _
theorem Gw.cut_lt {R : Gw} {many side : Int} {tr : Bool} {b : Int} (h : R.cut many side tr b < wid many side b) : tr = true ∧ R.good (b + (R.cut many side tr b : Nat)) = false := by
  unfold Gw.cut at h ⊢
  cases tr with
  | false => rw [if_neg (by decide)] at h; omega
  | true =>
    rw [if_pos rfl] at h ⊢
    refine ⟨rfl, ?_⟩
    have := List.findIdx_getElem (xs := List.range (wid many side b)) (p := fun j : Nat => !R.good (b + j)) (w := by rw [List.length_range]; exact h)
    rw [List.getElem_range] at this
    simpa using this
theorem Gw.st_in {R : Gw} {many side b e : Int} {tr : Bool} (b0 : 0 ≤ b) (h : e ∈ R.st many side tr b) : (0 ≤ e ∧ e < many) ∧ R.good e = true := by
  obtain ⟨h1, h2⟩ := List.mem_filter.mp h
  obtain ⟨x, hx, rfl⟩ := List.mem_map.mp h1
  obtain ⟨y, hy, rfl⟩ := List.mem_map.mp hx
  have hy := List.mem_range.mp hy
  have c := R.cut_le many side tr b
  refine ⟨?_, h2⟩
  have wl : (wid many side b : Int) ≤ many - b ∨ wid many side b = 0 := by unfold wid; omega
  show 0 ≤ b + (y : Int) ∧ b + (y : Int) < many
  omega
theorem Gw.st_len (R : Gw) (many side b : Int) (tr : Bool) : (R.st many side tr b).length ≤ wid many side b := by
  have c := R.cut_le many side tr b
  refine Nat.le_trans (List.length_filter_le _ _) ?_
  unfold upto
  rw [List.length_map, List.length_map, List.length_range]; exact c
theorem Gw.good_in {R : Gw} {e : Int} (h : R.good e = true) : 0 ≤ R.pl e ∧ R.pl e < R.n := by
  unfold Gw.good gIn at h
  rw [Bool.and_eq_true] at h
  exact ⟨of_decide_eq_true h.1, of_decide_eq_true h.2⟩
theorem Gw.one_src {R : Gw} {many side b : Int} {tr : Bool} {s : DT} {nc : Nat} (b0 : 0 ≤ b) (f : R.Fit many nc) (h : R.Src many s.1) : R.Src many (R.one many side tr b s).1 := by
  have f2 := f.f2
  have key : ∀ i : Int, 0 ≤ i → (i < R.s2 ∨ R.s2 + many ≤ i) → (R.one many side tr b s).1.getD i.toNat 0 = s.1.getD i.toNat 0 := fun i i0 ia => by
    refine setAll_off _ _ fun p hp => ?_
    obtain ⟨e, he, rfl⟩ := List.mem_map.mp hp
    have ein := (Gw.st_in b0 he).1
    show (R.s2 + e).toNat ≠ i.toNat
    omega
  obtain ⟨a0, a1⟩ := f.ap
  have g0 := f.f0
  have g1 := f.f1
  exact ⟨fun e e0 e1 => by rw [key _ (by omega) (by omega)]; exact h.p e e0 e1, fun e e0 e1 => by rw [key _ (by omega) (by omega)]; exact h.g e e0 e1⟩
def yu (tr sp : Bool) (p q r0 r1 r2 : Nat) (n : Int) : List (List V) :=
  [[.str "load", .int q, .int r0, .int 0], [.str "gather", .int p, .int q, .int r1, .int 0]] ++ (if tr = true then [[.str "trim"]] else []) ++ [[.str "store", .int r2, .int p, .int 0]] ++ (if sp = true then [[.str "stop", .int n]] else [])
section
variable {S LN : List Int} {L : Nat} {many group b : Int} {s : DT} {M : Mc}
theorem strip_ga {code : List (List V)} {R : Gw} {tr sp : Bool} {p q r0 r1 r2 : Nat} {n : Int} (h : StripAt S LN L 0 many group b s M) (p8 : ((p : Int) + 1) * group ≤ 8) (q8 : ((q : Int) + 1) * group ≤ 8) (b0 : 0 ≤ b)
    (hr : r0 < S.length ∧ r1 < S.length ∧ r2 < S.length) (hl : LN.length = S.length) (e0 : S.getD r0 0 = R.s0) (e1 : S.getD r1 0 = R.s1) (e2 : S.getD r2 0 = R.s2) (en : LN.getD r1 0 = R.n) (f : R.Fit many s.1.length) (src : R.Src many s.1) (ht : s.2.length + 3 * wid many (group * L) b < 90000)
    (cd : ∀ i tv, (yu tr sp p q r0 r1 r2 n)[i]? = some tv → code[1 + i]? = some tv) :
    ∃ k M', Steps Lx code k M M' ∧ (R.bad many (group * L) tr sp n b = none → InS S LN L 0 many group b ((yu tr sp p q r0 r1 r2 n).length + 1) (R.one many (group * L) tr b s) M') ∧ (∀ r, R.bad many (group * L) tr sp n b = some r → M'.refusal = some r ∧ M'.cells = (R.one many (group * L) tr b s).1 ∧ M'.touches = (R.one many (group * L) tr b s).2) := by
  have es0 : (M.act 0).map (b + ·) = elems many (group * L) b := by rw [h.act]; rfl
  have w0 := h.i.len 0
  have wd : M.width = (wid many (group * L) b : Nat) := by
    have a := h.i.wle
    have a0 := h.i.ok.w0
    by_cases z : wid many (group * L) b = 0
    · omega
    · have m1 : ((wid many (group * L) b - 1 : Nat) : Int) ∈ M.act 0 := by
        rw [h.act]
        exact List.mem_map.mpr ⟨_, List.mem_range.mpr (by omega), rfl⟩
      have := Mc.act_mem m1
      omega
  obtain ⟨M1, st1, i1, ⟨k1, ft1⟩, n1, _⟩ := h.i.loadO (Lx := Lx) (p := q) (m := 0) (r := r0) (.inl ⟨rfl, rfl⟩) q8 (by decide) hr.1 b0 (by rw [e0]; exact f.f0) (by omega)
  rw [es0, e0] at i1
  have a1 : M1.act 0 = M.act 0 := act_same k1 ft1 0
  have fz : M1.faults = [] := by rw [ft1]; exact h.flt
  have el := elems_len many (group * L) b
  obtain ⟨M2, st2, i2, ⟨k2, ft2⟩, n2, _⟩ := i1.gather (Lx := Lx) (p := p) (q := q) (r := r1) (m := 0) (F := R.pl) (.inr ⟨rfl, rfl⟩) p8 q8 (by decide) hr.2.1 (by rw [hl]; exact hr.2.1) (by rw [e1, en]; exact f.f1) (by show (s.2 ++ _).length < _; rw [List.length_append, List.length_map, el]; omega) (by rw [fz]; decide) (fun j hj => by
    rw [a1] at hj
    have hm := h.i.mem hj
    rw [n1 j hj, e0]
    exact src.p _ (by omega) hm.2.2)
  rw [a1, es0, en, e1] at i2
  rw [a1, en, fz] at ft2
  rw [a1, en, e1] at n2
  generalize hBL : ((M.act 0).filter fun j => !gIn R.n (R.pl (b + j))) = BL at ft2
  have mBL : ∀ j, j ∈ BL ↔ (∃ i : Nat, i < wid many (group * L) b ∧ j = (i : Int)) ∧ R.good (b + j) = false := fun j => by
    rw [← hBL, List.mem_filter, h.act]
    refine ⟨fun ⟨x, y⟩ => ⟨?_, by simpa [Gw.good] using y⟩, fun ⟨x, y⟩ => ⟨?_, ?_⟩⟩
    · obtain ⟨i, hi, e⟩ := List.mem_map.mp x
      exact ⟨i, List.mem_range.mp hi, e.symm⟩
    · obtain ⟨i, hi, e⟩ := x
      exact List.mem_map.mpr ⟨i, List.mem_range.mpr hi, e.symm⟩
    · show (!gIn R.n (R.pl (b + j))) = true
      have y : gIn R.n (R.pl (b + j)) = false := y
      rw [y]; rfl
  have fsome : ∀ j : Int, (yl M2.faults (.inl j)).isSome = decide (j ∈ BL) := fun j => by
    rw [ft2, outF_some]; rfl
  have a2 : M2.act 0 = (upto (wid many (group * L) b)).filter fun j => R.good (b + j) := by
    rw [act_less (M := M1) (bad := fun j => decide (j ∈ BL)) k2.masks k2.w (fun j => by rw [fsome, fz]; rfl) 0, a1, h.act]
    refine List.filter_congr fun j hj => ?_
    cases g : R.good (b + j) with
    | true => rw [decide_eq_false (fun z => by have := ((mBL j).mp z).2; rw [g] at this; cases this)]; rfl
    | false =>
      obtain ⟨i, hi, e⟩ := List.mem_map.mp hj
      rw [decide_eq_true ((mBL j).mpr ⟨⟨i, List.mem_range.mp hi, e.symm⟩, g⟩)]; rfl
  have np : ∀ j ∈ M2.act 0, M2.numAt p j = R.sv (R.pl (b + j)) := fun j hj => by
    rw [a2] at hj
    obtain ⟨x, y⟩ := List.mem_filter.mp hj
    rw [n2 j (by rw [h.act]; exact x) y]
    have := Gw.good_in y
    exact src.g _ this.1 this.2
  have wd2 : M2.width = (wid many (group * L) b : Nat) := by rw [k2.w, k1.w]; exact wd
  have ct2 : M2.cut = none := by rw [k2.cut, k1.cut]; exact h.cut
  have S2 : Steps Lx code 2 M M2 := (h.i.one (code := code) (cd 0 _ rfl) st1).trans (i1.one (cd 1 _ rfl) st2)
  have mF : ∀ j, j ∈ M2.faulted ↔ j ∈ BL := fun j => by
    unfold Mc.faulted
    rw [List.mem_filter, mem_keysI, fsome]
    refine ⟨fun x => of_decide_eq_true x.1, fun x => ⟨decide_eq_true x, ?_⟩⟩
    obtain ⟨⟨i, hi, e⟩, _⟩ := (mBL j).mp x
    rw [wd2, e]
    exact decide_eq_true (by omega)
  have key : ∃ k3 M3, Steps Lx code k3 M M3 ∧ InS S LN L 0 many group b (if tr = true then 4 else 3) (s.1, s.2 ++ ((elems many (group * L) b).map fun e => (((0 + 1 : Nat) : Int), ("read" : Str), R.s0 + e)) ++ (((elems many (group * L) b).filter fun e => gIn R.n (R.pl e)).map fun e => (((0 + (1 + 1) : Nat) : Int), ("read" : Str), R.s1 + R.pl e))) M3 ∧ M3.act 0 = (upto (R.cut many (group * L) tr b)).filter (fun j => R.good (b + j)) ∧ (∀ (p' : Nat) (j : Int), M3.numAt p' j = M2.numAt p' j) ∧ M3.faults = M2.faults ∧ (M3.cut = if R.cut many (group * L) tr b < wid many (group * L) b then some ((R.cut many (group * L) tr b : Nat) : Int) else none) ∧ ∀ j ∈ M3.act 0, j ∈ M2.act 0 := by
    cases tr with
    | false => exact ⟨2, M2, S2, i2, a2, fun _ _ => rfl, rfl, by rw [ct2, if_neg (by unfold Gw.cut; rw [if_neg (by decide)]; omega)], fun j hj => hj⟩
    | true =>
      obtain ⟨M3, st3, i3, f3, n3, hc⟩ := i2.trim (Lx := Lx) (.inr (.inl ⟨rfl, rfl⟩)) (by rw [ft2]; exact intKeys_out _ (fun p hp => by cases hp)) (by
        rw [ft2]
        have a := outF_len BL []
        have c : BL.length ≤ (M.act 0).length := by rw [← hBL]; exact List.length_filter_le _ _
        have z : ([] : List (Key × V)).length = 0 := rfl
        omega) (fun j hj => by
        rw [mem_keysI, fsome] at hj
        obtain ⟨⟨i, hi, e⟩, _⟩ := (mBL j).mp (of_decide_eq_true hj)
        omega)
      refine ⟨3, M3, S2.trans (i2.one (cd 2 _ rfl) st3), i3, ?_⟩
      rcases hc with ⟨z, w3, c3, a3⟩ | ⟨z, w3, c3, a3⟩
      · have all : ∀ j ∈ List.range (wid many (group * L) b), (!R.good (b + (j : Int))) = false := fun j hj => by
          cases g : R.good (b + (j : Int)) with
          | true => rfl
          | false =>
            have := (mF j).mpr ((mBL j).mpr ⟨⟨j, List.mem_range.mp hj, rfl⟩, g⟩)
            rw [z] at this; cases this
        have ec : R.cut many (group * L) true b = wid many (group * L) b := by
          unfold Gw.cut
          rw [if_pos rfl, List.findIdx_eq_length.mpr all, List.length_range]
        rw [ec, if_neg (Nat.lt_irrefl _), a3 0]
        exact ⟨a2, n3, f3, by rw [c3]; exact ct2, fun j hj => hj⟩
      · have mem := minI_mem _ z
        have le := minI_le M2.faulted
        generalize minI M2.faulted = c at *
        obtain ⟨⟨cn, hcn, rfl⟩, hbad⟩ := (mBL c).mp ((mF c).mp mem)
        have ec : R.cut many (group * L) true b = cn := by
          unfold Gw.cut
          rw [if_pos rfl, List.findIdx_eq (by rw [List.length_range]; exact hcn)]
          refine ⟨by rw [List.getElem_range, hbad]; rfl, fun j hj => ?_⟩
          rw [List.getElem_range]
          cases g : R.good (b + (j : Int)) with
          | true => rfl
          | false =>
            have := le _ ((mF j).mpr ((mBL j).mpr ⟨⟨j, by omega, rfl⟩, g⟩))
            omega
        rw [ec, if_pos hcn]
        refine ⟨?_, n3, f3, c3, fun j hj => by rw [a3 0] at hj; exact (List.mem_filter.mp hj).1⟩
        rw [a3 0, a2, List.filter_filter]
        unfold upto
        rw [List.filter_map, List.filter_map]
        congr 1
        have er : List.range cn = (List.range (wid many (group * L) b)).filter fun j => decide (j < cn) := by
          have : ∀ w : Nat, cn ≤ w → List.range cn = (List.range w).filter fun j => decide (j < cn) := fun w => by
            induction w with
            | zero => intro z; have : cn = 0 := by omega
                      subst this; rfl
            | succ w ih =>
              intro z
              rw [List.range_succ, List.filter_append]
              by_cases y : cn ≤ w
              · rw [← ih y, List.filter_cons_of_neg (by simpa using y)]; simp
              · have e : cn = w + 1 := by omega
                subst e
                rw [List.filter_cons_of_pos (by simp), List.filter_eq_self.mpr (fun j hj => by have := List.mem_range.mp hj; simp; omega), List.range_succ]; rfl
          exact this _ (by omega)
        rw [er, List.filter_filter]
        refine List.filter_congr fun j _ => ?_
        show (decide ((j : Int) < (cn : Int)) && R.good (b + (j : Int))) = (R.good (b + (j : Int)) && decide (j < cn))
        rw [Bool.and_comm]
        congr 1
        by_cases y : j < cn
        · rw [decide_eq_true y, decide_eq_true (by omega)]
        · rw [decide_eq_false y, decide_eq_false (by omega)]
  obtain ⟨k3, M3, S3, i3, a3, n3, f3, c3, sub⟩ := key
  have sl := R.st_len many (group * L) b tr
  have es3 : (M3.act 0).map (b + ·) = R.st many (group * L) tr b := by
    rw [a3]
    unfold Gw.st
    rw [List.filter_map]; rfl
  have l3 : (M3.act 0).length ≤ wid many (group * L) b := by
    have : ((M3.act 0).map (b + ·)).length ≤ wid many (group * L) b := by rw [es3]; exact sl
    rwa [List.length_map] at this
  have gl : ((elems many (group * L) b).filter fun e => gIn R.n (R.pl e)).length ≤ wid many (group * L) b := by rw [← el]; exact List.length_filter_le _ _
  obtain ⟨M4, st4, i4, ⟨k4, f4⟩, n4⟩ := i3.storeO (Lx := Lx) (q := r2) (p := p) (m := 0) (F := fun e => R.sv (R.pl e)) (.inl ⟨rfl, rfl⟩) p8 (by decide) hr.2.2 b0 (by rw [e2]; exact f.f2) (by
    show (s.2 ++ _ ++ _).length + _ < _
    rw [List.length_append, List.length_append, List.length_map, List.length_map, el]; omega) (fun j hj => by rw [n3]; exact np j (sub j hj))
  rw [es3, e2] at i4
  have S4 : Steps Lx code (k3 + 1) M M4 := S3.trans (i3.one (by
    cases tr with
    | false => exact cd 2 _ rfl
    | true => exact cd 3 _ rfl) st4)
  have c4 : M4.cut = if R.cut many (group * L) tr b < wid many (group * L) b then some ((R.cut many (group * L) tr b : Nat) : Int) else none := by rw [k4.cut]; exact c3
  have i5 : InS S LN L 0 many group b ((if tr = true then 4 else 3) + 1) (R.one many (group * L) tr b s) M4 := by
    have ep : ((0 + (if tr = true then 4 else 3) : Nat) : Int) = plc tr := by cases tr <;> rfl
    rw [ep] at i4
    exact i4
  cases sp with
  | false => exact ⟨_, M4, S4, fun _ => by cases tr <;> exact i5, fun r hr => by unfold Gw.bad at hr; rw [if_neg (fun z => by cases z.1)] at hr; cases hr⟩
  | true =>
    by_cases cl : R.cut many (group * L) tr b < wid many (group * L) b
    · rw [if_pos cl] at c4
      have gb := Gw.cut_lt cl
      obtain ⟨M5, st5, r5, ce5, to5⟩ := i5.stopAt (Lx := Lx) (n := n) (.inr (.inr ⟨rfl, rfl⟩)) c4 (by
        rw [f4, f3, ft2]
        exact outF_val _ _ _ (.inl ((mBL _).mpr ⟨⟨_, cl, rfl⟩, gb.2⟩)))
      refine ⟨_, M5, S4.trans (i5.one (by
        cases tr with
        | false => exact cd 3 _ rfl
        | true => exact cd 4 _ rfl) st5), fun z => ?_, fun r hr => ?_⟩
      · unfold Gw.bad at z
        rw [if_pos ⟨rfl, cl⟩] at z; cases z
      · unfold Gw.bad at hr
        rw [if_pos ⟨rfl, cl⟩] at hr
        cases hr
        exact ⟨r5, ce5, to5⟩
    · rw [if_neg cl] at c4
      obtain ⟨M5, st5, i6, _⟩ := i5.stopNo (Lx := Lx) (n := n) (.inr (.inr ⟨rfl, rfl⟩)) c4
      refine ⟨_, M5, S4.trans (i5.one (by
        cases tr with
        | false => exact cd 3 _ rfl
        | true => exact cd 4 _ rfl) st5), fun z => by cases tr <;> exact i6, fun r hr => ?_⟩
      unfold Gw.bad at hr
      rw [if_neg (fun z => cl z.2)] at hr; cases hr
end
theorem round_ga {code : List (List V)} {S LN : List Int} {L N p q r0 r1 r2 : Nat} {many group n : Int} {R : Gw} {tr sp : Bool} {s : DT} {M : Mc} (h : RestAt S LN L 0 s M) (hg : group = 1 ∨ group = 2 ∨ group = 4) (h1 : 1 ≤ many) (p8 : ((p : Int) + 1) * group ≤ 8) (q8 : ((q : Int) + 1) * group ≤ 8)
    (hr : r0 < S.length ∧ r1 < S.length ∧ r2 < S.length) (hl : LN.length = S.length) (e0 : S.getD r0 0 = R.s0) (e1 : S.getD r1 0 = R.s1) (e2 : S.getD r2 0 = R.s2) (en : LN.getD r1 0 = R.n) (f : R.Fit many s.1.length) (src : R.Src many s.1) (ht : s.2.length + 3 * many < 90000) (hN : ∀ i : Nat, i < N ↔ (i : Int) * (group * L) < many)
    (c0 : code[0]? = some [.str "begin", .int many, .int group]) (cs : ∀ i tv, (yu tr sp p q r0 r1 r2 n)[i]? = some tv → code[1 + i]? = some tv) (c3 : code[(yu tr sp p q r0 r1 r2 n).length + 1]? = some [.str "next"]) :
    ∃ k M', Steps Lx code k M M' ∧ M'.refusal = (ends (fun i : Nat => R.bad many (group * L) tr sp n (i * (group * L))) N).2 ∧ M'.cells = (upG (R.one many (group * L) tr) (group * L) s (ends (fun i : Nat => R.bad many (group * L) tr sp n (i * (group * L))) N).1).1 ∧ M'.touches = (upG (R.one many (group * L) tr) (group * L) s (ends (fun i : Nat => R.bad many (group * L) tr sp n (i * (group * L))) N).1).2 ∧ ((ends (fun i : Nat => R.bad many (group * L) tr sp n (i * (group * L))) N).2 = none → M'.pc = (((yu tr sp p q r0 r1 r2 n).length + 2 : Nat) : Int)) := by
  have l1 := h.ok.l1
  have hL := h.lanes
  have sd : 1 ≤ group * (L : Int) := by rcases hg with e | e | e <;> rw [e] <;> omega
  have step : ∀ (i : Nat) (t : DT) (M2 : Mc), i < N → (R.Src many t.1 ∧ t.1.length = s.1.length ∧ (t.2.length : Int) ≤ s.2.length + 3 * min many (i * (group * L))) → StripAt S LN L 0 many group (i * (group * L)) t M2 → (∃ k M', Steps Lx code k M2 M' ∧ (R.bad many (group * L) tr sp n (i * (group * L)) = none → InS S LN L 0 many group (i * (group * L)) ((yu tr sp p q r0 r1 r2 n).length + 1) (R.one many (group * L) tr (i * (group * L)) t) M') ∧ (∀ r, R.bad many (group * L) tr sp n (i * (group * L)) = some r → M'.refusal = some r ∧ M'.cells = (R.one many (group * L) tr (i * (group * L)) t).1 ∧ M'.touches = (R.one many (group * L) tr (i * (group * L)) t).2)) ∧ (R.Src many (R.one many (group * L) tr (i * (group * L)) t).1 ∧ (R.one many (group * L) tr (i * (group * L)) t).1.length = s.1.length ∧ ((R.one many (group * L) tr (i * (group * L)) t).2.length : Int) ≤ s.2.length + 3 * min many ((i + 1 : Nat) * (group * L))) := fun i t M2 hi ⟨I0, I1, I2⟩ sa => by
    have hib := (hN i).mp hi
    have ib0 : (0 : Int) ≤ i * (group * L) := Int.mul_nonneg (by omega) (by omega)
    have sc : ((i + 1 : Nat) : Int) * (group * L) = i * (group * L) + group * L := by rw [Int.natCast_add, Int.add_mul]; show _ + 1 * (group * (L : Int)) = _; rw [Int.one_mul]
    rw [sc]
    generalize (i : Int) * (group * L) = bb at *
    have wb : (wid many (group * L) bb : Int) = min many (bb + group * L) - bb := by unfold wid; omega
    refine ⟨strip_ga (code := code) (R := R) sa p8 q8 ib0 hr hl e0 e1 e2 en (by rw [I1]; exact f) I0 (by omega) cs, Gw.one_src ib0 f I0, (setAll_len _ _).trans I1, ?_⟩
    have l2 := R.st_len many (group * L) bb tr
    have el := elems_len many (group * L) bb
    have gl : ((elems many (group * L) bb).filter R.good).length ≤ wid many (group * L) bb := by rw [← el]; exact List.length_filter_le _ _
    show ((t.2 ++ _ ++ _ ++ _).length : Int) ≤ _
    rw [List.length_append, List.length_append, List.length_append, List.length_map, List.length_map, List.length_map]
    omega
  obtain ⟨k, M', a, b, c, d, e⟩ := round_stop (Lx := Lx) (.inl ⟨rfl, rfl⟩) (.inr ⟨rfl, rfl⟩) (pl := 0) (n := (yu tr sp p q r0 r1 r2 n).length) (one := R.one many (group * L) tr) (bad := fun i : Nat => R.bad many (group * L) tr sp n (i * (group * L))) (I := fun i t => R.Src many t.1 ∧ t.1.length = s.1.length ∧ (t.2.length : Int) ≤ s.2.length + 3 * min many (i * (group * L))) h hg h1 c0 (by rw [Nat.zero_add]; exact c3) hN ⟨src, rfl, by rw [show ((0 : Nat) : Int) * (group * L) = 0 by omega]; omega⟩ (fun i t M2 hi hb ii sa => by
    obtain ⟨⟨k, M', x, y, _⟩, z⟩ := step i t M2 hi ii sa
    exact ⟨k, M', x, y hb, z⟩) (fun i r t M2 hi hb ii sa => by
    obtain ⟨⟨k, M', x, _, y⟩, z⟩ := step i t M2 hi ii sa
    exact ⟨k, M', x, y r hb⟩)
  exact ⟨k, M', a, b, c, d, fun z => by rw [e z, Nat.zero_add]⟩
end K35
namespace K35
open PySem L2
def someV (ns : List Int) (k sa m : Int) : Int :=
  let x := (ns.getD k.toNat 0 % 1000003 + 1) * (48271 + 1000 * k * k + 69621 * sa * sa) % 2147483647
  x * x % 2147483629 / 3 % m
section
variable {P : Program} {w : World} {K : PySem.W.Frag} {mg : Str → Option Value} {base : Heap}
def spSome2 (K : PySem.W.Frag) : Sp := fun vs H Q _ => ∃ (a : Addr) (ns : List Int) (k sa m : Int), vs = [.ref a, .int k, .int sa, .int m] ∧ SqL K H a (ns.map V.int) ∧ 0 ≤ k ∧ k ≤ 100000 ∧ 0 ≤ sa ∧ sa ≤ 100000 ∧ 0 < m ∧ ∀ r, r = someV ns k sa m → 0 ≤ r → r < m → Q (.int r) H
theorem ok_some2 (d : zC K mg "_law_some" xp ["_law_script", "_law_k", "_law_salt", "_law_many"]) (CA : Ok P w K mg base CX0 1 "_law_cell_at" ["_law_script", "_law_k"] (spCA K)) : Ok P w K mg base CX0 2 "_law_some" ["_law_script", "_law_k", "_law_salt", "_law_many"] (spSome2 K) := by
  obtain ⟨g, fd, m, F, b⟩ := d
  refine ⟨g, fd, m, F.kp, b, F.ok sc_l_some (fun vs H Q E ⟨_, _, _, _, _, e, _⟩ => by rw [e]; rfl) fun cdv A outer s H vs Q E hr h => ?_⟩
  obtain ⟨a, ns, i, sa, mm, rfl, hS, h0, h1, h2, h3, h4, k⟩ := h
  have nd := sc_l_some.nd
  have hr1 := hr
  refine ⟨_, (zb (zt (i := 4) nd rfl (Or.inl rfl) (zi zv (zi yB (zO CA hr1 (by rfl) zr (za (pv 0) (za (pv 1) zd))) zc) zc))
      (zb (zt (i := 5) nd rfl (Or.inl rfl) (zi yB (zi zY (pv 4) (zi zv (zi zv zc (zi zY (zi zY zc (pv 1)) (pv 1))) (zi zY (zi zY zc (pv 2)) (pv 2)))) zc))
      (zh (zu (zi yB (zi op_fdiv (zi yB (zi zY (pv 5) (pv 5)) zc) zc) (pv 3)))))), ?_⟩
  refine ⟨_, rfl, _, rfl, a, ns, i, rfl, hS, h0, _, _, rfl, rfl, (by show (0 : Int) < 1000003; decide), _, _, rfl, rfl, ?_⟩
  have c0 := Int.emod_nonneg (ns.getD i.toNat 0) (show (1000003 : Int) ≠ 0 by decide)
  have c1 := Int.emod_lt_of_pos (ns.getD i.toNat 0) (show (0 : Int) < 1000003 by decide)
  refine ⟨_, rfl, _, rfl, _, _, rfl, rfl, .inl ⟨by decide, by decide⟩, _, rfl, _, _, rfl, rfl, .inl ⟨by omega, by omega⟩, _, _, rfl, rfl, _, rfl, _, _, rfl, rfl, .inl ⟨by decide, by decide⟩, _, rfl, _, _, rfl, rfl, .inl ⟨by omega, by omega⟩, _, _, rfl, rfl, _, _, rfl, rfl, .inl ⟨by omega, by omega⟩, _, _, rfl, rfl, (by show (0 : Int) < 2147483647; decide), ?_⟩
  generalize hy : (ns.getD i.toNat 0 % 1000003 + 1) * (48271 + 1000 * i * i + 69621 * sa * sa) = y
  refine ⟨_, rfl, _, rfl, _, _, rfl, rfl, .inl ⟨by omega, by omega⟩, _, _, rfl, rfl, (by show (0 : Int) < 2147483629; decide), _, _, rfl, rfl, ⟨by decide, by decide⟩, _, rfl, _, _, rfl, rfl, h4, ?_⟩
  exact k _ (by rw [← hy]; rfl) (Int.emod_nonneg _ (by omega)) (Int.emod_lt_of_pos _ h4)
end
theorem rot_at {α : Type} {F : List α} {n t j : Nat} (hn : F.length = n) (ht : t < n) (hj : j < n) : (((j : Int) - t) % n).toNat < n ∧ (F.drop t ++ F.take t)[(((j : Int) - t) % n).toNat]? = F[j]? := by
  have n0 : (0 : Int) < n := by omega
  by_cases c : t ≤ j
  · have e : ((j : Int) - t) % n = (j : Int) - t := Int.emod_eq_of_lt (by omega) (by omega)
    rw [e]
    refine ⟨by omega, ?_⟩
    rw [List.getElem?_append_left (by rw [List.length_drop]; omega), List.getElem?_drop]
    congr 1; omega
  · have e : ((j : Int) - t) % n = (j : Int) - t + n := by
      rw [← Int.add_emod_right, Int.emod_eq_of_lt (by omega) (by omega)]
    rw [e]
    refine ⟨by omega, ?_⟩
    rw [List.getElem?_append_right (by rw [List.length_drop]; omega), List.length_drop, List.getElem?_take_of_lt (by omega)]
    congr 1; omega
theorem flat_at : ∀ (PL : List (List Int)) (r e : Nat) (A : List Int), PL[r]? = some A → e < A.length → PL.flatten.getD ((((PL.map fun l => (l.length : Int)).take r).sum + (e : Int)).toNat) 0 = A.getD e 0 ∧ 0 ≤ ((PL.map fun l => (l.length : Int)).take r).sum
  | [], r, e, A, h, _ => by cases h
  | B :: PL, 0, e, A, h, he => by
    cases h
    refine ⟨?_, Int.le_refl _⟩
    show (B ++ PL.flatten).getD ((0 : Int) + e).toNat 0 = _
    rw [show ((0 : Int) + e).toNat = e by omega, List.getD_eq_getElem?_getD, List.getElem?_append_left he, ← List.getD_eq_getElem?_getD]
  | B :: PL, r + 1, e, A, h, he => by
    obtain ⟨a, b⟩ := flat_at PL r e A h he
    have es : (((B :: PL).map fun l => (l.length : Int)).take (r + 1)).sum = (B.length : Int) + ((PL.map fun l => (l.length : Int)).take r).sum := by
      rw [List.map_cons, List.take_succ_cons, List.sum_cons]
    rw [es]
    refine ⟨?_, by omega⟩
    show (B ++ PL.flatten).getD _ 0 = _
    rw [List.getD_eq_getElem?_getD, List.getElem?_append_right (by omega), ← List.getD_eq_getElem?_getD, ← a]
    congr 1; omega
theorem take_apart {ns : List Int} (h : ∀ v ∈ ns, 0 ≤ v) {r r' : Nat} (hr : r < r') (hl : r < ns.length) : (ns.take r).sum + ns.getD r 0 ≤ (ns.take r').sum := by
  rw [← take_sum_succ ns r hl]
  have := xb (ns.take r') (r + 1) fun v hv => h v (List.mem_of_mem_take hv)
  rw [List.take_take, Nat.min_eq_left (by omega)] at this
  exact this.2
theorem flat_len (PL : List (List Int)) : ((PL.flatten.length : Nat) : Int) = (PL.map fun l => (l.length : Int)).sum := by
  induction PL with
  | nil => rfl
  | cons A PL ih => rw [List.flatten_cons, List.length_append, List.map_cons, List.sum_cons, ← ih]; omega
end K35
namespace K35
open PySem L2
section
variable {P : Program} {w : World} {K : PySem.W.Frag} {mg : Str → Option Value} {base : Heap}
def spPlace (K : PySem.W.Frag) : Sp := fun vs H Q _ => ∃ (a : Addr) (ns : List Int) (j : Int) (wild : Bool) (n : Int), vs = [.ref a, .int j, .bl wild, .int n] ∧ SqL K H a (ns.map V.int) ∧ 0 ≤ j ∧ j ≤ 1000 ∧ 1 ≤ n ∧ ∀ r, Q (.int r) H
theorem ok_place (d : zC K mg "_law_place" xk ["_law_script", "_law_j", "_law_wild", "_law_length"]) (SM : Ok P w K mg base CX0 2 "_law_some" ["_law_script", "_law_k", "_law_salt", "_law_many"] (spSome2 K)) (NB : Ok P w K mg base CX0 3 "_law_number" ["_law_script", "_law_k"] (spNumber K)) : Ok P w K mg base CX0 4 "_law_place" ["_law_script", "_law_j", "_law_wild", "_law_length"] (spPlace K) := by
  obtain ⟨g, fd, m, F, b⟩ := d
  refine ⟨g, fd, m, F.kp, b, F.ok sc_l_place (fun vs H Q E ⟨_, _, _, _, _, e, _⟩ => by rw [e]; rfl) fun cdv A outer s H vs Q E hr h => ?_⟩
  obtain ⟨a, ns, j, wild, n, rfl, hS, j0, j1, n1, k⟩ := h
  have nd := sc_l_place.nd
  have hr3 := hr
  have hr2 := hr.mono (show 2 ≤ 3 by decide)
  refine ⟨_, (zb (zt (i := 4) nd rfl (Or.inl rfl) (zO SM hr2 (by rfl) zr (za (pv 0) (za (zi zv zc (pv 1)) (za zc (za zc zd))))))
      (zb (yr (pw_and (yA (pv 2)) (xg (zX op_lt (pv 4) zc (zW _)))).pt (zh (zu (zO NB hr3 (by rfl) zr (za (pv 0) (za (zi zv zc (pv 1)) zd))))) zK)
      (zb (yr (pw_and (yA (pv 2)) (xg (zX op_eq (pv 4) zc (zW _)))).pt (zh (zu (pv 3))) zK)
      (zb (yr (pw_and (yA (pv 2)) (xg (zX op_eq (pv 4) zc (zW _)))).pt (zh (zu (pe_un un_neg zc))) zK)
      (zh (zu (zO SM hr2 (by rfl) zr (za (pv 0) (za (zi zv zc (pv 1)) (za zc (za (pv 3) zd))))))))))), ?_⟩
  refine ⟨_, rfl, _, rfl, _, _, rfl, rfl, a, ns, 10 + j, 1, 12, rfl, hS, by omega, by omega, by decide, by decide, by decide, fun odd _ o0 o1 => ?_⟩
  cases wild
  · refine ⟨_, rfl, _, rfl, yn (yn ⟨_, rfl, _, rfl, yn (yn ⟨_, rfl, _, rfl, yn (yn ?_)⟩)⟩)⟩
    exact ⟨_, rfl, _, rfl, _, _, rfl, rfl, _, rfl, a, ns, 10 + j, 2, n, rfl, hS, by omega, by omega, by decide, by decide, by omega, fun r _ _ _ => k r⟩
  · refine ⟨_, rfl, _, rfl, iteT ⟨_, rfl, _, _, rfl, rfl, _, rfl, ite2 (fun z => ?_) (fun z => ?_)⟩⟩
    · exact ⟨_, rfl, _, rfl, _, _, rfl, rfl, a, ns, 10 + j, rfl, hS, by omega, by omega, fun r => k r⟩
    refine ⟨_, rfl, _, rfl, iteT ⟨_, rfl, rfl, _, rfl, ite2 (fun z => ?_) (fun z => ?_)⟩⟩
    · exact ⟨_, rfl, k _⟩
    refine ⟨_, rfl, _, rfl, iteT ⟨_, rfl, rfl, _, rfl, ite2 (fun z => ?_) (fun z => ?_)⟩⟩
    · exact ⟨_, rfl, k _⟩
    exact ⟨_, rfl, _, rfl, _, _, rfl, rfl, _, rfl, a, ns, 10 + j, 2, n, rfl, hS, by omega, by omega, by decide, by decide, by omega, fun r _ _ _ => k r⟩
def gwOf (s0 s1 s2 : Int) (pls src : List Int) : Gw := ⟨s0, s1, s2, src.length, fun e => pls.getD e.toNat 0, fun x => src.getD x.toNat 0⟩
def el (b : Int) (i : Nat) : List Int := (upto i).map (b + ·)
theorem el_succ (b : Int) (i : Nat) : el b (i + 1) = el b i ++ [b + (i : Int)] := by unfold el upto; rw [List.range_succ, List.map_append, List.map_append]; rfl
theorem el_len (b : Int) (i : Nat) : (el b i).length = i := by unfold el upto; rw [List.length_map, List.length_map, List.length_range]
def spStripG (K : PySem.W.Frag) : Sp := fun vs H Q _ => ∃ (B : Hp) (pa sa sl du to : Addr) (ts : List Addr) (pls src ds : List Int) (T : List Tch) (s0 s1 s2 many side b : Int) (tr : Bool), vs = [.ref pa, .int b, .int (wid many side b), .ref sa, .ref sl, .ref du, .ref to, .bl tr] ∧ Hd B [(du, .lst (ds.map V.int)), (to, .lst (ts.map V.ref))] H ∧ SqL K B pa (pls.map V.int) ∧ SqL K B sa (src.map V.int) ∧ SqL K B sl ([s0, s1, s2].map V.int) ∧ TAt B ts T ∧
  many = pls.length ∧ 0 ≤ b ∧ b < many ∧ many ≤ 900 ∧ (gwOf s0 s1 s2 pls src).Fit many ds.length ∧ T.length + 3 * wid many side b < 90000 ∧ ds.length ≤ 100000 ∧
  ∀ B' H' ts', Same B B' → Hd B' [(du, .lst (((gwOf s0 s1 s2 pls src).one many side tr b (ds, T)).1.map V.int)), (to, .lst (ts'.map V.ref))] H' → TAt B' ts' ((gwOf s0 s1 s2 pls src).one many side tr b (ds, T)).2 → Q (.int ((gwOf s0 s1 s2 pls src).cut many side tr b : Nat)) H'
theorem ok_stripG (d : zC K mg "_law_strip" xj ["_law_places", "_law_base", "_law_width", "_law_source", "_law_start", "_law_due", "_law_touches", "_law_trims"]) (hrg : mg "range" = none) (hlen : mg "len" = none) (hint : mg "int" = none) : Ok P w K mg base CX0 1 "_law_strip" ["_law_places", "_law_base", "_law_width", "_law_source", "_law_start", "_law_due", "_law_touches", "_law_trims"] (spStripG K) := by
  obtain ⟨g, fd, m, F, b⟩ := d
  refine ⟨g, fd, m, F.kp, b, F.ok sc_l_strip (fun vs H Q E ⟨_, _, _, _, _, _, _, _, _, _, _, _, _, _, _, _, _, _, e, _⟩ => by rw [e]; rfl) fun cdv A outer s H vs Q E hr h => ?_⟩
  obtain ⟨B, pa, sa, sl, du, to, ts, pls, src, ds, T, s0, s1, s2, many, side, b, tr, rfl, h, qp, qs, ql, ta, n0, b0, bm, m900, ft, ht, dl, k⟩ := h
  have nd := sc_l_strip.nd
  have SL : (200000 : Nat) < sizeLine := by decide
  have wb : (wid many side b : Int) ≤ many - b := by unfold wid; omega
  let R : Gw := gwOf s0 s1 s2 pls src
  generalize hW : wid many side b = W at *
  have els : elems many side b = el b W := by unfold elems el; rw [hW]
  refine ⟨_, (zb (ps_for PassesOwn.never rfl (yk rfl hrg (za (pv 2) zd)) (zI (i := 8) nd rfl (Or.inl rfl)) (zh (yo (pe_bm PySem.F.plainAttrs_list PySem.F.slot_list_append PySem.F.type_list_append xa (pv 6) (za (yJ (za zc (za yY (za (zi zv (zi zv (zE zB (pv 4) zc (fun _ _ => rfl)) (pv 1)) (pv 8)) zd)))) zd)))))
      (zb (ps_compC (i := 9) ["_law_place_here", "_law_source"] [none, some 3] rfl rfl rfl (pi_list (pe_slice sl_list (pv 0) (po_some (pv 1)) (po_some (zi zv (pv 1) (pv 2))))) (fun s3 H3 fp => ⟨zI (i := 0) (show ((["_law_place_here", "_law_source"] : List Str)).Nodup by decide +kernel) rfl (Or.inl rfl), (pe_chain op_le op_lt zc (pv 0) (zF (call_lenK (K := K) rfl) (by rfl) hlen PySem.boot_len (za (pv 1) zd)))⟩) nd rfl (Or.inl rfl))
      (zb (ps_for PassesOwn.never rfl (yk rfl hrg (za (pv 2) zd)) (zI (i := 8) nd rfl (Or.inl rfl)) (zh (yr (yA (zE zB (pv 9) (pv 8) (fun _ _ => rfl))) (zh (yo (pe_bm PySem.F.plainAttrs_list PySem.F.slot_list_append PySem.F.type_list_append xa (pv 6) (za (yJ (za zc (za yY (za (zi zv (zE zB (pv 4) zc (fun _ _ => rfl)) (zE zB (pv 0) (zi zv (pv 1) (pv 8)) (fun _ _ => rfl))) zd)))) zd)))) zK)))
      (zb (zt (i := 11) nd rfl (Or.inl rfl) (pv 2))
      (zb (ps_mid (yr (pw_and (yA (pv 7)) (xg (zX op_in_seq pe_bl (pv 9) rfl))).pt (zh (zt (i := 11) nd rfl (Or.inl rfl) (pe_bm PySem.F.plainAttrs_list PySem.F.slot_list_index PySem.F.type_list_index mt_indexV (pv 9) (za pe_bl zd)))) zK))
      (zb (ps_for PassesOwn.never rfl (yk rfl hrg (za (pv 11) zd)) (zI (i := 8) nd rfl (Or.inl rfl)) (zh (yr (yA (zE zB (pv 9) (pv 8) (fun _ _ => rfl))) (zb (yo (pe_bm PySem.F.plainAttrs_list PySem.F.slot_list_append PySem.F.type_list_append xa (pv 6) (za (yJ (za (zi zv zc (yc call_int1 (by rfl) hint PyProof.Rows.boot_int (za (pv 7) zd))) (za yY (za (zi zv (zi zv (zE zB (pv 4) zc (fun _ _ => rfl)) (pv 1)) (pv 8)) zd)))) zd)))
      (zh (ps_asg (zE zB (pv 3) (zE zB (pv 0) (zi zv (pv 1) (pv 8)) (fun _ _ => rfl)) (fun _ _ => rfl)) (pg_sub (pv 5) (zi zv (zi zv (zE zB (pv 4) zc (fun _ _ => rfl)) (pv 1)) (pv 8)) set_list)))) zK)))
      (zh (zu (pv 11))))))))), ?_⟩
  refine ⟨_, rfl, _, rfl, (by omega), (by omega), ?_⟩
  rw [Int.toNat_natCast]
  let R1 : Int → Tch := fun e => (1, ("read" : Str), s0 + e)
  refine xo (n := W) (fun i σ J => ∃ (u8 : Option V) (B1 : Hp) (ts1 : List Addr), σ = [some (.ref pa), some (.int b), some (.int (W : Nat)), some (.ref sa), some (.ref sl), some (.ref du), some (.ref to), some (.bl tr), u8, none, none, none] ∧ Same B B1 ∧ Hd B1 [(du, .lst (ds.map V.int)), (to, .lst (ts1.map V.ref))] J ∧ TAt B1 ts1 (T ++ (el b i).map R1)) ⟨none, B, ts, rfl, Same.refl _, h, by show TAt B ts (T ++ []); rw [List.append_nil]; exact ta⟩ ?_ ?_
  · clear h ta
    rintro i σ J hi ⟨u8, B1, ts1, rfl, sB, h, ta⟩
    have hn := ta.n
    rw [List.length_append, List.length_map, el_len] at hn
    have ee : s0 + b + (0 + (i : Int)) = s0 + (b + (i : Int)) := by omega
    refine ⟨_, rfl, .inl ⟨rfl, _, h.lst 1 rfl⟩, _, rfl, sl, _, _, _, rfl, rfl, h.sql (zq ql sB), rfl, _, rfl, _, _, rfl, rfl, _, rfl, _, _, rfl, rfl, (by show 3 ≤ sizeLine; omega), fun t nt => ?_⟩
    obtain ⟨h4, ta4, s4⟩ := ta.note (p := (1, ("read" : Str), s0 + b + (0 + (i : Int)))) h nt
    refine ⟨to, _, _, rfl, rfl, h4.get 1 rfl, (by rw [List.length_map]; omega), ?_⟩
    rw [ee] at ta4
    refine ⟨_, _, ts1 ++ [t], rfl, sB.trans s4, ?_, by rw [el_succ, List.map_append, ← List.append_assoc]; rw [ee]; exact ta4⟩
    rw [List.map_append]
    exact h4.put 1 rfl
  clear h ta
  rintro σ J ⟨u8, B1, ts1, rfl, sB, h, ta⟩
  let gb : Nat → V := fun j => V.bl (R.good (b + (j : Int)))
  refine ⟨_, rfl, _, rfl, b, rfl, _, rfl, _, rfl, _, _, rfl, rfl, b + (W : Int), rfl, pa, _, rfl, h.sql (zq qp sB), fun l nl => ?_⟩
  rw [cutV_int b0 (by omega)]
  generalize hxs : cutI pls b (b + (W : Int)) = xs
  have xl : xs.length = W := by rw [← hxs]; unfold cutI; rw [List.length_take, List.length_drop]; omega
  have xe : ∀ i : Nat, i < W → xs[i]? = some (R.pl (b + (i : Int))) := fun i hi => by
    rw [← hxs]
    unfold cutI
    rw [List.getElem?_take_of_lt (by omega), List.getElem?_drop]
    have e : min b.toNat pls.length + i = (b + (i : Int)).toNat := by omega
    rw [e]
    show _ = some (pls.getD (b + (i : Int)).toNat 0)
    rw [List.getD_eq_getElem?_getD, List.getElem?_eq_getElem (by omega)]; rfl
  have sl1 : Same B1 (upd B1 l (.lst (xs.map V.int))) := zg (Same.refl _) (h.free nl)
  have el1 : upd B1 l (.lst (xs.map V.int)) l = _ := zf
  replace h := h.grow (o := .lst (xs.map V.int)) nl
  generalize upd B1 l (.lst (xs.map V.int)) = B2 at h sl1 el1
  generalize upd J l (.lst (xs.map V.int)) = J1 at h ⊢
  replace ta := ta.same sl1
  have s2' : Same B B2 := sB.trans sl1
  refine ⟨l, rfl, ⟨_, h.sql (SqL.of el1)⟩, _, rfl, fun D nD => ?_⟩
  have h0 : Hd B2 [(D, .lst ((List.range 0).map gb)), (du, .lst (ds.map V.int)), (to, .lst (ts1.map V.ref))] (upd J1 D (.lst [])) := h.new nD
  generalize upd J1 D (.lst []) = J2 at h0 ⊢
  clear h
  refine comp_list (K := K) (a := l) (D := D) (xs := xs.map V.int) (fun i σ J => ∃ u, σ = [u, some (.ref sa)] ∧ Hd B2 [(D, .lst ((List.range i).map gb)), (du, .lst (ds.map V.int)), (to, .lst (ts1.map V.ref))] J) ⟨none, rfl, h0⟩ (fun i σ J _ ⟨_, _, h1⟩ => h1.sql (SqL.of el1)) ?_ ?_
  · clear h0
    rintro i y σ J hy ⟨u, rfl, h⟩
    obtain ⟨x, e9, rfl⟩ := map_at hy
    have hi : i < W := by rw [← xl]; exact (List.getElem?_eq_some_iff.mp e9).1
    rw [xe i hi] at e9
    cases e9
    have et : (List.range (i + 1)).map gb = (List.range i).map gb ++ [V.bl (R.good (b + (i : Int)))] := by rw [List.range_succ, List.map_append]; rfl
    rw [et]
    refine ⟨_, rfl, _, _, rfl, rfl, _, rfl, ?_⟩
    by_cases z0 : 0 ≤ R.pl (b + (i : Int))
    · rw [decide_eq_true z0]
      refine iteT ⟨_, rfl, sa, _, rfl, .inl (h.sql (zq qs s2')), ?_⟩
      rw [List.length_map]
      have eg : decide (R.pl (b + (i : Int)) < (src.length : Int)) = R.good (b + (i : Int)) := by
        show _ = (decide (0 ≤ R.pl (b + (i : Int))) && decide (R.pl (b + (i : Int)) < (src.length : Int)))
        rw [decide_eq_true z0]; rfl
      rw [← eg]
      exact ⟨_, _, rfl, rfl, _, h.get 0 rfl, (by rw [List.length_map, List.length_range]; omega), _, rfl, h.put 0 rfl⟩
    · rw [decide_eq_false z0]
      have eg : false = R.good (b + (i : Int)) := by
        show _ = (decide (0 ≤ R.pl (b + (i : Int))) && decide (R.pl (b + (i : Int)) < (src.length : Int)))
        rw [decide_eq_false z0]; rfl
      rw [← eg]
      exact yn ⟨_, h.get 0 rfl, (by rw [List.length_map, List.length_range]; omega), _, rfl, h.put 0 rfl⟩
  clear h0
  rintro σ J3 ⟨u, rfl, h⟩
  rw [List.length_map, xl] at h
  have nD' : B2 D = none := h.nw (D, _) List.mem_cons_self
  replace h := h.settle
  have sD : Same B2 (upd B2 D (.lst ((List.range W).map gb))) := zg (Same.refl _) nD'
  have eD : upd B2 D (.lst ((List.range W).map gb)) D = _ := zf
  generalize upd B2 D (.lst ((List.range W).map gb)) = B3 at h sD eD
  replace ta := ta.same sD
  replace s2' := s2'.trans sD
  clear sD nD' el1 sl1 sB
  have gat : ∀ i : Nat, i < W → ((List.range W).map gb)[i]? = some (V.bl (R.good (b + (i : Int)))) := fun i hi => by rw [List.getElem?_map, List.getElem?_range hi]; rfl
  let R2 : Int → Tch := fun e => (2, ("read" : Str), s1 + R.pl e)
  have fs : ∀ i : Nat, (el b (i + 1)).filter R.good = (el b i).filter R.good ++ if R.good (b + (i : Int)) = true then [b + (i : Int)] else [] := fun i => by
    rw [el_succ, List.filter_append]
    congr 1
    by_cases z : R.good (b + (i : Int)) = true
    · rw [List.filter_cons_of_pos z, if_pos z]; rfl
    · rw [List.filter_cons_of_neg z, if_neg z]; rfl
  have fl : ∀ i : Nat, ((el b i).filter R.good).length ≤ i := fun i => by have := List.length_filter_le R.good (el b i); rw [el_len] at this; exact this
  refine ⟨_, rfl, _, rfl, (by omega), (by omega), ?_⟩
  rw [Int.toNat_natCast]
  refine xo (n := W) (fun i σ J => ∃ (u8 : Option V) (B4 : Hp) (ts4 : List Addr), σ = [some (.ref pa), some (.int b), some (.int (W : Nat)), some (.ref sa), some (.ref sl), some (.ref du), some (.ref to), some (.bl tr), u8, some (.ref D), none, none] ∧ Same B3 B4 ∧ Hd B4 [(du, .lst (ds.map V.int)), (to, .lst (ts4.map V.ref))] J ∧ TAt B4 ts4 (T ++ (el b W).map R1 ++ ((el b i).filter R.good).map R2)) ⟨_, B3, ts1, rfl, Same.refl _, h, by show TAt B3 ts1 (T ++ (el b W).map R1 ++ []); rw [List.append_nil]; exact ta⟩ ?_ ?_
  · clear h ta
    rintro i σ J hi ⟨u8, B4, ts4, rfl, s4', h, ta⟩
    rw [Int.zero_add]
    have hn := ta.n
    have fi := fl i
    rw [List.length_append, List.length_append, List.length_map, List.length_map, el_len] at hn
    have sA := s2'.trans s4'
    rw [fs i]
    refine ⟨_, rfl, _, rfl, D, _, _, _, rfl, rfl, h.sql (SqL.of (s4' _ _ eD)), zM (gat i hi), _, rfl, ?_⟩
    refine ite2 (fun z => ?_) (fun z => ?_)
    · rw [if_pos z]
      refine ⟨_, rfl, .inl ⟨rfl, _, h.lst 1 rfl⟩, _, rfl, sl, _, _, _, rfl, rfl, h.sql (zq ql sA), rfl, _, rfl, _, rfl, _, rfl, _, _, rfl, rfl, pa, _, _, _, rfl, rfl, h.sql (zq qp sA), at_int (b + (i : Int)).toNat (by omega) (by omega), _, _, rfl, rfl, (by show 3 ≤ sizeLine; omega), fun t nt => ?_⟩
      obtain ⟨h4, ta4, s4⟩ := ta.note (p := R2 (b + (i : Int))) h nt
      refine ⟨to, _, _, rfl, rfl, h4.get 1 rfl, (by rw [List.length_map]; omega), ?_⟩
      refine ⟨_, _, ts4 ++ [t], rfl, s4'.trans s4, ?_, by rw [List.map_append, ← List.append_assoc]; exact ta4⟩
      rw [List.map_append]
      exact h4.put 1 rfl
    · rw [if_neg z, List.append_nil]
      exact ⟨_, B4, ts4, rfl, s4', h, ta⟩
  clear h ta
  rintro σ J4 ⟨u8, B4, ts4, rfl, s4', h, ta⟩
  replace s2' := s2'.trans s4'
  replace eD := s4' _ _ eD
  refine ⟨_, rfl, ?_⟩
  generalize hC : R.cut many side tr b = C
  have CW : C ≤ W := by rw [← hC, ← hW]; exact R.cut_le many side tr b
  refine ⟨fun σ J => σ = [some (.ref pa), some (.int b), some (.int (W : Nat)), some (.ref sa), some (.ref sl), some (.ref du), some (.ref to), some (.bl tr), u8, some (.ref D), none, some (.int (C : Nat))] ∧ J = J4, ?_, ?_⟩
  · cases tr
    · have e : C = W := by rw [← hC, ← hW]; rfl
      refine ⟨_, rfl, _, rfl, yn (yn ?_)⟩
      rw [e]
      exact ⟨rfl, rfl⟩
    · refine ⟨_, rfl, _, rfl, iteT ⟨_, rfl, D, _, rfl, .inl (h.sql (SqL.of eD)), rfl, ?_, ?_⟩⟩
      · refine List.all_eq_true.mpr fun x hx => ?_
        obtain ⟨i, _, rfl⟩ := List.mem_map.mp hx
        rfl
      have hC' : (List.range W).findIdx (fun j : Nat => !R.good (b + (j : Int))) = C := by rw [← hC, ← hW]; rfl
      have bad : C < W → R.good (b + (C : Int)) = false := fun z => by
        have := (Gw.cut_lt (R := R) (many := many) (side := side) (tr := true) (b := b) (by rw [hC, hW]; exact z)).2
        rw [hC] at this; exact this
      refine ⟨_, rfl, ite2 (fun z => ?_) (fun z => ?_)⟩
      · obtain ⟨x, hx, ex⟩ := List.any_eq_true.mp (show ((List.range W).map gb).any (fun y => eqV y (.bl false)) = true from z)
        obtain ⟨i, hi, rfl⟩ := List.mem_map.mp hx
        have gi : R.good (b + (i : Int)) = false := by
          have ex : (R.good (b + (i : Int)) == false) = true := ex
          simpa using ex
        have lt : C < W := by
          have := List.findIdx_lt_length_of_exists (xs := List.range W) (p := fun j : Nat => !R.good (b + (j : Int))) ⟨i, hi, by rw [gi]; rfl⟩
          rw [hC', List.length_range] at this; exact this
        refine ⟨_, rfl, .inl ⟨rfl, _, h.sql (SqL.of eD)⟩, D, _, .bl false, C, rfl, rfl, h.sm _ _ eD, rfl, ?_, (by rw [List.length_map, List.length_range]; omega), ⟨_, gat C lt, by rw [bad lt]; rfl⟩, fun m z hm hz => ?_, ?_⟩
        · refine List.all_eq_true.mpr fun x hx => ?_
          obtain ⟨i, _, rfl⟩ := List.mem_map.mp hx
          rfl
        · rw [gat m (by omega)] at hz
          cases hz
          have := List.not_of_lt_findIdx (xs := List.range W) (p := fun j : Nat => !R.good (b + (j : Int))) (i := m) (by rw [hC']; exact hm)
          rw [List.getElem_range] at this
          have gm : R.good (b + (m : Int)) = true := by simpa using this
          rw [gm]; rfl
        · exact ⟨rfl, rfl⟩
      · have e : C = W := by
          by_cases lt : C < W
          · exact absurd (List.any_eq_true.mpr ⟨gb C, List.mem_map.mpr ⟨C, List.mem_range.mpr lt, rfl⟩, by show eqV (V.bl (R.good (b + (C : Int)))) (.bl false) = true; rw [bad lt]; rfl⟩) z
          · omega
        rw [e]
        exact ⟨rfl, rfl⟩
  rintro _ _ ⟨rfl, rfl⟩
  have k2 : ∀ B' H' ts', Same B B' → Hd B' [(du, .lst ((y4 ds (((el b C).filter R.good).map fun e => (s2 + e, R.sv (R.pl e)))).map V.int)), (to, .lst (ts'.map V.ref))] H' → TAt B' ts' (T ++ (el b W).map R1 ++ ((el b W).filter R.good).map R2 ++ ((el b C).filter R.good).map fun e => (3 + (if tr = true then (1 : Int) else 0), ("write" : Str), s2 + e)) → Q (.int (C : Nat)) H' := by
    have ep : (3 : Int) + (if tr = true then (1 : Int) else 0) = plc tr := by cases tr <;> rfl
    rw [ep]
    have : R.st many side tr b = (el b C).filter R.good := by unfold Gw.st el; rw [hC]
    rw [← this, ← els, ← hC]
    exact k
  let R3 : Int → Tch := fun e => (3 + (if tr = true then (1 : Int) else 0), ("write" : Str), s2 + e)
  let Wr : Int → Int × Int := fun e => (s2 + e, R.sv (R.pl e))
  refine ⟨_, rfl, _, rfl, (by omega), (by omega), ?_⟩
  rw [Int.toNat_natCast]
  refine xo (n := C) (fun i σ J => ∃ (u8 : Option V) (B5 : Hp) (ts5 : List Addr), σ = [some (.ref pa), some (.int b), some (.int (W : Nat)), some (.ref sa), some (.ref sl), some (.ref du), some (.ref to), some (.bl tr), u8, some (.ref D), none, some (.int (C : Nat))] ∧ Same B4 B5 ∧ Hd B5 [(du, .lst ((y4 ds (((el b i).filter R.good).map Wr)).map V.int)), (to, .lst (ts5.map V.ref))] J ∧ TAt B5 ts5 (T ++ (el b W).map R1 ++ ((el b W).filter R.good).map R2 ++ ((el b i).filter R.good).map R3)) ⟨_, B4, ts4, rfl, Same.refl _, h, by show TAt B4 ts4 (T ++ (el b W).map R1 ++ ((el b W).filter R.good).map R2 ++ []); rw [List.append_nil]; exact ta⟩ ?_ ?_
  · clear h ta
    rintro i σ J hi ⟨u8, B5, ts5, rfl, s5', h, ta⟩
    rw [Int.zero_add]
    have hn := ta.n
    have fi := fl i
    have fw := fl W
    rw [List.length_append, List.length_append, List.length_append, List.length_map, List.length_map, List.length_map, el_len] at hn
    have sA := s2'.trans s5'
    have f2 : 0 ≤ s2 ∧ s2 + many ≤ ds.length := ft.f2
    rw [fs i]
    refine ⟨_, rfl, _, rfl, D, _, _, _, rfl, rfl, h.sql (SqL.of (s5' _ _ eD)), zM (gat i (by omega)), _, rfl, ?_⟩
    refine ite2 (fun z => ?_) (fun z => ?_)
    · rw [if_pos z]
      have gi := Gw.good_in z
      have gi : 0 ≤ R.pl (b + (i : Int)) ∧ R.pl (b + (i : Int)) < (src.length : Int) := gi
      have ee : s2 + b + (i : Int) = s2 + (b + (i : Int)) := by omega
      refine ⟨_, rfl, .inl ⟨rfl, _, h.lst 1 rfl⟩, _, rfl, .inr ⟨_, rfl, _, _, rfl, rfl, _, rfl, sl, _, _, _, rfl, rfl, h.sql (zq ql sA), rfl, _, rfl, _, _, rfl, rfl, _, rfl, _, _, rfl, rfl, (by show 3 ≤ sizeLine; omega), fun t nt => ?_⟩⟩
      obtain ⟨h4, ta4, s4⟩ := ta.note (p := (3 + (if tr = true then (1 : Int) else 0), ("write" : Str), s2 + b + (i : Int))) h nt
      rw [ee] at ta4
      refine ⟨to, _, _, rfl, rfl, h4.get 1 rfl, (by rw [List.length_map]; omega), ?_⟩
      have h5 := h4.put (o' := .lst ((ts5 ++ [t]).map V.ref)) 1 rfl
      have eM : (ts5 ++ [t]).map V.ref = ts5.map V.ref ++ [V.ref t] := by rw [List.map_append]; rfl
      rw [eM] at h5
      generalize upd (upd J t _) to (.lst (ts5.map V.ref ++ [V.ref t])) = J5 at h5 ⊢
      have s07 := sA.trans s4
      refine ⟨_, rfl, _, rfl, _, rfl, _, rfl, _, _, rfl, rfl, pa, _, _, _, rfl, rfl, h5.sql (zq qp s07), at_int (b + (i : Int)).toNat (by omega) (by omega), sa, _, _, _, rfl, rfl, h5.sql (zq qs s07), at_int (R.pl (b + (i : Int))).toNat (by omega) (Int.toNat_of_nonneg gi.1).symm, _, rfl, _, rfl, sl, _, _, _, rfl, rfl, h5.sql (zq ql s07), rfl, _, rfl, _, _, rfl, rfl, _, rfl, _, _, rfl, rfl, du, _, _, (s2 + b + (i : Int)).toNat, rfl, rfl, h5.get 0 rfl, ixN_nat (by omega) (by rw [List.length_map, setAll_len]; omega), ?_⟩
      have e6 : (s2 + b + (i : Int)).toNat = (s2 + (b + (i : Int))).toNat := by rw [ee]
      rw [set_ints, e6]
      refine ⟨_, _, ts5 ++ [t], rfl, s5'.trans s4, ?_, by rw [List.map_append, ← List.append_assoc, ee]; exact ta4⟩
      rw [List.map_append, show ([b + (i : Int)] : List Int).map Wr = [Wr (b + (i : Int))] from rfl, setAll_snoc, eM]
      exact h5.put 0 rfl
    · rw [if_neg z, List.append_nil]
      exact ⟨_, B5, ts5, rfl, s5', h, ta⟩
  clear h ta
  rintro σ J5 ⟨u8, B5, ts5, rfl, s5', h, ta⟩
  exact ⟨_, rfl, k2 B5 J5 ts5 (s2'.trans s5') h ta⟩
end
end K35
namespace L2
open PySem
theorem sl_listK {X : Cx} {K : PySem.W.Frag} (e : X.K = K) : SlR X (rSlL K) := by subst e; exact sl_list
theorem call_sumK {X : Cx} {K : PySem.W.Frag} (e : X.K = K) (hc : X.calm = true) : CallR X (.builtin "sum") (rSum K) := by subst e; exact call_sum hc
namespace Hd
theorem over {B J J2 : Hp} {L : List (Addr × HO)} (h : Hd B L J) (s : Same J J2) : ∃ B2, Same B B2 ∧ Hd B2 L J2 ∧ ∀ a o, J2 a = some o → a ∉ L.map Prod.fst → B2 a = some o := by
  classical
  refine ⟨fun a => if a ∈ L.map Prod.fst then none else J2 a, fun a o e => ?_, ⟨h.nd, fun p q => ?_, fun p q => s _ _ (h.st p q), fun a o e => ?_⟩, fun a o e n => ?_⟩
  · have na : a ∉ L.map Prod.fst := fun m => by
      obtain ⟨p, hp, rfl⟩ := List.mem_map.mp m
      rw [h.nw p hp] at e; cases e
    show (if _ then _ else _) = _
    rw [if_neg na]; exact s _ _ (h.sm _ _ e)
  · show (if _ then _ else _) = _
    rw [if_pos (List.mem_map_of_mem q)]
  · have e : (if a ∈ L.map Prod.fst then none else J2 a) = some o := e
    split at e
    · cases e
    · exact e
  · show (if _ then _ else _) = _
    rw [if_neg n]; exact e
end Hd
end L2
namespace K35
open PySem L2
theorem sz (n : Nat) (h : n ≤ 1000 := by decide) : n ≤ sizeLine := Nat.le_trans h (by decide)
theorem rows_ok {zs : List (Addr × List Int)} {x0 x1 x2 : Addr} {pls src tgs : List Int} {tn mn : Nat} (l3 : zs.length = 3) (t3 : tn < 3) (rot : ∀ j : Nat, j < 3 → (((j : Int) - tn) % (3 : Nat)).toNat < 3 ∧ zs[(((j : Int) - tn) % (3 : Nat)).toNat]? = [(x0, pls), (x1, src), (x2, tgs)][j]?) (l0 : pls.length = mn) (l2 : mn ≤ tgs.length) :
    ∃ r0 r1 r2 : Nat, (((0 : Nat) : Int) - tn) % (3 : Nat) = r0 ∧ (((1 : Nat) : Int) - tn) % (3 : Nat) = r1 ∧ (((2 : Nat) : Int) - tn) % (3 : Nat) = r2 ∧ (r0 < 3 ∧ r1 < 3 ∧ r2 < 3) ∧ (zs.map fun p => (p.2.length : Int)).getD r1 0 = src.length ∧
      (gwOf ((zs.map fun p => (p.2.length : Int)).take r0).sum ((zs.map fun p => (p.2.length : Int)).take r1).sum ((zs.map fun p => (p.2.length : Int)).take r2).sum pls src).Fit mn (zs.map Prod.snd).flatten.length ∧
      (gwOf ((zs.map fun p => (p.2.length : Int)).take r0).sum ((zs.map fun p => (p.2.length : Int)).take r1).sum ((zs.map fun p => (p.2.length : Int)).take r2).sum pls src).Src mn (zs.map Prod.snd).flatten := by
  have R0 := rot 0 (by decide)
  have R1 := rot 1 (by decide)
  have R2 := rot 2 (by decide)
  obtain ⟨r0, hr0⟩ : ∃ n : Nat, (((0 : Nat) : Int) - tn) % (3 : Nat) = n := ⟨((((0 : Nat) : Int) - tn) % (3 : Nat)).toNat, (Int.toNat_of_nonneg (Int.emod_nonneg _ (by decide))).symm⟩
  obtain ⟨r1, hr1⟩ : ∃ n : Nat, (((1 : Nat) : Int) - tn) % (3 : Nat) = n := ⟨((((1 : Nat) : Int) - tn) % (3 : Nat)).toNat, (Int.toNat_of_nonneg (Int.emod_nonneg _ (by decide))).symm⟩
  obtain ⟨r2, hr2⟩ : ∃ n : Nat, (((2 : Nat) : Int) - tn) % (3 : Nat) = n := ⟨((((2 : Nat) : Int) - tn) % (3 : Nat)).toNat, (Int.toNat_of_nonneg (Int.emod_nonneg _ (by decide))).symm⟩
  rw [hr0, Int.toNat_natCast] at R0
  rw [hr1, Int.toNat_natCast] at R1
  rw [hr2, Int.toNat_natCast] at R2
  have ap : r0 ≠ r2 ∧ r1 ≠ r2 := by
    clear R0 R1 R2 rot l0 l2
    omega
  refine ⟨r0, r1, r2, hr0, hr1, hr2, ⟨R0.1, R1.1, R2.1⟩, ?_⟩
  clear rot hr0 hr1 hr2
  generalize hlens : (zs.map fun p => (p.2.length : Int)) = lens
  generalize hcells : (zs.map Prod.snd).flatten = cells
  have ll3 : lens.length = 3 := by rw [← hlens, List.length_map]; exact l3
  have lpos : ∀ v ∈ lens, 0 ≤ v := fun v hv => by
    rw [← hlens] at hv
    obtain ⟨z, _, rfl⟩ := List.mem_map.mp hv
    exact Int.natCast_nonneg _
  have gd : ∀ {r : Nat} {z : Addr × List Int}, zs[r]? = some z → lens.getD r 0 = z.2.length := fun {r z} h => by
    rw [← hlens, List.getD_eq_getElem?_getD, List.getElem?_map, h]; rfl
  have g0 : lens.getD r0 0 = mn := by rw [gd R0.2]; exact congrArg _ l0
  have g1' : lens.getD r1 0 = src.length := gd R1.2
  have g2 : lens.getD r2 0 = tgs.length := gd R2.2
  have elm : (zs.map Prod.snd).map (fun l => (l.length : Int)) = lens := by rw [← hlens, List.map_map]; rfl
  have clen : ((cells.length : Nat) : Int) = lens.sum := by rw [← hcells, ← elm]; exact flat_len _
  have flt : ∀ {r : Nat} {z : Addr × List Int}, zs[r]? = some z → ∀ e : Int, 0 ≤ e → e < z.2.length → cells.getD ((lens.take r).sum + e).toNat 0 = z.2.getD e.toNat 0 := fun {r z} h e h0 h1 => by
    have := (flat_at (zs.map Prod.snd) r e.toNat z.2 (by rw [List.getElem?_map, h]; rfl) (by omega)).1
    rw [hcells, Int.toNat_of_nonneg h0, elm] at this
    exact this
  have rm0 := row_room (m := (mn : Int)) lpos (show r0 < lens.length by rw [ll3]; exact R0.1) (by rw [g0]; exact Int.le_refl _)
  have rm1 := row_room (m := (src.length : Int)) lpos (show r1 < lens.length by rw [ll3]; exact R1.1) (by rw [g1']; exact Int.le_refl _)
  have rm2 := row_room (m := (mn : Int)) lpos (show r2 < lens.length by rw [ll3]; exact R2.1) (by rw [g2]; omega)
  refine ⟨g1', ⟨⟨rm0.1, by rw [clen]; exact rm0.2⟩, ⟨rm1.1, by rw [clen]; exact rm1.2⟩, ⟨rm2.1, by rw [clen]; exact rm2.2⟩, ?_, ?_⟩, ⟨fun e h0 h1 => flt R0.2 e h0 (by show e < (pls.length : Int); omega), fun e h0 h1 => flt R1.2 e h0 h1⟩⟩
  · show (lens.take r0).sum + mn ≤ (lens.take r2).sum ∨ (lens.take r2).sum + mn ≤ (lens.take r0).sum
    rcases Nat.lt_or_gt_of_ne ap.1 with c | c
    · left; rw [← g0]; exact take_apart lpos c (by rw [ll3]; exact R0.1)
    · right
      have := take_apart lpos c (by rw [ll3]; exact R2.1)
      rw [g2] at this; omega
  · show (lens.take r1).sum + src.length ≤ (lens.take r2).sum ∨ (lens.take r2).sum + mn ≤ (lens.take r1).sum
    rcases Nat.lt_or_gt_of_ne ap.2 with c | c
    · left; rw [← g1']; exact take_apart lpos c (by rw [ll3]; exact R1.1)
    · right
      have := take_apart lpos c (by rw [ll3]; exact R2.1)
      rw [g2] at this; omega
theorem code_one {B : Hp} {t : Addr} {tv : List V} (e : B t = some (.tup tv)) : CodeAt B [t] [tv] := ⟨rfl, fun i b v hx hy => by
  match i, hx, hy with
  | 0, hx, hy => cases hx; cases hy; exact e
  | i + 1, hx, hy => cases hx⟩
theorem code_if {B : Hp} {t : Addr} {tv : List V} (c : Bool) (e : B t = some (.tup tv)) : CodeAt B (if c = true then [t] else []) (if c = true then [tv] else []) := by
  cases c with
  | true => exact code_one e
  | false => exact ⟨rfl, fun i b v hx hy => by cases hx⟩
theorem code_body {B : Hp} {tr sp : Bool} {p q r0 r1 r2 : Nat} {many gg n : Int} {t0 t1 t2 t3 t4 t5 t6 : Addr} (e0 : B t0 = some (.tup [.str "begin", .int many, .int gg])) (e1 : B t1 = some (.tup [.str "load", .int q, .int r0, .int 0])) (e2 : B t2 = some (.tup [.str "gather", .int p, .int q, .int r1, .int 0])) (e3 : B t3 = some (.tup [.str "trim"])) (e4 : B t4 = some (.tup [.str "store", .int r2, .int p, .int 0])) (e5 : B t5 = some (.tup [.str "stop", .int n])) (e6 : B t6 = some (.tup [.str "next"])) :
    CodeAt B ([t0, t1, t2] ++ (if tr = true then [t3] else []) ++ [t4] ++ (if sp = true then [t5] else []) ++ [t6]) ([.str "begin", .int many, .int gg] :: (yu tr sp p q r0 r1 r2 n ++ [[.str "next"]])) := by
  have a := code_app (code_app (code_app (code_app (code_app (code_app (code_one e0) (code_one e1)) (code_one e2)) (code_if tr e3)) (code_one e4)) (code_if sp e5)) (code_one e6)
  have eq : [[V.str "begin", .int many, .int gg]] ++ [[.str "load", .int q, .int r0, .int 0]] ++ [[.str "gather", .int p, .int q, .int r1, .int 0]] ++ (if tr = true then [[.str "trim"]] else []) ++ [[.str "store", .int r2, .int p, .int 0]] ++ (if sp = true then [[.str "stop", .int n]] else []) ++ [[.str "next"]] = [.str "begin", .int many, .int gg] :: (yu tr sp p q r0 r1 r2 n ++ [[.str "next"]]) := by cases tr <;> cases sp <;> rfl
  rw [← eq]
  exact a
theorem code_plain {tr sp : Bool} {mn : Nat} {gg n : Int} {p q r0 r1 r2 : Nat} : ∀ tv ∈ ([.str "begin", .int (mn : Int), .int gg] :: (yu tr sp p q r0 r1 r2 n ++ [[.str "next"]]) : List (List V)), Plain tv := by
  have bg : Plain [.str "begin", .int (mn : Int), .int gg] := yK (ns := [(mn : Int), gg]) (by decide +kernel)
  have l1' : Plain [.str "load", .int (q : Int), .int (r0 : Int), .int 0] := yK (ns := [(q : Int), r0, 0]) (by decide +kernel)
  have l2' : Plain [.str "gather", .int (p : Int), .int (q : Int), .int (r1 : Int), .int 0] := yK (ns := [(p : Int), q, r1, 0]) (by decide +kernel)
  have tm : Plain [.str "trim"] := yK (ns := []) (by decide +kernel)
  have so : Plain [.str "store", .int (r2 : Int), .int (p : Int), .int 0] := yK (ns := [(r2 : Int), p, 0]) (by decide +kernel)
  have sp' : Plain [.str "stop", .int n] := yK (ns := [n]) (by decide +kernel)
  have nx : Plain [.str "next"] := yK (ns := []) (by decide +kernel)
  intro tv htv
  rcases List.mem_cons.mp htv with rfl | htv
  · exact bg
  rcases List.mem_append.mp htv with htv | htv
  rotate_left
  · cases List.mem_singleton.mp htv; exact nx
  unfold yu at htv
  rcases List.mem_append.mp htv with htv | htv
  rotate_left
  · cases sp with
    | true => cases List.mem_singleton.mp htv; exact sp'
    | false => cases htv
  rcases List.mem_append.mp htv with htv | htv
  rotate_left
  · cases List.mem_singleton.mp htv; exact so
  rcases List.mem_append.mp htv with htv | htv
  rotate_left
  · cases tr with
    | true => cases List.mem_singleton.mp htv; exact tm
    | false => cases htv
  rcases List.mem_cons.mp htv with rfl | htv
  · exact l1'
  cases List.mem_singleton.mp htv
  exact l2'
theorem code_len {tr sp : Bool} {p q r0 r1 r2 : Nat} {n : Int} : (yu tr sp p q r0 r1 r2 n).length ≤ 5 := by
  cases tr <;> cases sp <;> exact Nat.le_of_ble_eq_true rfl
section
variable {P : Program} {w : World} {K : PySem.W.Frag} {mg : Str → Option Value} {base : Heap}
def spLaw (K : PySem.W.Frag) : Sp := fun vs H Q _ => ∃ (a : Addr) (ns : List Int), vs = [.ref a] ∧ SqL K H a (ns.map V.int) ∧ ns.length ≤ 63 ∧ ∀ H', Q (.bl true) H'
theorem ok_law {c : MCs} {f : Addr} {fd : FuncData} (F : Fun K "law" "law" s_law f fd) (hlen : mg "len" = none) (hrg : mg "range" = none) (hlist : mg "list" = none) (hsum : mg "sum" = none) (hmin : mg "min" = none) (hint : mg "int" = none)
    (CA : Ok P w K mg base CX0 1 "_law_cell_at" ["_law_script", "_law_k"] (spCA K)) (SM : Ok P w K mg base CX0 2 "_law_some" ["_law_script", "_law_k", "_law_salt", "_law_many"] (spSome2 K)) (LA : Ok P w K mg base CX0 1 "_law_lanes" ["_law_cell"] spLanes) (GR : Ok P w K mg base CX0 3 "_law_group" ["_law_script", "_law_k", "_law_salt"] (spGroup K))
    (NB : Ok P w K mg base CX0 3 "_law_number" ["_law_script", "_law_k"] (spNumber K)) (DU : Ok P w K mg base CX0 4 "_law_dust" ["_law_script", "_law_k", "_law_salt"] (spDust K))
    (PL : Ok P w K mg base CX0 4 "_law_place" ["_law_script", "_law_j", "_law_wild", "_law_length"] (spPlace K))
    (ST : Ok P w K mg base CX0 1 "_law_strip" ["_law_places", "_law_base", "_law_width", "_law_source", "_law_start", "_law_due", "_law_touches", "_law_trims"] (spStripG K))
    (AL : Ok P w K mg base CX0 5 "_law_alike" ["_law_found", "_law_due"] (spAlike 3)) (RN : Ok P w K mg base CX0 11 "_law_ran" ["_law_code", "_law_lengths", "_law_cells", "_law_lanes_here", "_law_dust_here", "_law_picks"] (spLRan c K Lx)) :
    FnOk P w K mg base CX0 12 f fd ["_law_script"] (spLaw K) := by
  refine F.ok sc_law (fun vs H Q E ⟨_, _, e, _⟩ => by rw [e]; rfl) fun cdv A outer s H vs Q E hr h => ?_
  obtain ⟨a, ns, rfl, hS, hn, k⟩ := h
  have nd := sc_law.nd
  have hr1 : Room 1 _ := hr.mono (by decide)
  have hr2 : Room 2 _ := hr.mono (by decide)
  have hr3 : Room 3 _ := hr.mono (by decide)
  have hr4 : Room 4 _ := hr.mono (by decide)
  have hr5 : Room 5 _ := hr.mono (by decide)
  have hr8 : Room 11 _ := hr
  have SL : (200000 : Nat) < sizeLine := by decide
  refine ⟨_, (zb (zt (i := 1) nd rfl (Or.inl rfl) (zi zv zc (zO SM hr2 (by rfl) zr (za (pv 0) (za zc (za zc (za zc zd)))))))
      (zb (ps_mid (yr (zX op_eq (zO SM hr2 (by rfl) zr (za (pv 0) (za zc (za zc (za zc zd))))) zc (zW _)) (zh (zt (i := 1) nd rfl (Or.inl rfl) (zi zv zc (zO SM hr2 (by rfl) zr (za (pv 0) (za zc (za zc (za zc zd)))))))) zK))
      (zb (zt (i := 2) nd rfl (Or.inr rfl) (zO SM hr2 (by rfl) zr (za (pv 0) (za zc (za zc (za zc zd))))))
      (zb (zt (i := 3) nd rfl (Or.inr rfl) (y3 ["_law_k", "_law_script"] [none, some 0] rfl rfl rfl (yk rfl hrg (za (zi zv zc (zO SM hr2 (by rfl) zr (za (pv 0) (za zc (za zc (za zc zd)))))) zd)) (fun s3 H3 fp => ⟨zI (i := 0) (show ((["_law_k", "_law_script"] : List Str)).Nodup by decide +kernel) rfl (Or.inl rfl), (zO NB hr3 (by rfl) zr (za (pv 1) (za (zi zv zc (pv 0)) zd)))⟩)))
      (zb (ps_mid (zt (i := 5) nd rfl (Or.inr rfl) (xh op_eq (zO SM hr2 (by rfl) zr (za (pv 0) (za zc (za zc (za zc zd))))) zc (zW _))))
      (zb (ps_compC (i := 6) ["_law_j", "_law_script", "_law_wild", "_law_source"] [none, some 0, some 5, some 3] rfl rfl rfl (yk rfl hrg (za (pv 1) zd)) (fun s3 H3 fp => ⟨zI (i := 0) (show ((["_law_j", "_law_script", "_law_wild", "_law_source"] : List Str)).Nodup by decide +kernel) rfl (Or.inl rfl), (zO PL hr4 (by rfl) zr (za (pv 1) (za (pv 0) (za (pv 2) (za (zF (call_lenK (K := K) rfl) (by rfl) hlen PySem.boot_len (za (pv 3) zd)) zd)))))⟩) nd rfl (Or.inl rfl))
      (zb (zt (i := 8) nd rfl (Or.inl rfl) (yL (za (pv 6) (za (pv 3) (za (y3 ["_law_k", "_law_script"] [none, some 0] rfl rfl rfl (yk rfl hrg (za (zi zv (pv 1) (zO SM hr2 (by rfl) zr (za (pv 0) (za zc (za zc (za zc zd)))))) zd)) (fun s3 H3 fp => ⟨zI (i := 0) (show ((["_law_k", "_law_script"] : List Str)).Nodup by decide +kernel) rfl (Or.inl rfl), (zO NB hr3 (by rfl) zr (za (pv 1) (za (zi zv zc (pv 0)) zd)))⟩)) zd)))))
      (zb (zt (i := 8) nd rfl (Or.inl rfl) (zi op_cat (pe_slice sl_list (pv 8) (po_some (pv 2)) po_none) (pe_slice sl_list (pv 8) po_none (po_some (pv 2)))))
      (zb (zt (i := 9) nd rfl (Or.inr rfl) (y3 ["_law_part"] [none] rfl rfl rfl (pi_list (pv 8)) (fun s3 H3 fp => ⟨zI (i := 0) (show ((["_law_part"] : List Str)).Nodup by decide +kernel) rfl (Or.inl rfl), (zF (call_lenK (K := K) rfl) (by rfl) hlen PySem.boot_len (za (pv 0) zd))⟩)))
      (zb (zt (i := 11) nd rfl (Or.inl rfl) (zi op_cat (zi op_cat (zE zB (pv 8) zc (fun _ _ => rfl)) (zE zB (pv 8) zc (fun _ _ => rfl))) (zE zB (pv 8) zc (fun _ _ => rfl))))
      (zb (ps_compC (i := 12) ["_law_k", "_law_turn"] [none, some 2] rfl rfl rfl (yk rfl hrg (za zc zd)) (fun s3 H3 fp => ⟨zI (i := 0) (show ((["_law_k", "_law_turn"] : List Str)).Nodup by decide +kernel) rfl (Or.inl rfl), (zi yB (zi op_sub (pv 0) (pv 1)) zc)⟩) nd rfl (Or.inl rfl))
      (zb (ps_compC (i := 13) ["_law_row", "_law_lengths"] [none, some 9] rfl rfl rfl (pi_list (pv 12)) (fun s3 H3 fp => ⟨zI (i := 0) (show ((["_law_row", "_law_lengths"] : List Str)).Nodup by decide +kernel) rfl (Or.inl rfl), (zF (call_sumK (K := K) rfl rfl) (by rfl) hsum PyProof.Rows.boot_sum (za (pe_slice (sl_listK (K := K) rfl) (pv 1) po_none (po_some (pv 0))) zd))⟩) nd rfl (Or.inl rfl))
      (zb (ps_mid (zt (i := 15) nd rfl (Or.inl rfl) (zO LA hr1 (by rfl) zr (za (zO CA hr1 (by rfl) zr (za (pv 0) (za zc zd))) zd))))
      (zb (zt (i := 16) nd rfl (Or.inl rfl) (zO GR hr3 (by rfl) zr (za (pv 0) (za zc (za zc zd)))))
      (zb (zt (i := 17) nd rfl (Or.inl rfl) (zO SM hr2 (by rfl) zr (za (pv 0) (za zc (za zc (za (zi op_fdivB zc (pv 16)) zd))))))
      (zb (zt (i := 18) nd rfl (Or.inl rfl) (zO SM hr2 (by rfl) zr (za (pv 0) (za zc (za zc (za (zi op_fdivB zc (pv 16)) zd))))))
      (zb (zt (i := 19) nd rfl (Or.inl rfl) (xh op_gt (zO SM hr2 (by rfl) zr (za (pv 0) (za zc (za zc (za zc zd))))) zc (zW _)))
      (zb (zt (i := 20) nd rfl (Or.inl rfl) (xh op_gt (zO SM hr2 (by rfl) zr (za (pv 0) (za zc (za zc (za zc zd))))) zc (zW _)))
      (zb (ps_mid (zt (i := 21) nd rfl (Or.inl rfl) (zO SM hr2 (by rfl) zr (za (pv 0) (za zc (za zc (za zc zd)))))))
      (zb (zt (i := 22) nd rfl (Or.inl rfl) (zi op_cat (yL (za (yJ (za yY (za (pv 1) (za (pv 16) zd)))) (za (yJ (za yY (za (pv 18) (za (zE zB (pv 12) zc (fun _ _ => rfl)) (za zc zd))))) (za (yJ (za yY (za (pv 17) (za (pv 18) (za (zE zB (pv 12) zc (fun _ _ => rfl)) (za zc zd)))))) zd)))) (zi op_rep (yL (za (yJ (za yY zd)) zd)) (yc call_int1 (by rfl) hint PyProof.Rows.boot_int (za (pv 19) zd)))))
      (zb (zt (i := 22) nd rfl (Or.inl rfl) (zi op_cat (zi op_cat (zi op_cat (pv 22) (yL (za (yJ (za yY (za (zE zB (pv 12) zc (fun _ _ => rfl)) (za (pv 17) (za zc zd))))) zd))) (zi op_rep (yL (za (yJ (za yY (za (pv 21) zd))) zd)) (yc call_int1 (by rfl) hint PyProof.Rows.boot_int (za (pv 20) zd)))) (yL (za (yJ (za yY zd)) zd))))
      (zb (zt (i := 23) nd rfl (Or.inl rfl) (yc yd (by rfl) hlist PyProof.Rows.boot_list (za (pv 11) zd)))
      (zb (zt (i := 24) nd rfl (Or.inl rfl) (yL zd))
      (zb (zt (i := 25) nd rfl (Or.inl rfl) yZ)
      (zb (ps_mid (ps_for PassesOwn.never rfl (pi_range3 rfl hrg (za zc (za (pv 1) (za (zi zY (pv 16) (pv 15)) zd)))) (zI (i := 26) nd rfl (Or.inl rfl)) (zb (zt (i := 27) nd rfl (Or.inl rfl) (zF (call_min2 rfl) (by rfl) hmin PyProof.Rows.boot_min (za (zi op_sub (pv 1) (pv 26)) (za (zi zY (pv 16) (pv 15)) zd))))
      (zb (zt (i := 28) nd rfl (Or.inl rfl) (zO ST hr1 (by rfl) zr (za (pv 6) (za (pv 26) (za (pv 27) (za (pv 3) (za (pv 13) (za (pv 23) (za (pv 24) (za (pv 19) zd))))))))))
      (zh (yr (pw_and (zX op_lt (pv 28) (pv 27) (zW _)) (pw_and (yA (pv 20)) (xg (zX op_isN (pv 25) yZ (zW _))))).pt (zb (zt (i := 25) nd rfl (Or.inl rfl) (yJ (za (pv 21) (za (zi zv (pv 26) (pv 28)) (za yY zd)))))
      (zh ps_break)) zK))))))
      (zh (zu (zO AL hr5 (by rfl) zr (za (zO RN hr8 (by rfl) zr (za (pv 22) (za (pv 9) (za (pv 11) (za (pv 15) (za (zO DU hr4 (by rfl) zr (za (pv 0) (za zc (za zc zd)))) (za (yL zd) zd))))))) (za (yJ (za (pv 23) (za (pv 25) (za (pv 24) zd)))) zd)))))))))))))))))))))))))))))), ?_⟩
  refine ⟨_, rfl, a, ns, 0, 1, 20, rfl, hS, by decide, by decide, by decide, by decide, by decide, fun r1 _ r10 r11 => ⟨_, _, rfl, rfl, ?_⟩⟩
  refine ⟨fun σ J => ∃ (mn : Nat), σ = [some (.ref a), some (.int (mn : Int)), none, none, none, none, none, none, none, none, none, none, none, none, none, none, none, none, none, none, none, none, none, none, none, none, none, none, none] ∧ J = H ∧ 1 ≤ mn ∧ mn ≤ 60, ?_, ?_⟩
  · refine ⟨_, rfl, a, ns, 0, 2, 8, rfl, hS, by decide, by decide, by decide, by decide, by decide, fun r _ r0 r1' => ⟨rfl, _, rfl, ?_⟩⟩
    refine ite2 (fun z => ?_) (fun z => ?_)
    · refine ⟨_, rfl, a, ns, 0, 3, 60, rfl, hS, by decide, by decide, by decide, by decide, by decide, fun r3 _ r30 r31 => ⟨_, _, rfl, rfl, ?_⟩⟩
      exact ⟨(1 + r3).toNat, by rw [Int.toNat_of_nonneg (by omega)]; rfl, rfl, by omega, by omega⟩
    · exact ⟨(1 + r1).toNat, by rw [Int.toNat_of_nonneg (by omega)]; rfl, rfl, by omega, by omega⟩
  rintro σ J ⟨mn, rfl, rfl, m1, m60⟩
  refine ⟨_, rfl, a, ns, 0, 4, 3, rfl, hS, by decide, by decide, by decide, by decide, by decide, fun tu _ tu0 tu1 => ?_⟩
  obtain ⟨tn, rfl⟩ : ∃ n : Nat, tu = n := ⟨tu.toNat, by omega⟩
  have tn3 : tn < 3 := by omega
  refine ⟨_, rfl, a, ns, 1, 1, 12, rfl, hS, by decide, by decide, by decide, by decide, by decide, fun sn _ sn0 sn1 => ⟨_, _, rfl, rfl, _, rfl, by omega, by omega, _, rfl, fun x1 nx1 => ?_⟩⟩
  have h0 : Hd J [(x1, .lst (([] : List Int).map V.int))] (upd J x1 (.lst [])) := Hd.base.new nx1
  generalize upd J x1 (.lst []) = H1 at h0 ⊢
  refine yN (n := (1 + sn).toNat) (fun i σ J2 => ∃ u ls, ls.length = i ∧ σ = [u, some (.ref a)] ∧ Hd J [(x1, .lst (List.map V.int ls))] J2) ⟨none, [], rfl, rfl, h0⟩ ?_ ?_
  · clear h0
    rintro i σ J2 hi ⟨u, ls, ll, rfl, h⟩
    refine ⟨_, rfl, _, rfl, _, _, rfl, rfl, a, ns, _, rfl, h.sql hS, (by show 0 ≤ 3 + (0 + (i : Int)); omega), (by show 3 + (0 + (i : Int)) ≤ 100000; omega), fun v => ?_⟩
    refine ⟨_, h.get 0 rfl, (by rw [List.length_map]; omega), _, ls ++ [v], (by rw [List.length_append, ll]; rfl), rfl, ?_⟩
    rw [List.map_append]; exact h.put 0 rfl
  clear h0
  rintro σ H2 ⟨u, src, l1, rfl, h⟩
  have e1 := h.get 0 rfl
  replace hS := h.sql hS
  clear h
  have sl12 : 1 ≤ src.length ∧ src.length ≤ 12 := by omega
  refine ⟨fun σ J => ∃ (wild : Bool), σ = [some (.ref a), some (.int (mn : Int)), some (.int (tn : Int)), some (.ref x1), none, some (.bl wild), none, none, none, none, none, none, none, none, none, none, none, none, none, none, none, none, none, none, none, none, none, none, none] ∧ J = H2, ?_, ?_⟩
  · refine ⟨_, rfl, a, ns, 1, 2, 2, rfl, hS, by decide, by decide, by decide, by decide, by decide, fun r _ r0 r1' => ⟨rfl, ?_⟩⟩
    exact ⟨_, rfl, rfl⟩
  rintro _ H2 ⟨wild, rfl, rfl⟩
  refine ⟨_, rfl, _, rfl, by omega, by omega, _, rfl, fun x0 nx0 => ?_⟩
  have h0 : Hd H2 [(x0, .lst (([] : List Int).map V.int))] (upd H2 x0 (.lst [])) := Hd.base.new nx0
  generalize upd H2 x0 (.lst []) = H1 at h0 ⊢
  refine yN (n := ((mn : Nat) : Int).toNat) (fun i σ J2 => ∃ u ls, ls.length = i ∧ σ = [u, some (.ref a), some (.bl wild), some (.ref x1)] ∧ Hd H2 [(x0, .lst (List.map V.int ls))] J2) ⟨none, [], rfl, rfl, h0⟩ ?_ ?_
  · clear h0
    rintro i σ J2 hi ⟨u, ls, ll, rfl, h⟩
    refine ⟨_, rfl, _, rfl, _, rfl, _, rfl, x1, _, rfl, .inl (SqL.of (h.sm _ _ e1)), ?_⟩
    rw [List.length_map]
    refine ⟨a, ns, 0 + (i : Int), wild, _, rfl, h.sql hS, by omega, by omega, by omega, fun v => ?_⟩
    refine ⟨_, h.get 0 rfl, (by rw [List.length_map]; omega), _, ls ++ [v], (by rw [List.length_append, ll]; rfl), rfl, ?_⟩
    rw [List.map_append]; exact h.put 0 rfl
  clear h0
  rintro σ H3 ⟨u, pls, l0, rfl, h⟩
  rw [Int.toNat_natCast] at l0
  have e0 := h.get 0 rfl
  replace e1 := h.sm _ _ e1
  replace hS := h.sql hS
  clear h
  refine ⟨_, rfl, _, rfl, _, rfl, _, rfl, a, ns, 1, 3, 3, rfl, hS, by decide, by decide, by decide, by decide, by decide, fun mo _ mo0 mo1 => ⟨_, _, rfl, rfl, _, rfl, by omega, by omega, _, rfl, fun x2 nx2 => ?_⟩⟩
  have h0 : Hd H3 [(x2, .lst (([] : List Int).map V.int))] (upd H3 x2 (.lst [])) := Hd.base.new nx2
  generalize upd H3 x2 (.lst []) = H1 at h0 ⊢
  refine yN (n := ((mn : Int) + mo).toNat) (fun i σ J2 => ∃ u ls, ls.length = i ∧ σ = [u, some (.ref a)] ∧ Hd H3 [(x2, .lst (List.map V.int ls))] J2) ⟨none, [], rfl, rfl, h0⟩ ?_ ?_
  · clear h0
    rintro i σ J2 hi ⟨u, ls, ll, rfl, h⟩
    refine ⟨_, rfl, _, rfl, _, _, rfl, rfl, a, ns, _, rfl, h.sql hS, (by show 0 ≤ 40 + (0 + (i : Int)); omega), (by show 40 + (0 + (i : Int)) ≤ 100000; omega), fun v => ?_⟩
    refine ⟨_, h.get 0 rfl, (by rw [List.length_map]; omega), _, ls ++ [v], (by rw [List.length_append, ll]; rfl), rfl, ?_⟩
    rw [List.map_append]; exact h.put 0 rfl
  clear h0
  rintro σ H5 ⟨u, tgs, l2, rfl, h⟩
  have e2 := h.get 0 rfl
  replace e1 := h.sm _ _ e1
  replace e0 := h.sm _ _ e0
  replace hS := h.sql hS
  clear h
  have l2' : mn ≤ tgs.length ∧ tgs.length ≤ 62 := by omega
  refine ⟨(sz 3), fun fi nfi => ?_⟩
  have s6 : Same H5 (upd H5 fi (.lst [.ref x0, .ref x1, .ref x2])) := zg (Same.refl _) nfi
  have efi : upd H5 fi (.lst [.ref x0, .ref x1, .ref x2]) fi = some (.lst [.ref x0, .ref x1, .ref x2]) := zf
  generalize upd H5 fi (.lst [.ref x0, .ref x1, .ref x2]) = H6 at s6 efi ⊢
  replace hS := zq hS s6
  let ZL : List (Addr × List Int) := [(x0, pls), (x1, src), (x2, tgs)]
  have eZ : ∀ p ∈ ZL, H6 p.1 = some (.lst (p.2.map V.int)) := fun p hp => by
    rcases List.mem_cons.mp hp with rfl | hp
    · exact s6 _ _ e0
    rcases List.mem_cons.mp hp with rfl | hp
    · exact s6 _ _ e1
    cases List.mem_singleton.mp hp
    exact s6 _ _ e2
  refine ⟨_, rfl, _, rfl, (tn : Int), rfl, fi, _, rfl, SqL.of efi, fun y1 ny1 => ?_⟩
  rw [cutV_dropV (by omega), Int.toNat_natCast]
  have s7 : Same H6 (upd H6 y1 (.lst ([V.ref x0, .ref x1, .ref x2].drop tn))) := zg (Same.refl _) ny1
  have ey1 : upd H6 y1 (.lst ([V.ref x0, .ref x1, .ref x2].drop tn)) y1 = _ := zf
  generalize upd H6 y1 (.lst ([V.ref x0, .ref x1, .ref x2].drop tn)) = H7 at s7 ey1 ⊢
  refine ⟨_, rfl, _, rfl, (tn : Int), rfl, fi, _, rfl, SqL.of (s7 _ _ efi), fun y2 ny2 => ?_⟩
  rw [cutV_takeV (by omega), Int.toNat_natCast]
  have s8 : Same H7 (upd H7 y2 (.lst ([V.ref x0, .ref x1, .ref x2].take tn))) := zg (Same.refl _) ny2
  have ey2 : upd H7 y2 (.lst ([V.ref x0, .ref x1, .ref x2].take tn)) y2 = _ := zf
  generalize upd H7 y2 (.lst ([V.ref x0, .ref x1, .ref x2].take tn)) = H8 at s8 ey2 ⊢
  refine ⟨y1, y2, _, _, rfl, rfl, s8 _ _ ey1, ey2, (by rw [List.length_drop, List.length_take]; show 3 - tn + min tn 3 ≤ _; omega), fun pa npa => ?_⟩
  have eYV : [V.ref x0, .ref x1, .ref x2].drop tn ++ [V.ref x0, .ref x1, .ref x2].take tn = (ZL.drop tn ++ ZL.take tn).map fun p => V.ref p.1 := by
    rw [List.map_append, List.map_drop, List.map_take]; rfl
  rw [eYV]
  have rot : ∀ j : Nat, j < 3 → (((j : Int) - tn) % (3 : Nat)).toNat < 3 ∧ (ZL.drop tn ++ ZL.take tn)[(((j : Int) - tn) % (3 : Nat)).toNat]? = ZL[j]? := fun j hj => rot_at rfl tn3 hj
  have eY : ∀ p ∈ ZL.drop tn ++ ZL.take tn, H6 p.1 = some (.lst (p.2.map V.int)) := fun p hp => by
    rcases List.mem_append.mp hp with hp | hp
    · exact eZ p (List.mem_of_mem_drop hp)
    · exact eZ p (List.mem_of_mem_take hp)
  have lY : (ZL.drop tn ++ ZL.take tn).length = 3 := by rw [List.length_append, List.length_drop, List.length_take]; show 3 - tn + min tn 3 = 3; omega
  have lB : ∀ p ∈ ZL.drop tn ++ ZL.take tn, p.2.length ≤ 62 := fun p hp => by
    have hp : p ∈ ZL := by
      rcases List.mem_append.mp hp with hp | hp
      · exact List.mem_of_mem_drop hp
      · exact List.mem_of_mem_take hp
    rcases List.mem_cons.mp hp with rfl | hp
    · show pls.length ≤ 62; omega
    rcases List.mem_cons.mp hp with rfl | hp
    · show src.length ≤ 62; omega
    cases List.mem_singleton.mp hp
    show tgs.length ≤ 62; omega
  generalize ZL.drop tn ++ ZL.take tn = YZ at rot eY lY lB ⊢
  have s9 : Same H8 (upd H8 pa (.lst (YZ.map fun p => V.ref p.1))) := zg (Same.refl _) npa
  have epa : upd H8 pa (.lst (YZ.map fun p => V.ref p.1)) pa = _ := zf
  generalize upd H8 pa (.lst (YZ.map fun p => V.ref p.1)) = H9 at s9 epa ⊢
  have s69 : Same H6 H9 := (s7.trans s8).trans s9
  replace hS := zq hS s69
  replace eY : ∀ p ∈ YZ, H9 p.1 = some (.lst (p.2.map V.int)) := fun p hp => s69 _ _ (eY p hp)
  have e0 := s69 _ _ (s6 _ _ e0)
  have e1 := s69 _ _ (s6 _ _ e1)
  clear s6 s7 s8 s9 s69 ey1 ey2 e2 eZ efi
  refine ⟨_, rfl, pa, rfl, ⟨_, SqL.of epa⟩, _, rfl, fun le nle => ?_⟩
  let LN : List (Addr × List Int) → List Int := fun zs => zs.map fun p => (p.2.length : Int)
  have h0 : Hd H9 [(le, .lst ((LN (YZ.take 0)).map V.int))] (upd H9 le (.lst [])) := Hd.base.new nle
  generalize upd H9 le (.lst []) = H1 at h0 ⊢
  refine comp_list (K := K) (a := pa) (D := le) (xs := YZ.map fun p => V.ref p.1) (fun i σ J => ∃ u, σ = [u] ∧ Hd H9 [(le, .lst ((LN (YZ.take i)).map V.int))] J) ⟨none, rfl, h0⟩ (fun i σ J _ ⟨_, _, h1⟩ => SqL.of (h1.sm _ _ epa)) ?_ ?_
  · clear h0
    rintro i y σ J2 hy ⟨u, rfl, h⟩
    obtain ⟨p, e9, rfl⟩ := map_at (f := fun p : Addr × List Int => V.ref p.1) hy
    have et : LN (YZ.take (i + 1)) = LN (YZ.take i) ++ [(p.2.length : Int)] := by show List.map _ _ = List.map _ _ ++ _; rw [List.take_add_one, e9, List.map_append]; rfl
    refine ⟨_, rfl, p.1, _, rfl, .inl (SqL.of (h.sm _ _ (eY p (List.mem_of_getElem? e9)))), ?_⟩
    rw [List.length_map]
    refine ⟨_, h.get 0 rfl, (by rw [List.length_map, List.length_map, List.length_take]; omega), _, rfl, ?_⟩
    rw [et, List.map_append]; exact h.put 0 rfl
  clear h0
  rintro σ H10 ⟨u, rfl, h⟩
  rw [List.length_map, List.take_length] at h
  have ele := h.get 0 rfl
  have sA := h.sm
  clear h
  replace hS := zq hS sA
  replace epa := sA _ _ epa
  replace eY : ∀ p ∈ YZ, H10 p.1 = some (.lst (p.2.map V.int)) := fun p hp => sA _ _ (eY p hp)
  replace e0 := sA _ _ e0
  replace e1 := sA _ _ e1
  clear sA
  obtain ⟨z0, z1, z2, rfl⟩ : ∃ z0 z1 z2, YZ = [z0, z1, z2] := by
    match YZ, lY with
    | [z0, z1, z2], _ => exact ⟨z0, z1, z2, rfl⟩
  have b0 := lB z0 (by simp)
  have b1 := lB z1 (by simp)
  have b2 := lB z2 (by simp)
  have qp : SqL K H10 pa [.ref z0.1, .ref z1.1, .ref z2.1] := SqL.of epa
  refine ⟨_, rfl, pa, _, _, _, rfl, rfl, qp, rfl, _, rfl, pa, _, _, _, rfl, rfl, qp, rfl, z0.1, z1.1, _, _, rfl, rfl, eY z0 (by simp), eY z1 (by simp), (by rw [List.length_map, List.length_map]; omega), fun c1 nc1 => ?_⟩
  rw [← List.map_append]
  have s1 : Same H10 (upd H10 c1 (.lst ((z0.2 ++ z1.2).map V.int))) := zg (Same.refl _) nc1
  have ec1 : upd H10 c1 (.lst ((z0.2 ++ z1.2).map V.int)) c1 = _ := zf
  generalize upd H10 c1 (.lst ((z0.2 ++ z1.2).map V.int)) = H11 at s1 ec1 ⊢
  refine ⟨_, rfl, pa, _, _, _, rfl, rfl, zq qp s1, rfl, c1, z2.1, _, _, rfl, rfl, ec1, s1 _ _ (eY z2 (by simp)), (by rw [List.length_map, List.length_map, List.length_append]; omega), fun ce nce => ?_⟩
  rw [← List.map_append]
  have eCL : z0.2 ++ z1.2 ++ z2.2 = ([z0.2, z1.2, z2.2] : List (List Int)).flatten := by simp
  rw [eCL]
  generalize hcells : ([z0.2, z1.2, z2.2] : List (List Int)).flatten = cells
  have s3 : Same H11 (upd H11 ce (.lst (cells.map V.int))) := zg (Same.refl _) nce
  have ece : upd H11 ce (.lst (cells.map V.int)) ce = _ := zf
  generalize upd H11 ce (.lst (cells.map V.int)) = H13 at s3 ece ⊢
  have sA := s1.trans s3
  replace hS := zq hS sA
  replace ele := sA _ _ ele
  replace e0 := sA _ _ e0
  replace e1 := sA _ _ e1
  clear sA s1 s3 ec1 qp eY
  let ρ : Nat → Int := fun j => ((j : Int) - tn) % (3 : Nat)
  refine ⟨_, rfl, by decide, by decide, _, rfl, fun rl nrl => ?_⟩
  have h0 : Hd H13 [(rl, .lst (((List.range 0).map ρ).map V.int))] (upd H13 rl (.lst [])) := Hd.base.new nrl
  generalize upd H13 rl (.lst []) = H1 at h0 ⊢
  refine yN (n := 3) (fun i σ J => ∃ u, σ = [u, some (.int (tn : Int))] ∧ Hd H13 [(rl, .lst (((List.range i).map ρ).map V.int))] J) ⟨none, rfl, h0⟩ ?_ ?_
  · clear h0
    rintro i σ J2 hi ⟨u, rfl, h⟩
    have et : (List.range (i + 1)).map ρ = (List.range i).map ρ ++ [(0 + (i : Int) - tn) % 3] := by
      rw [List.range_succ, List.map_append]
      congr 1
      show [((i : Int) - tn) % (3 : Nat)] = _
      rw [Int.zero_add]; rfl
    refine ⟨_, rfl, _, rfl, _, _, rfl, rfl, _, _, rfl, rfl, (by show (0 : Int) < 3; decide), ?_⟩
    refine ⟨_, h.get 0 rfl, (by rw [List.length_map, List.length_map, List.length_range]; omega), _, rfl, ?_⟩
    rw [et, List.map_append]; exact h.put 0 rfl
  clear h0
  rintro σ H14 ⟨u, rfl, h⟩
  have erl : H14 rl = some (.lst ([ρ 0, ρ 1, ρ 2].map V.int)) := h.get 0 rfl
  have sA := h.sm
  clear h
  replace hS := zq hS sA
  replace ele := sA _ _ ele
  replace ece := sA _ _ ece
  replace e0 := sA _ _ e0
  replace e1 := sA _ _ e1
  clear sA
  let lens : List Int := LN [z0, z1, z2]
  replace ele : H14 le = some (.lst (lens.map V.int)) := ele
  let sv : Int → Int := fun x => (lens.take x.toNat).sum
  have rb : ∀ j : Nat, 0 ≤ ρ j := fun j => Int.emod_nonneg _ (by decide)
  refine ⟨_, rfl, rl, rfl, ⟨_, SqL.of erl⟩, _, rfl, fun sl nsl => ?_⟩
  have h0 : Hd H14 [(sl, .lst (((([ρ 0, ρ 1, ρ 2] : List Int).take 0).map sv).map V.int))] (upd H14 sl (.lst [])) := Hd.base.new nsl
  generalize upd H14 sl (.lst []) = H1 at h0 ⊢
  refine comp_list (K := K) (a := rl) (D := sl) (xs := [ρ 0, ρ 1, ρ 2].map V.int) (fun i σ J => ∃ u, σ = [u, some (.ref le)] ∧ Hd H14 [(sl, .lst (((([ρ 0, ρ 1, ρ 2] : List Int).take i).map sv).map V.int))] J) ⟨none, rfl, h0⟩ (fun i σ J _ ⟨_, _, h1⟩ => SqL.of (h1.sm _ _ erl)) ?_ ?_
  · clear h0
    rintro i y σ J2 hy ⟨u, rfl, h⟩
    obtain ⟨x, e9, rfl⟩ := map_at hy
    have x0 : 0 ≤ x := by
      have := List.mem_of_getElem? e9
      rcases List.mem_cons.mp this with rfl | this
      · exact rb 0
      rcases List.mem_cons.mp this with rfl | this
      · exact rb 1
      cases List.mem_singleton.mp this
      exact rb 2
    have et : (([ρ 0, ρ 1, ρ 2] : List Int).take (i + 1)).map sv = (([ρ 0, ρ 1, ρ 2] : List Int).take i).map sv ++ [sv x] := by rw [List.take_add_one, e9, List.map_append]; rfl
    refine ⟨_, rfl, _, rfl, x, rfl, le, _, rfl, SqL.of (h.sm _ _ ele), fun l nl => ?_⟩
    rw [cutV_take x0]
    refine ⟨l, _, rfl, SqL.of zf, ?_⟩
    have h := h.waste (o := .lst ((lens.take x.toNat).map V.int)) nl
    generalize upd J2 l (.lst ((lens.take x.toNat).map V.int)) = J3 at h ⊢
    refine ⟨_, h.get 0 rfl, (by rw [List.length_map, List.length_map, List.length_take]; show min i 3 < _; omega), _, rfl, ?_⟩
    rw [et, List.map_append]; exact h.put 0 rfl
  clear h0
  rintro σ H15 ⟨u, rfl, h⟩
  have esl : H15 sl = some (.lst ([sv (ρ 0), sv (ρ 1), sv (ρ 2)].map V.int)) := h.get 0 rfl
  have sA := h.sm
  clear h
  replace hS := zq hS sA
  replace ele := sA _ _ ele
  replace ece := sA _ _ ece
  replace erl := sA _ _ erl
  replace e0 := sA _ _ e0
  replace e1 := sA _ _ e1
  clear sA
  refine ⟨fun σ J => ∃ Ln : Nat, σ = [some (.ref a), some (.int (mn : Int)), some (.int (tn : Int)), some (.ref x1), none, some (.bl wild), some (.ref x0), none, some (.ref pa), some (.ref le), none, some (.ref ce), some (.ref rl), some (.ref sl), none, some (.int (Ln : Int)), none, none, none, none, none, none, none, none, none, none, none, none, none] ∧ J = H15 ∧ 1 ≤ Ln ∧ Ln ≤ 64, ?_, ?_⟩
  · refine ⟨_, rfl, a, ns, 2, rfl, hS, by decide, _, rfl, fun L b1' b2' => ?_⟩
    obtain ⟨Ln, rfl⟩ : ∃ n : Nat, L = n := ⟨L.toNat, by omega⟩
    exact ⟨Ln, rfl, rfl, by omega, by omega⟩
  rintro _ H15 ⟨Ln, rfl, rfl, b1', b2'⟩
  refine ⟨_, rfl, a, ns, 2, 1, rfl, hS, by decide, by decide, by decide, by decide, fun gg H16 sA hg => ?_⟩
  replace hS := zq hS sA
  replace ele := sA _ _ ele
  replace ece := sA _ _ ece
  replace erl := sA _ _ erl
  replace esl := sA _ _ esl
  replace e0 := sA _ _ e0
  replace e1 := sA _ _ e1
  clear sA
  obtain ⟨m8, e8, m81, m82⟩ : ∃ m8 : Int, (8 : Int).fdiv gg = m8 ∧ 2 ≤ m8 ∧ m8 * gg ≤ 8 := by rcases hg with e | e | e <;> subst e <;> exact ⟨_, rfl, by decide, by decide⟩
  have gb : 1 ≤ gg * (Ln : Int) ∧ gg * (Ln : Int) ≤ 256 := by rcases hg with e | e | e <;> rw [e] <;> omega
  have g1 : 1 ≤ gg ∧ gg ≤ 4 := by omega
  refine ⟨_, rfl, _, rfl, _, _, rfl, rfl, ⟨by omega, by omega, by omega⟩, a, ns, 2, 2, m8, (by rw [← e8]; rfl), hS, by decide, by decide, by decide, by decide, by omega, fun seat _ seat0 seat1 => ?_⟩
  obtain ⟨p, rfl⟩ : ∃ n : Nat, seat = n := ⟨seat.toNat, by omega⟩
  refine ⟨_, rfl, _, rfl, _, _, rfl, rfl, ⟨by omega, by omega, by omega⟩, a, ns, 2, 3, m8, (by rw [← e8]; rfl), hS, by decide, by decide, by decide, by decide, by omega, fun seat _ qs0 qs1 => ?_⟩
  obtain ⟨q, rfl⟩ : ∃ n : Nat, seat = n := ⟨seat.toNat, by omega⟩
  have p8 : ((p : Int) + 1) * gg ≤ 8 := by
    have e1 : ((p : Int) + 1) * gg ≤ m8 * gg := Int.mul_le_mul_of_nonneg_right (by omega) (by omega)
    omega
  have q8 : ((q : Int) + 1) * gg ≤ 8 := by
    have e1 : ((q : Int) + 1) * gg ≤ m8 * gg := Int.mul_le_mul_of_nonneg_right (by omega) (by omega)
    omega
  refine ⟨_, rfl, a, ns, 2, 4, 4, rfl, hS, by decide, by decide, by decide, by decide, by decide, fun trr _ _ _ => ⟨_, _, rfl, rfl, ?_⟩⟩
  refine ⟨_, rfl, a, ns, 2, 5, 4, rfl, hS, by decide, by decide, by decide, by decide, by decide, fun spr _ _ _ => ⟨_, _, rfl, rfl, ?_⟩⟩
  refine ⟨fun σ J => ∃ (tr sp : Bool) (n : Int), σ = [some (.ref a), some (.int (mn : Int)), some (.int (tn : Int)), some (.ref x1), none, some (.bl wild), some (.ref x0), none, some (.ref pa), some (.ref le), none, some (.ref ce), some (.ref rl), some (.ref sl), none, some (.int (Ln : Int)), some (.int gg), some (.int (p : Int)), some (.int (q : Int)), some (.bl tr), some (.bl sp), some (.int n), none, none, none, none, none, none, none] ∧ J = H16, ?_, ?_⟩
  · refine ⟨_, rfl, a, ns, 2, 6, 1000, rfl, hS, by decide, by decide, by decide, by decide, by decide, fun n _ _ _ => ?_⟩
    exact ⟨_, _, n, rfl, rfl⟩
  rintro _ H16 ⟨tr, sp, n, rfl, rfl⟩
  obtain ⟨r0, r1, r2, hr0, hr1, hr2, ⟨R0, R1, R2⟩, en1, ft, srcs⟩ := rows_ok (zs := [z0, z1, z2]) rfl tn3 rot l0 l2'.1
  have erl : H16 rl = some (.lst ([(r0 : Int), r1, r2].map V.int)) := by rw [← hr0, ← hr1, ← hr2]; exact erl
  have esl : H16 sl = some (.lst ([(lens.take r0).sum, (lens.take r1).sum, (lens.take r2).sum].map V.int)) := by
    have := esl
    have q0 : ρ 0 = r0 := hr0
    have q1 : ρ 1 = r1 := hr1
    have q2 : ρ 2 = r2 := hr2
    rw [q0, q1, q2] at this
    exact this
  have cl60 : cells.length ≤ 240 := by
    rw [← hcells, ← eCL, List.length_append, List.length_append]; omega
  have ft : (gwOf (lens.take r0).sum (lens.take r1).sum (lens.take r2).sum pls src).Fit mn cells.length := by rw [← hcells]; exact ft
  have srcs : (gwOf (lens.take r0).sum (lens.take r1).sum (lens.take r2).sum pls src).Src mn cells := by rw [← hcells]; exact srcs
  have en1 : lens.getD r1 0 = src.length := en1
  have n0' : (mn : Int) = pls.length := by rw [l0]
  clear rot rb hr0 hr1 hr2 l0 l1 l2 l2' hcells eCL b0 b1 b2 lB lY qs0 qs1 seat0 seat1 m82 m81 e8 r10 r11 tn3
  generalize hR : gwOf (lens.take r0).sum (lens.take r1).sum (lens.take r2).sum pls src = R at ft srcs
  have hRn : R.n = src.length := by rw [← hR]; rfl
  have hR0 : R.s0 = (lens.take r0).sum := by rw [← hR]; rfl
  have hR1 : R.s1 = (lens.take r1).sum := by rw [← hR]; rfl
  have hR2 : R.s2 = (lens.take r2).sum := by rw [← hR]; rfl
  have ll3 : lens.length = 3 := rfl
  generalize hlz : lens = LZ at *
  refine ⟨_, rfl, _, rfl, (sz 3), fun t0 nt0 => ?_⟩
  have cA : Same H16 (upd H16 t0 (.tup [.str "begin", .int (mn : Int), .int gg])) := zg (Same.refl _) nt0
  have et0 : upd H16 t0 (.tup [.str "begin", .int (mn : Int), .int gg]) t0 = _ := zf
  generalize upd H16 t0 (.tup [.str "begin", .int (mn : Int), .int gg]) = G1 at cA et0 ⊢
  refine ⟨_, rfl, _, rfl, rl, _, _, _, rfl, rfl, SqL.of (cA _ _ erl), rfl, (sz 4), fun t1 nt1 => ?_⟩
  have d2 : Same G1 (upd G1 t1 (.tup [.str "load", .int (q : Int), .int (r0 : Int), .int 0])) := zg (Same.refl _) nt1
  have et1 : upd G1 t1 (.tup [.str "load", .int (q : Int), .int (r0 : Int), .int 0]) t1 = _ := zf
  generalize upd G1 t1 (.tup [.str "load", .int (q : Int), .int (r0 : Int), .int 0]) = G2 at d2 et1 ⊢
  replace cA := cA.trans d2
  refine ⟨_, rfl, _, rfl, _, rfl, rl, _, _, _, rfl, rfl, SqL.of (cA _ _ erl), rfl, (sz 5), fun t2 nt2 => ?_⟩
  have d3 : Same G2 (upd G2 t2 (.tup [.str "gather", .int (p : Int), .int (q : Int), .int (r1 : Int), .int 0])) := zg (Same.refl _) nt2
  have et2 : upd G2 t2 (.tup [.str "gather", .int (p : Int), .int (q : Int), .int (r1 : Int), .int 0]) t2 = _ := zf
  generalize upd G2 t2 (.tup [.str "gather", .int (p : Int), .int (q : Int), .int (r1 : Int), .int 0]) = G3 at d3 et2 ⊢
  replace cA := cA.trans d3
  replace et1 := d3 _ _ et1
  replace et0 := (d2.trans d3) _ _ et0
  clear d2 d3
  refine ⟨(sz 3), fun c3 nc3 => ?_⟩
  have dA : Same G3 (upd G3 c3 (.lst [.ref t0, .ref t1, .ref t2])) := zg (Same.refl _) nc3
  have ec3 : upd G3 c3 (.lst [.ref t0, .ref t1, .ref t2]) c3 = _ := zf
  generalize upd G3 c3 (.lst [.ref t0, .ref t1, .ref t2]) = G4 at dA ec3 ⊢
  refine ⟨(sz 1), fun t3 nt3 => ?_⟩
  have d5 : Same G4 (upd G4 t3 (.tup [.str "trim"])) := zg (Same.refl _) nt3
  have et3 : upd G4 t3 (.tup [.str "trim"]) t3 = _ := zf
  generalize upd G4 t3 (.tup [.str "trim"]) = G5 at d5 et3 ⊢
  refine ⟨(sz 1), fun c4 nc4 => ?_⟩
  have d6 : Same G5 (upd G5 c4 (.lst [.ref t3])) := zg (Same.refl _) nc4
  have ec4 : upd G5 c4 (.lst [.ref t3]) c4 = _ := zf
  generalize upd G5 c4 (.lst [.ref t3]) = G6 at d6 ec4 ⊢
  refine ⟨_, rfl, .inr ⟨_, rfl, c4, _, _, rfl, rfl, ec4, (by cases tr <;> decide), (by cases tr <;> decide), (by cases tr <;> exact Nat.le_trans (m := 10) (Nat.le_of_ble_eq_true rfl) (sz 10)), fun c5 nc5 => ?_⟩⟩
  have erep : (List.replicate (if tr = true then (1 : Int) else 0).toNat [V.ref t3]).flatten = (if tr = true then [t3] else []).map V.ref := by cases tr <;> rfl
  rw [erep]
  have d7 : Same G6 (upd G6 c5 (.lst ((if tr = true then [t3] else []).map V.ref))) := zg (Same.refl _) nc5
  have ec5 : upd G6 c5 (.lst ((if tr = true then [t3] else []).map V.ref)) c5 = _ := zf
  generalize upd G6 c5 (.lst ((if tr = true then [t3] else []).map V.ref)) = G7 at d7 ec5 ⊢
  have d57 := (d5.trans d6).trans d7
  refine ⟨c3, c5, _, _, rfl, rfl, d57 _ _ ec3, ec5, (by cases tr <;> exact Nat.le_trans (m := 10) (Nat.le_of_ble_eq_true rfl) (sz 10)), fun cd ncd => ?_⟩
  let X1 : List Addr := [t0, t1, t2] ++ (if tr = true then [t3] else [])
  have eX1 : [V.ref t0, .ref t1, .ref t2] ++ (if tr = true then [t3] else []).map V.ref = X1.map V.ref := by cases tr <;> rfl
  rw [eX1]
  have d8 : Same G7 (upd G7 cd (.lst (X1.map V.ref))) := zg (Same.refl _) ncd
  have ecd : upd G7 cd (.lst (X1.map V.ref)) cd = _ := zf
  generalize upd G7 cd (.lst (X1.map V.ref)) = G8 at d8 ecd ⊢
  replace et3 := ((d6.trans d7).trans d8) _ _ et3
  have d48 := (dA.trans d57).trans d8
  replace cA := cA.trans d48
  replace et0 := d48 _ _ et0
  replace et1 := d48 _ _ et1
  replace et2 := d48 _ _ et2
  clear d5 d6 d7 d8 d57 d48 dA ec3 ec4 ec5 erep
  refine ⟨_, rfl, _, rfl, rl, _, _, _, rfl, rfl, SqL.of (cA _ _ erl), rfl, _, rfl, (sz 4), fun t4 nt4 => ?_⟩
  have d1 : Same G8 (upd G8 t4 (.tup [.str "store", .int (r2 : Int), .int (p : Int), .int 0])) := zg (Same.refl _) nt4
  have et4 : upd G8 t4 (.tup [.str "store", .int (r2 : Int), .int (p : Int), .int 0]) t4 = _ := zf
  generalize upd G8 t4 (.tup [.str "store", .int (r2 : Int), .int (p : Int), .int 0]) = G9 at d1 et4 ⊢
  refine ⟨(sz 1), fun c6 nc6 => ?_⟩
  have d2 : Same G9 (upd G9 c6 (.lst [.ref t4])) := zg (Same.refl _) nc6
  have ec6 : upd G9 c6 (.lst [.ref t4]) c6 = _ := zf
  generalize upd G9 c6 (.lst [.ref t4]) = G10 at d2 ec6 ⊢
  refine ⟨cd, c6, _, _, rfl, rfl, (d1.trans d2) _ _ ecd, ec6, (by cases tr <;> exact Nat.le_trans (m := 10) (Nat.le_of_ble_eq_true rfl) (sz 10)), fun c7 nc7 => ?_⟩
  let X2 : List Addr := X1 ++ [t4]
  have eX2 : X1.map V.ref ++ [V.ref t4] = X2.map V.ref := (List.map_append (f := V.ref) (l₁ := X1) (l₂ := [t4])).symm
  rw [eX2]
  have d3 : Same G10 (upd G10 c7 (.lst (X2.map V.ref))) := zg (Same.refl _) nc7
  have ec7 : upd G10 c7 (.lst (X2.map V.ref)) c7 = _ := zf
  generalize upd G10 c7 (.lst (X2.map V.ref)) = G11 at d3 ec7 ⊢
  refine ⟨_, rfl, (sz 2), fun t5 nt5 => ?_⟩
  have d4 : Same G11 (upd G11 t5 (.tup [.str "stop", .int n])) := zg (Same.refl _) nt5
  have et5 : upd G11 t5 (.tup [.str "stop", .int n]) t5 = _ := zf
  generalize upd G11 t5 (.tup [.str "stop", .int n]) = G12 at d4 et5 ⊢
  refine ⟨(sz 1), fun c8 nc8 => ?_⟩
  have d5 : Same G12 (upd G12 c8 (.lst [.ref t5])) := zg (Same.refl _) nc8
  have ec8 : upd G12 c8 (.lst [.ref t5]) c8 = _ := zf
  generalize upd G12 c8 (.lst [.ref t5]) = G13 at d5 ec8 ⊢
  refine ⟨_, rfl, .inr ⟨_, rfl, c8, _, _, rfl, rfl, ec8, (by cases sp <;> decide), (by cases sp <;> decide), (by cases sp <;> exact Nat.le_trans (m := 10) (Nat.le_of_ble_eq_true rfl) (sz 10)), fun c9 nc9 => ?_⟩⟩
  have erep : (List.replicate (if sp = true then (1 : Int) else 0).toNat [V.ref t5]).flatten = (if sp = true then [t5] else []).map V.ref := by cases sp <;> rfl
  rw [erep]
  have d6 : Same G13 (upd G13 c9 (.lst ((if sp = true then [t5] else []).map V.ref))) := zg (Same.refl _) nc9
  have ec9 : upd G13 c9 (.lst ((if sp = true then [t5] else []).map V.ref)) c9 = _ := zf
  generalize upd G13 c9 (.lst ((if sp = true then [t5] else []).map V.ref)) = G14 at d6 ec9 ⊢
  refine ⟨c7, c9, _, _, rfl, rfl, ((d4.trans d5).trans d6) _ _ ec7, ec9, (by cases tr <;> cases sp <;> exact Nat.le_trans (m := 10) (Nat.le_of_ble_eq_true rfl) (sz 10)), fun c10 nc10 => ?_⟩
  let X3 : List Addr := X2 ++ (if sp = true then [t5] else [])
  have eX3 : X2.map V.ref ++ (if sp = true then [t5] else []).map V.ref = X3.map V.ref := (List.map_append (f := V.ref) (l₁ := X2)).symm
  rw [eX3]
  have d7 : Same G14 (upd G14 c10 (.lst (X3.map V.ref))) := zg (Same.refl _) nc10
  have ec10 : upd G14 c10 (.lst (X3.map V.ref)) c10 = _ := zf
  generalize upd G14 c10 (.lst (X3.map V.ref)) = G15 at d7 ec10 ⊢
  refine ⟨(sz 1), fun t6 nt6 => ?_⟩
  have d8 : Same G15 (upd G15 t6 (.tup [.str "next"])) := zg (Same.refl _) nt6
  have et6 : upd G15 t6 (.tup [.str "next"]) t6 = _ := zf
  generalize upd G15 t6 (.tup [.str "next"]) = G16 at d8 et6 ⊢
  refine ⟨(sz 1), fun c11 nc11 => ?_⟩
  have d9 : Same G16 (upd G16 c11 (.lst [.ref t6])) := zg (Same.refl _) nc11
  have ec11 : upd G16 c11 (.lst [.ref t6]) c11 = _ := zf
  generalize upd G16 c11 (.lst [.ref t6]) = G17 at d9 ec11 ⊢
  refine ⟨c10, c11, _, _, rfl, rfl, (d8.trans d9) _ _ ec10, ec11, (by cases tr <;> cases sp <;> exact Nat.le_trans (m := 10) (Nat.le_of_ble_eq_true rfl) (sz 10)), fun cd3 ncd3 => ?_⟩
  let cs : List Addr := X3 ++ [t6]
  have eX4 : X3.map V.ref ++ [V.ref t6] = cs.map V.ref := (List.map_append (f := V.ref) (l₁ := X3) (l₂ := [t6])).symm
  rw [eX4]
  have d10 : Same G17 (upd G17 cd3 (.lst (cs.map V.ref))) := zg (Same.refl _) ncd3
  have ecd3 : upd G17 cd3 (.lst (cs.map V.ref)) cd3 = _ := zf
  generalize upd G17 cd3 (.lst (cs.map V.ref)) = G at d10 ecd3 ⊢
  have q9 := d9.trans d10
  have q8' := d8.trans q9
  have q5 := ((d5.trans d6).trans d7).trans q8'
  have q2 := ((d2.trans d3).trans d4).trans q5
  have q1 := d1.trans q2
  replace cA := cA.trans q1
  let code : List (List V) := [.str "begin", .int (mn : Int), .int gg] :: (yu tr sp p q r0 r1 r2 n ++ [[.str "next"]])
  have CAG : CodeAt G cs code := code_body (q1 _ _ et0) (q1 _ _ et1) (q1 _ _ et2) (q1 _ _ et3) (q2 _ _ et4) (q5 _ _ et5) (q9 _ _ et6)
  clear d1 d2 d3 d4 d5 d6 d7 d8 d9 d10 q9 q8' q5 q2 q1 ec6 ec7 ec8 ec9 ec10 ec11 et0 et1 et2 et3 et4 et5 et6 ecd erep
  replace hS := zq hS cA
  replace ele := cA _ _ ele
  replace ece := cA _ _ ece
  replace esl := cA _ _ esl
  replace e0 := cA _ _ e0
  replace e1 := cA _ _ e1
  clear cA erl
  have hpl : ∀ tv ∈ code, Plain tv := code_plain
  have cl : code.length ≤ 10 := by
    show (yu tr sp p q r0 r1 r2 n ++ [[V.str "next"]]).length + 1 ≤ 10
    rw [List.length_append]
    have := code_len (tr := tr) (sp := sp) (p := p) (q := q) (r0 := r0) (r1 := r1) (r2 := r2) (n := n)
    show _ + 1 + 1 ≤ 10
    omega
  refine ⟨_, rfl, ce, _, rfl, .inl (SqL.of ece), fun dd ndd => ?_⟩
  have hB1 : Hd G [(dd, .lst (cells.map V.int))] (upd G dd (.lst (cells.map V.int))) := Hd.base.new ndd
  generalize upd G dd (.lst (cells.map V.int)) = G1 at hB1 ⊢
  refine ⟨(sz 0), fun tt ntt => ?_⟩
  have hB2 : Hd G [(dd, .lst (cells.map V.int)), (tt, .lst (([] : List Addr).map V.ref))] (upd G1 tt (.lst [])) := hB1.fnew ntt
  generalize upd G1 tt (.lst []) = G2 at hB2 ⊢
  clear hB1
  obtain ⟨Nn, eN, hN⟩ := size_iff (show (1 : Int) ≤ mn by omega) gb.1
  let U : Nat → DT := upG (R.one mn (gg * (Ln : Int)) tr) (gg * (Ln : Int)) (cells, [])
  let bad : Nat → Option (Int × Int × Str) := fun i => R.bad mn (gg * (Ln : Int)) tr sp n (i * (gg * (Ln : Int)))
  refine ⟨fun σ J => ∃ (rv : V) (u26 u27 u28 : Option V) (B3 : Hp) (ts3 : List Addr), σ = [some (.ref a), some (.int (mn : Int)), some (.int (tn : Int)), some (.ref x1), none, some (.bl wild), some (.ref x0), none, some (.ref pa), some (.ref le), none, some (.ref ce), some (.ref rl), some (.ref sl), none, some (.int (Ln : Int)), some (.int gg), some (.int (p : Int)), some (.int (q : Int)), some (.bl tr), some (.bl sp), some (.int n), some (.ref cd3), some (.ref dd), some (.ref tt), some rv, u26, u27, u28] ∧ Same G B3 ∧ Hd B3 [(dd, .lst ((U (ends bad Nn).1).1.map V.int)), (tt, .lst (ts3.map V.ref))] J ∧ TAt B3 ts3 (U (ends bad Nn).1).2 ∧ RfAt B3 rv (ends bad Nn).2, ?_, ?_⟩
  · refine ⟨_, rfl, _, rfl, _, rfl, _, _, rfl, rfl, .inl ⟨by omega, by omega⟩, 0, mn, gg * (Ln : Int), Nn, rfl, ⟨by decide, by decide, by omega, by omega, by omega, by omega⟩, eN, ?_⟩
    refine for_step (n := Nn) (fun j σ J => ∃ (u26 u27 u28 : Option V) (B3 : Hp) (ts3 : List Addr), σ = [some (.ref a), some (.int (mn : Int)), some (.int (tn : Int)), some (.ref x1), none, some (.bl wild), some (.ref x0), none, some (.ref pa), some (.ref le), none, some (.ref ce), some (.ref rl), some (.ref sl), none, some (.int (Ln : Int)), some (.int gg), some (.int (p : Int)), some (.int (q : Int)), some (.bl tr), some (.bl sp), some (.int n), some (.ref cd3), some (.ref dd), some (.ref tt), some .non, u26, u27, u28] ∧ Same G B3 ∧ Hd B3 [(dd, .lst ((U j).1.map V.int)), (tt, .lst (ts3.map V.ref))] J ∧ TAt B3 ts3 (U j).2 ∧ (U j).1.length = cells.length ∧ ((U j).2.length : Int) ≤ 3 * min (mn : Int) (j * (gg * (Ln : Int))) ∧ ∀ i, i < j → bad i = none) ⟨_, _, _, G, [], rfl, Same.refl _, hB2, ⟨rfl, fun i b t x => by cases x⟩, rfl, (by show (0 : Int) ≤ _; rw [show ((0 : Nat) : Int) * (gg * Ln) = 0 by omega]; omega), fun i hi => by omega⟩ ?_ ?_
    · rintro j σ J hj ⟨u26, u27, u28, B3, ts3, rfl, sB3, hD3, ta3, ul1, ul2, nb⟩
      have hjb := (hN j).mp hj
      have jb0 : (0 : Int) ≤ j * (gg * Ln) := Int.mul_nonneg (by omega) (by omega)
      have sc : ((j + 1 : Nat) : Int) * (gg * Ln) = j * (gg * Ln) + gg * Ln := by rw [Int.natCast_add, Int.add_mul]; show _ + 1 * (gg * (Ln : Int)) = _; rw [Int.one_mul]
      have eU : U (j + 1) = R.one mn (gg * (Ln : Int)) tr (j * (gg * Ln)) (U j) := yW _ _ _ _
      have hbj : bad j = R.bad mn (gg * (Ln : Int)) tr sp n (j * (gg * (Ln : Int))) := rfl
      have endJ : ∀ r, bad j = some r → ends bad Nn = (j + 1, some r) := fun r hr => ends_at hj hr nb
      have nbS : bad j = none → ∀ i, i < j + 1 → bad i = none := fun z i hi => by
        rcases Nat.lt_or_eq_of_le (Nat.le_of_lt_succ hi) with y | y
        · exact nb i y
        · rw [y]; exact z
      have fin : ∀ r, bad j = some r → (U (ends bad Nn).1) = R.one mn (gg * (Ln : Int)) tr (j * (gg * Ln)) (U j) ∧ (ends bad Nn).2 = some r := fun r hr => by rw [endJ r hr]; exact ⟨eU, rfl⟩
      clear_value bad
      rw [eU, sc]
      rw [Int.zero_add]
      generalize U j = S1 at *
      generalize U (ends bad Nn).1 = SE at *
      obtain ⟨d1, T1⟩ := S1
      generalize (j : Int) * (gg * Ln) = b at *
      have ul1 : d1.length = cells.length := ul1
      have ul2 : (T1.length : Int) ≤ 3 * min (mn : Int) b := ul2
      have wb : (wid mn (gg * Ln) b : Int) = min (mn : Int) (b + gg * Ln) - b := by unfold wid; omega
      have wn' : (if gg * (Ln : Int) < (mn : Int) - b then gg * (Ln : Int) else (mn : Int) - b) = (wid mn (gg * Ln) b : Nat) := by split <;> omega
      refine ⟨_, rfl, _, rfl, _, _, rfl, rfl, _, rfl, _, rfl, _, _, rfl, rfl, .inl ⟨by omega, by omega⟩, _, _, rfl, ?_⟩
      rw [wn']
      refine ⟨_, rfl, _, rfl, _, rfl, _, rfl, _, rfl, _, rfl, _, rfl, _, rfl, B3, x0, x1, sl, dd, tt, ts3, pls, src, d1, T1, (LZ.take r0).sum, (LZ.take r1).sum, (LZ.take r2).sum, mn, gg * (Ln : Int), b, tr, rfl, hD3, SqL.of (sB3 _ _ e0), SqL.of (sB3 _ _ e1), SqL.of (sB3 _ _ esl), ta3, n0', jb0, hjb, by omega, (by rw [ul1, hR]; exact ft), by omega, by omega, fun B5 J5 ts5 s5 hD5 ta5 => ?_⟩
      rw [hR] at hD5 ta5 ⊢
      have l2' := R.st_len mn (gg * Ln) b tr
      have el' := elems_len mn (gg * Ln) b
      have gl' : ((elems mn (gg * Ln) b).filter R.good).length ≤ wid mn (gg * Ln) b := by rw [← el']; exact List.length_filter_le _ _
      have ul1' : (R.one mn (gg * (Ln : Int)) tr b (d1, T1)).1.length = cells.length := (setAll_len _ _).trans ul1
      have ul2' : ((R.one mn (gg * (Ln : Int)) tr b (d1, T1)).2.length : Int) ≤ 3 * min (mn : Int) (b + gg * Ln) := by
        show ((T1 ++ _ ++ _ ++ _).length : Int) ≤ _
        rw [List.length_append, List.length_append, List.length_append, List.length_map, List.length_map, List.length_map]
        omega
      refine ⟨_, rfl, _, rfl, _, _, rfl, rfl, _, rfl, ?_⟩
      by_cases z : R.cut mn (gg * (Ln : Int)) tr b < wid mn (gg * Ln) b
      · rw [decide_eq_true (show ((R.cut mn (gg * (Ln : Int)) tr b : Nat) : Int) < (wid mn (gg * Ln) b : Nat) by omega)]
        cases sp with
        | false =>
          refine iteT ⟨_, rfl, _, rfl, yn (yn ?_)⟩
          exact ⟨_, _, _, B5, ts5, rfl, sB3.trans s5, hD5, ta5, ul1', ul2', nbS (by rw [hbj]; exact if_neg (fun y => by cases y.1))⟩
        | true =>
          obtain ⟨f1, f2⟩ := fin _ (show bad j = some (n, b + (R.cut mn (gg * (Ln : Int)) tr b : Nat), ("outside" : Str)) by rw [hbj]; exact if_pos ⟨rfl, z⟩)
          refine iteT ⟨_, rfl, _, rfl, iteT ⟨_, rfl, rfl, true, congrArg V.bl (decide_eq_true rfl), iteT ?_⟩⟩
          refine ⟨_, rfl, _, rfl, _, rfl, _, _, rfl, rfl, (sz 3), fun t nt => ?_⟩
          have s6 : Same B5 (upd B5 t (.tup [.int n, .int (b + (R.cut mn (gg * (Ln : Int)) tr b : Nat)), .str "outside"])) := zg (Same.refl _) (hD5.free nt)
          have h6 := hD5.grow (o := .tup [.int n, .int (b + (R.cut mn (gg * (Ln : Int)) tr b : Nat)), .str "outside"]) nt
          refine ⟨.ref t, _, _, _, _, ts5, rfl, (sB3.trans s5).trans s6, ?_, ?_, ?_⟩
          · rw [f1]; exact h6
          · rw [f1]; exact ta5.same s6
          · rw [f2]; exact ⟨t, rfl, zf⟩
      · rw [decide_eq_false (show ¬ ((R.cut mn (gg * (Ln : Int)) tr b : Nat) : Int) < (wid mn (gg * Ln) b : Nat) by omega)]
        refine yn (yn ?_)
        exact ⟨_, _, _, B5, ts5, rfl, sB3.trans s5, hD5, ta5, ul1', ul2', nbS (by rw [hbj]; exact if_neg (fun y => z y.2))⟩
    · rintro σ J ⟨u26, u27, u28, B3, ts3, rfl, sB3, hD3, ta3, ul1, ul2, nb⟩
      have e := ends_none nb
      rw [e]
      exact ⟨_, u26, u27, u28, B3, ts3, rfl, sB3, hD3, ta3, rfl⟩
  clear hB2
  rintro σ J1 ⟨rv, u26, u27, u28, B1, ts, rfl, sB1, hD, ta, er⟩
  have sJ : Same G J1 := sB1.trans hD.sm
  refine ⟨_, rfl, _, rfl, _, rfl, _, rfl, _, rfl, a, ns, 9, 7, rfl, zq hS sJ, by decide, by decide, by decide, by decide, fun J2 du dus ld hdu => ?_⟩
  have sJ2 : Same J1 J2 := hdu.sm
  have rest0 : RestAt (zk LZ) LZ Ln 0 (cells, []) (Mc.fresh LZ cells Ln dus []) := ⟨⟨by show 1 ≤ Ln; omega, by show Ln ≤ 64; omega, List.length_replicate, List.length_replicate, fun m hm => by rw [List.eq_of_mem_replicate hm]; exact List.length_replicate⟩, rfl, rfl, rfl, rfl, rfl, rfl, rfl⟩
  have sl3 : (zk LZ).length = 3 := (starts_len LZ).trans ll3
  obtain ⟨kk, M, st1, rf', ce', to', pc'⟩ := round_ga (code := code) (R := R) (tr := tr) (sp := sp) (n := n) (p := p) (q := q) (r0 := r0) (r1 := r1) (r2 := r2) (N := Nn) rest0 hg (by omega) p8 q8 ⟨by rw [sl3]; exact R0, by rw [sl3]; exact R1, by rw [sl3]; exact R2⟩ (starts_len LZ).symm (by rw [hR0]; exact starts_at (by rw [ll3]; exact R0)) (by rw [hR1]; exact starts_at (by rw [ll3]; exact R1)) (by rw [hR2]; exact starts_at (by rw [ll3]; exact R2)) (by rw [en1, hRn]) ft srcs (by show ((0 : Nat) : Int) + 3 * (mn : Int) < 90000; omega) hN rfl (fun i tv hi => by
      rw [Nat.add_comm]
      show (yu tr sp p q r0 r1 r2 n ++ [[V.str "next"]])[i]? = _
      rw [List.getElem?_append_left (List.getElem?_eq_some_iff.mp hi).1]; exact hi) (by
      show (yu tr sp p q r0 r1 r2 n ++ [[V.str "next"]])[(yu tr sp p q r0 r1 r2 n).length]? = _
      rw [List.getElem?_append_right (Nat.le_refl _), Nat.sub_self]; rfl)
  have lc : code.length = (yu tr sp p q r0 r1 r2 n).length + 2 := by
    show (yu tr sp p q r0 r1 r2 n ++ [[V.str "next"]]).length + 1 = _
    rw [List.length_append]; rfl
  have dn : (code.length : Int) ≤ M.pc ∨ M.refusal.isSome = true := by
    cases e : (ends bad Nn).2 with
    | none => left; rw [pc' e, lc]; exact Int.le_refl _
    | some r => right; rw [rf']; show (ends bad Nn).2.isSome = true; rw [e]; rfl
  refine ⟨(sz 0), fun pk npk => ?_⟩
  have s3 : Same J2 (upd J2 pk (.lst [])) := zg (Same.refl _) npk
  have epk : upd J2 pk (.lst []) pk = some (.lst (([] : List Int).map V.int)) := zf
  generalize upd J2 pk (.lst []) = J3 at s3 epk ⊢
  have s13 : Same J1 J3 := sJ2.trans s3
  have s63 : Same G J3 := sJ.trans s13
  refine ⟨cd3, le, ce, du, pk, cs, code, LZ, cells, dus, [], Ln, kk, M, rfl, SqL.of (s63 _ _ ecd3), ⟨CAG.n, fun t b tv x y => s63 _ _ (CAG.t t b tv x y)⟩, hpl, SqL.of (s63 _ _ ele), SqL.of (s63 _ _ ece), SqL.of (s3 _ _ (hdu.get 0 rfl)), SqL.of epk, by omega, by omega, by rw [ll3]; decide, by omega, st1.run dn, fun B9 A9 H9 t s9 m9 et => ?_⟩
  refine ⟨_, rfl, _, rfl, _, rfl, (sz 3), fun t2 nt2 => ?_⟩
  have m10 := m9.grow (o := .tup [.ref dd, rv, .ref tt]) nt2
  have s10 : Same B9 (upd B9 t2 (.tup [.ref dd, rv, .ref tt])) := zg (Same.refl _) (m9.h.free nt2)
  have et2 : upd B9 t2 (.tup [.ref dd, rv, .ref tt]) t2 = some (.tup [.ref dd, rv, .ref tt]) := zf
  generalize upd B9 t2 (.tup [.ref dd, rv, .ref tt]) = B10 at m10 s10 et2
  generalize upd H9 t2 (.tup [.ref dd, rv, .ref tt]) = H10 at m10 ⊢
  have sG : Same J1 H10 := ((s13.trans s9).trans s10).trans m10.h.sm
  exact ⟨_, _, rfl, lk_told2 m10 (m10.h.sm _ _ (s10 _ _ et)) (m10.h.sm _ _ et2) rf' (er.same (hD.sm.trans sG)) ce' to' (sG _ _ (hD.get 0 rfl)) (sG _ _ (hD.get 1 rfl)) (ta.same (hD.sm.trans sG)), fun H11 s11 => k _⟩
end
end K35
namespace K35
open PySem L2
theorem all_mk {l : PySem.W.OpenLaw} {w : World} {K : PySem.W.Frag} {h : Heap} {mg : Str → Option Value} {fa f_15 f_13 f_11 f_12 f_g f_y f_v f_t f_u f_s f_10 f_x f_z f_w f_14 f_i f_p f_m f_h f_l f_k f_j f_o f_n f_q f_r f_a f_d f_b f_c f_e f_f f_2 f_6 f_1 f_0 f_5 f_4 f_3 f_8 f_7 f_9 C_Boxes C_Feed C_Bench : Addr} {TS TE TW f_numbers_written f_numbers_of_here f_numbers_spread f_numbers_shifted f_numbers_joined f_numbers_picked f_numbers_copied f_numbers_brought f_play_reach f_play_choose f_play_other f_play_save f_play_put f_play_fold f_play_running f_play_any f_play_turns f_play_quiet f_play_till : Addr} {tB tM tN : Tok} {esS esE esW : Array DictEntry} {nS nE nW : Nat} {od_15 an_15 od_13 an_13 od_11 an_11 od_12 an_12 od_g an_g od_y an_y od_v an_v od_t an_t od_u an_u od_s an_s od_10 an_10 od_x an_x od_z an_z od_w an_w od_14 an_14 od_i an_i od_p an_p od_m an_m od_h an_h od_l an_l od_k an_k od_j an_j od_o an_o od_n an_n od_q an_q od_r an_r od_a an_a od_d an_d od_b an_b od_c an_c od_e an_e od_f an_f od_2 an_2 od_6 an_6 od_1 an_1 od_0 an_0 od_5 an_5 od_4 an_4 od_3 an_3 od_8 an_8 od_7 an_7 od_9 an_9 : Option Addr} {sl_15 sl_13 sl_11 sl_12 sl_g sl_y sl_v sl_t sl_u sl_s sl_10 sl_x sl_z sl_w sl_14 sl_i sl_p sl_m sl_h sl_l sl_k sl_j sl_o sl_n sl_q sl_r sl_a sl_d sl_b sl_c sl_e sl_f sl_2 sl_6 sl_1 sl_0 sl_5 sl_4 sl_3 sl_8 sl_7 sl_9 : Array (Option Value)} {oc_15 kV_15 dc_15 pm_15 cd_15 ct_15 oc_13 kV_13 dc_13 pm_13 cd_13 ct_13 oc_11 kV_11 dc_11 pm_11 cd_11 ct_11 oc_12 kV_12 dc_12 pm_12 cd_12 ct_12 oc_g kV_g dc_g pm_g cd_g ct_g oc_y kV_y dc_y pm_y cd_y ct_y oc_v kV_v dc_v pm_v cd_v ct_v oc_t kV_t dc_t pm_t cd_t ct_t oc_u kV_u dc_u pm_u cd_u ct_u oc_s kV_s dc_s pm_s cd_s ct_s oc_10 kV_10 dc_10 pm_10 cd_10 ct_10 oc_x kV_x dc_x pm_x cd_x ct_x oc_z kV_z dc_z pm_z cd_z ct_z oc_w kV_w dc_w pm_w cd_w ct_w oc_14 kV_14 dc_14 pm_14 cd_14 ct_14 oc_i kV_i dc_i pm_i cd_i ct_i oc_p kV_p dc_p pm_p cd_p ct_p oc_m kV_m dc_m pm_m cd_m ct_m oc_h kV_h dc_h pm_h cd_h ct_h oc_l kV_l dc_l pm_l cd_l ct_l oc_k kV_k dc_k pm_k cd_k ct_k oc_j kV_j dc_j pm_j cd_j ct_j oc_o kV_o dc_o pm_o cd_o ct_o oc_n kV_n dc_n pm_n cd_n ct_n oc_q kV_q dc_q pm_q cd_q ct_q oc_r kV_r dc_r pm_r cd_r ct_r oc_a kV_a dc_a pm_a cd_a ct_a oc_d kV_d dc_d pm_d cd_d ct_d oc_b kV_b dc_b pm_b cd_b ct_b oc_c kV_c dc_c pm_c cd_c ct_c oc_e kV_e dc_e pm_e cd_e ct_e oc_f kV_f dc_f pm_f cd_f ct_f oc_2 kV_2 dc_2 pm_2 cd_2 ct_2 oc_6 kV_6 dc_6 pm_6 cd_6 ct_6 oc_1 kV_1 dc_1 pm_1 cd_1 ct_1 oc_0 kV_0 dc_0 pm_0 cd_0 ct_0 oc_5 kV_5 dc_5 pm_5 cd_5 ct_5 oc_4 kV_4 dc_4 pm_4 cd_4 ct_4 oc_3 kV_3 dc_3 pm_3 cd_3 ct_3 oc_8 kV_8 dc_8 pm_8 cd_8 ct_8 oc_7 kV_7 dc_7 pm_7 cd_7 ct_7 oc_9 kV_9 dc_9 pm_9 cd_9 ct_9 : Value} (X : K.In h) (G : h.Ns mainGlobals mg) (hfa : mg "law" = some (.ref fa))
    (a_start_of : PySem.W.nsIn K mainGlobals "start_of" = some (some (.ref f_15))) (l_15 : K.lookup f_15 = some ⟨oc_15, od_15, .func (PySem.W.fnOf "start_of" "start_of" (zn y8) (zm y8) (ze y8) .none kV_15 dc_15 pm_15 an_15 cd_15 ct_15), sl_15⟩) (c_15 : PySem.W.codeIn K cd_15 "start_of" = true) (k_15 : PySem.W.keepIn K (.ref f_15) = true)
    (a_play_trim : PySem.W.nsIn K mainGlobals "play_trim" = some (some (.ref f_13))) (l_13 : K.lookup f_13 = some ⟨oc_13, od_13, .func (PySem.W.fnOf "play_trim" "play_trim" (zn yO) (zm yO) (ze yO) .none kV_13 dc_13 pm_13 an_13 cd_13 ct_13), sl_13⟩) (c_13 : PySem.W.codeIn K cd_13 "play_trim" = true) (k_13 : PySem.W.keepIn K (.ref f_13) = true)
    (a_play_stop : PySem.W.nsIn K mainGlobals "play_stop" = some (some (.ref f_11))) (l_11 : K.lookup f_11 = some ⟨oc_11, od_11, .func (PySem.W.fnOf "play_stop" "play_stop" (zn yP) (zm yP) (ze yP) .none kV_11 dc_11 pm_11 an_11 cd_11 ct_11), sl_11⟩) (c_11 : PySem.W.codeIn K cd_11 "play_stop" = true) (k_11 : PySem.W.keepIn K (.ref f_11) = true)
    (a_play_store : PySem.W.nsIn K mainGlobals "play_store" = some (some (.ref f_12))) (l_12 : K.lookup f_12 = some ⟨oc_12, od_12, .func (PySem.W.fnOf "play_store" "play_store" (zn yD) (zm yD) (ze yD) .none kV_12 dc_12 pm_12 an_12 cd_12 ct_12), sl_12⟩) (c_12 : PySem.W.codeIn K cd_12 "play_store" = true) (k_12 : PySem.W.keepIn K (.ref f_12) = true)
    (a_has_effect : PySem.W.nsIn K mainGlobals "has_effect" = some (some (.ref f_g))) (l_g : K.lookup f_g = some ⟨oc_g, od_g, .func (PySem.W.fnOf "has_effect" "has_effect" (zn yF) (zm yF) (ze yF) .none kV_g dc_g pm_g an_g cd_g ct_g), sl_g⟩) (c_g : PySem.W.codeIn K cd_g "has_effect" = true) (k_g : PySem.W.keepIn K (.ref f_g) = true)
    (a_play_effect : PySem.W.nsIn K mainGlobals "play_effect" = some (some (.ref f_y))) (l_y : K.lookup f_y = some ⟨oc_y, od_y, .func (PySem.W.fnOf "play_effect" "play_effect" (zn yx) (zm yx) (ze yx) .none kV_y dc_y pm_y an_y cd_y ct_y), sl_y⟩) (c_y : PySem.W.codeIn K cd_y "play_effect" = true) (k_y : PySem.W.keepIn K (.ref f_y) = true)
    (a_numbers_loaded : PySem.W.nsIn K mainGlobals "numbers_loaded" = some (some (.ref f_v))) (l_v : K.lookup f_v = some ⟨oc_v, od_v, .func (PySem.W.fnOf "numbers_loaded" "numbers_loaded" (zn yh) (zm yh) (ze yh) .none kV_v dc_v pm_v an_v cd_v ct_v), sl_v⟩) (c_v : PySem.W.codeIn K cd_v "numbers_loaded" = true) (k_v : PySem.W.keepIn K (.ref f_v) = true)
    (a_number_gathered : PySem.W.nsIn K mainGlobals "number_gathered" = some (some (.ref f_t))) (l_t : K.lookup f_t = some ⟨oc_t, od_t, .func (PySem.W.fnOf "number_gathered" "number_gathered" (zn z9) (zm z9) (ze z9) .none kV_t dc_t pm_t an_t cd_t ct_t), sl_t⟩) (c_t : PySem.W.codeIn K cd_t "number_gathered" = true) (k_t : PySem.W.keepIn K (.ref f_t) = true)
    (a_numbers_gathered : PySem.W.nsIn K mainGlobals "numbers_gathered" = some (some (.ref f_u))) (l_u : K.lookup f_u = some ⟨oc_u, od_u, .func (PySem.W.fnOf "numbers_gathered" "numbers_gathered" (zn zR) (zm zR) (ze zR) .none kV_u dc_u pm_u an_u cd_u ct_u), sl_u⟩) (c_u : PySem.W.codeIn K cd_u "numbers_gathered" = true) (k_u : PySem.W.keepIn K (.ref f_u) = true)
    (a_lays_seat : PySem.W.nsIn K mainGlobals "lays_seat" = some (some (.ref f_s))) (l_s : K.lookup f_s = some ⟨oc_s, od_s, .func (PySem.W.fnOf "lays_seat" "lays_seat" (zn yR) (zm yR) (ze yR) .none kV_s dc_s pm_s an_s cd_s ct_s), sl_s⟩) (c_s : PySem.W.codeIn K cd_s "lays_seat" = true) (k_s : PySem.W.keepIn K (.ref f_s) = true)
    (a_play_seat_step : PySem.W.nsIn K mainGlobals "play_seat_step" = some (some (.ref f_10))) (l_10 : K.lookup f_10 = some ⟨oc_10, od_10, .func (PySem.W.fnOf "play_seat_step" "play_seat_step" (zn yg) (zm yg) (ze yg) .none kV_10 dc_10 pm_10 an_10 cd_10 ct_10), sl_10⟩) (c_10 : PySem.W.codeIn K cd_10 "play_seat_step" = true) (k_10 : PySem.W.keepIn K (.ref f_10) = true)
    (a_play_begin : PySem.W.nsIn K mainGlobals "play_begin" = some (some (.ref f_x))) (l_x : K.lookup f_x = some ⟨oc_x, od_x, .func (PySem.W.fnOf "play_begin" "play_begin" (zn yE) (zm yE) (ze yE) .none kV_x dc_x pm_x an_x cd_x ct_x), sl_x⟩) (c_x : PySem.W.codeIn K cd_x "play_begin" = true) (k_x : PySem.W.keepIn K (.ref f_x) = true)
    (a_play_next : PySem.W.nsIn K mainGlobals "play_next" = some (some (.ref f_z))) (l_z : K.lookup f_z = some ⟨oc_z, od_z, .func (PySem.W.fnOf "play_next" "play_next" (zn yQ) (zm yQ) (ze yQ) .none kV_z dc_z pm_z an_z cd_z ct_z), sl_z⟩) (c_z : PySem.W.codeIn K cd_z "play_next" = true) (k_z : PySem.W.keepIn K (.ref f_z) = true)
    (a_place_behind : PySem.W.nsIn K mainGlobals "place_behind" = some (some (.ref f_w))) (l_w : K.lookup f_w = some ⟨oc_w, od_w, .func (PySem.W.fnOf "place_behind" "place_behind" (zn yq) (zm yq) (ze yq) .none kV_w dc_w pm_w an_w cd_w ct_w), sl_w⟩) (c_w : PySem.W.codeIn K cd_w "place_behind" = true) (k_w : PySem.W.keepIn K (.ref f_w) = true)
    (a_ran : PySem.W.nsIn K mainGlobals "ran" = some (some (.ref f_14))) (l_14 : K.lookup f_14 = some ⟨oc_14, od_14, .func (PySem.W.fnOf "ran" "ran" (zn s_ran) (zm s_ran) (ze s_ran) .none kV_14 dc_14 pm_14 an_14 cd_14 ct_14), sl_14⟩) (c_14 : PySem.W.codeIn K cd_14 "ran" = true) (k_14 : PySem.W.keepIn K (.ref f_14) = true)
    (a_l_cell_at : PySem.W.nsIn K mainGlobals "_law_cell_at" = some (some (.ref f_i))) (l_i : K.lookup f_i = some ⟨oc_i, od_i, .func (PySem.W.fnOf "_law_cell_at" "_law_cell_at" (zn yS) (zm yS) (ze yS) .none kV_i dc_i pm_i an_i cd_i ct_i), sl_i⟩) (c_i : PySem.W.codeIn K cd_i "_law_cell_at" = true) (k_i : PySem.W.keepIn K (.ref f_i) = true)
    (a_l_some : PySem.W.nsIn K mainGlobals "_law_some" = some (some (.ref f_p))) (l_p : K.lookup f_p = some ⟨oc_p, od_p, .func (PySem.W.fnOf "_law_some" "_law_some" (zn xp) (zm xp) (ze xp) .none kV_p dc_p pm_p an_p cd_p ct_p), sl_p⟩) (c_p : PySem.W.codeIn K cd_p "_law_some" = true) (k_p : PySem.W.keepIn K (.ref f_p) = true)
    (a_l_number : PySem.W.nsIn K mainGlobals "_law_number" = some (some (.ref f_m))) (l_m : K.lookup f_m = some ⟨oc_m, od_m, .func (PySem.W.fnOf "_law_number" "_law_number" (zn y9) (zm y9) (ze y9) .none kV_m dc_m pm_m an_m cd_m ct_m), sl_m⟩) (c_m : PySem.W.codeIn K cd_m "_law_number" = true) (k_m : PySem.W.keepIn K (.ref f_m) = true)
    (a_l_alike : PySem.W.nsIn K mainGlobals "_law_alike" = some (some (.ref f_h))) (l_h : K.lookup f_h = some ⟨oc_h, od_h, .func (PySem.W.fnOf "_law_alike" "_law_alike" (zn yT) (zm yT) (ze yT) .none kV_h dc_h pm_h an_h cd_h ct_h), sl_h⟩) (c_h : PySem.W.codeIn K cd_h "_law_alike" = true) (k_h : PySem.W.keepIn K (.ref f_h) = true)
    (a_l_lanes : PySem.W.nsIn K mainGlobals "_law_lanes" = some (some (.ref f_l))) (l_l : K.lookup f_l = some ⟨oc_l, od_l, .func (PySem.W.fnOf "_law_lanes" "_law_lanes" (zn xm) (zm xm) (ze xm) .none kV_l dc_l pm_l an_l cd_l ct_l), sl_l⟩) (c_l : PySem.W.codeIn K cd_l "_law_lanes" = true) (k_l : PySem.W.keepIn K (.ref f_l) = true)
    (a_l_group : PySem.W.nsIn K mainGlobals "_law_group" = some (some (.ref f_k))) (l_k : K.lookup f_k = some ⟨oc_k, od_k, .func (PySem.W.fnOf "_law_group" "_law_group" (zn xn) (zm xn) (ze xn) .none kV_k dc_k pm_k an_k cd_k ct_k), sl_k⟩) (c_k : PySem.W.codeIn K cd_k "_law_group" = true) (k_k : PySem.W.keepIn K (.ref f_k) = true)
    (a_l_dust : PySem.W.nsIn K mainGlobals "_law_dust" = some (some (.ref f_j))) (l_j : K.lookup f_j = some ⟨oc_j, od_j, .func (PySem.W.fnOf "_law_dust" "_law_dust" (zn s_l_dust) (zm s_l_dust) (ze s_l_dust) .none kV_j dc_j pm_j an_j cd_j ct_j), sl_j⟩) (c_j : PySem.W.codeIn K cd_j "_law_dust" = true) (k_j : PySem.W.keepIn K (.ref f_j) = true)
    (a_l_ran : PySem.W.nsIn K mainGlobals "_law_ran" = some (some (.ref f_o))) (l_o : K.lookup f_o = some ⟨oc_o, od_o, .func (PySem.W.fnOf "_law_ran" "_law_ran" (zn s_l_ran) (zm s_l_ran) (ze s_l_ran) .none kV_o dc_o pm_o an_o cd_o ct_o), sl_o⟩) (c_o : PySem.W.codeIn K cd_o "_law_ran" = true) (k_o : PySem.W.keepIn K (.ref f_o) = true)
    (a_l_place : PySem.W.nsIn K mainGlobals "_law_place" = some (some (.ref f_n))) (l_n : K.lookup f_n = some ⟨oc_n, od_n, .func (PySem.W.fnOf "_law_place" "_law_place" (zn xk) (zm xk) (ze xk) .none kV_n dc_n pm_n an_n cd_n ct_n), sl_n⟩) (c_n : PySem.W.codeIn K cd_n "_law_place" = true) (k_n : PySem.W.keepIn K (.ref f_n) = true)
    (a_l_strip : PySem.W.nsIn K mainGlobals "_law_strip" = some (some (.ref f_q))) (l_q : K.lookup f_q = some ⟨oc_q, od_q, .func (PySem.W.fnOf "_law_strip" "_law_strip" (zn xj) (zm xj) (ze xj) .none kV_q dc_q pm_q an_q cd_q ct_q), sl_q⟩) (c_q : PySem.W.codeIn K cd_q "_law_strip" = true) (k_q : PySem.W.keepIn K (.ref f_q) = true)
    (a_law : PySem.W.nsIn K mainGlobals "law" = some (some (.ref f_r))) (l_r : K.lookup f_r = some ⟨oc_r, od_r, .func (PySem.W.fnOf "law" "law" (zn s_law) (zm s_law) (ze s_law) .none kV_r dc_r pm_r an_r cd_r ct_r), sl_r⟩) (c_r : PySem.W.codeIn K cd_r "law" = true) (k_r : PySem.W.keepIn K (.ref f_r) = true)
    (a_C_Boxes : PySem.W.nsIn K mainGlobals "Boxes" = some (some (.ref C_Boxes))) (c1_C_Boxes : PySem.W.plainGet K C_Boxes Str.empty = true) (c2_C_Boxes : PySem.W.hasDictIn K C_Boxes = true) (c3_C_Boxes : PySem.W.plainOver K C_Boxes = true) (c4_C_Boxes : PySem.W.findIn K (.ref C_Boxes) "__setattr__" = some (some (.builtin "object.__setattr__")))
    (n_C_Boxes_lanes : PySem.W.findIn K (.ref C_Boxes) "lanes" = some none)
    (n_C_Boxes_numbers : PySem.W.findIn K (.ref C_Boxes) "numbers" = some none)
    (mk_C_Boxes : PySem.W.makesIn K C_Boxes = true) (kC_C_Boxes : PySem.W.keepIn K (.ref C_Boxes) = true)
    (at_a : PySem.W.findIn K (.ref C_Boxes) "__init__" = some (some (.ref f_a))) (fn_a : PySem.W.isFn K (.ref f_a) = true) (l_a : K.lookup f_a = some ⟨oc_a, od_a, .func (PySem.W.fnOf "__init__" "Boxes.__init__" (zn yH) (zm yH) (ze yH) .none kV_a dc_a pm_a an_a cd_a ct_a), sl_a⟩) (c_a : PySem.W.codeIn K cd_a "Boxes.__init__" = true) (k_a : PySem.W.keepIn K (.ref f_a) = true)
    (at_d : PySem.W.findIn K (.ref C_Boxes) "spot_of" = some (some (.ref f_d))) (fn_d : PySem.W.isFn K (.ref f_d) = true) (l_d : K.lookup f_d = some ⟨oc_d, od_d, .func (PySem.W.fnOf "spot_of" "Boxes.spot_of" (zn ym) (zm ym) (ze ym) .none kV_d dc_d pm_d an_d cd_d ct_d), sl_d⟩) (c_d : PySem.W.codeIn K cd_d "Boxes.spot_of" = true) (k_d : PySem.W.keepIn K (.ref f_d) = true)
    (at_b : PySem.W.findIn K (.ref C_Boxes) "lay" = some (some (.ref f_b))) (fn_b : PySem.W.isFn K (.ref f_b) = true) (l_b : K.lookup f_b = some ⟨oc_b, od_b, .func (PySem.W.fnOf "lay" "Boxes.lay" (zn yV) (zm yV) (ze yV) .none kV_b dc_b pm_b an_b cd_b ct_b), sl_b⟩) (c_b : PySem.W.codeIn K cd_b "Boxes.lay" = true) (k_b : PySem.W.keepIn K (.ref f_b) = true)
    (at_c : PySem.W.findIn K (.ref C_Boxes) "number_at" = some (some (.ref f_c))) (fn_c : PySem.W.isFn K (.ref f_c) = true) (l_c : K.lookup f_c = some ⟨oc_c, od_c, .func (PySem.W.fnOf "number_at" "Boxes.number_at" (zn ya) (zm ya) (ze ya) .none kV_c dc_c pm_c an_c cd_c ct_c), sl_c⟩) (c_c : PySem.W.codeIn K cd_c "Boxes.number_at" = true) (k_c : PySem.W.keepIn K (.ref f_c) = true)
    (a_C_Feed : PySem.W.nsIn K mainGlobals "Feed" = some (some (.ref C_Feed))) (c1_C_Feed : PySem.W.plainGet K C_Feed Str.empty = true) (c2_C_Feed : PySem.W.hasDictIn K C_Feed = true) (c3_C_Feed : PySem.W.plainOver K C_Feed = true) (c4_C_Feed : PySem.W.findIn K (.ref C_Feed) "__setattr__" = some (some (.builtin "object.__setattr__")))
    (n_C_Feed_numbers : PySem.W.findIn K (.ref C_Feed) "numbers" = some none)
    (n_C_Feed_at : PySem.W.findIn K (.ref C_Feed) "at" = some none)
    (mk_C_Feed : PySem.W.makesIn K C_Feed = true) (kC_C_Feed : PySem.W.keepIn K (.ref C_Feed) = true)
    (at_e : PySem.W.findIn K (.ref C_Feed) "__init__" = some (some (.ref f_e))) (fn_e : PySem.W.isFn K (.ref f_e) = true) (l_e : K.lookup f_e = some ⟨oc_e, od_e, .func (PySem.W.fnOf "__init__" "Feed.__init__" (zn yU) (zm yU) (ze yU) .none kV_e dc_e pm_e an_e cd_e ct_e), sl_e⟩) (c_e : PySem.W.codeIn K cd_e "Feed.__init__" = true) (k_e : PySem.W.keepIn K (.ref f_e) = true)
    (at_f : PySem.W.findIn K (.ref C_Feed) "taken" = some (some (.ref f_f))) (fn_f : PySem.W.isFn K (.ref f_f) = true) (l_f : K.lookup f_f = some ⟨oc_f, od_f, .func (PySem.W.fnOf "taken" "Feed.taken" (zn yG) (zm yG) (ze yG) .none kV_f dc_f pm_f an_f cd_f ct_f), sl_f⟩) (c_f : PySem.W.codeIn K cd_f "Feed.taken" = true) (k_f : PySem.W.keepIn K (.ref f_f) = true)
    (a_C_Bench : PySem.W.nsIn K mainGlobals "Bench" = some (some (.ref C_Bench))) (c1_C_Bench : PySem.W.plainGet K C_Bench Str.empty = true) (c2_C_Bench : PySem.W.hasDictIn K C_Bench = true) (c3_C_Bench : PySem.W.plainOver K C_Bench = true) (c4_C_Bench : PySem.W.findIn K (.ref C_Bench) "__setattr__" = some (some (.builtin "object.__setattr__")))
    (n_C_Bench_lengths : PySem.W.findIn K (.ref C_Bench) "lengths" = some none)
    (n_C_Bench_starts : PySem.W.findIn K (.ref C_Bench) "starts" = some none)
    (n_C_Bench_cells : PySem.W.findIn K (.ref C_Bench) "cells" = some none)
    (n_C_Bench_lanes : PySem.W.findIn K (.ref C_Bench) "lanes" = some none)
    (n_C_Bench_boxes : PySem.W.findIn K (.ref C_Bench) "boxes" = some none)
    (n_C_Bench_masks : PySem.W.findIn K (.ref C_Bench) "masks" = some none)
    (n_C_Bench_slots : PySem.W.findIn K (.ref C_Bench) "slots" = some none)
    (n_C_Bench_dust : PySem.W.findIn K (.ref C_Bench) "dust" = some none)
    (n_C_Bench_picks : PySem.W.findIn K (.ref C_Bench) "picks" = some none)
    (n_C_Bench_touches : PySem.W.findIn K (.ref C_Bench) "touches" = some none)
    (n_C_Bench_at : PySem.W.findIn K (.ref C_Bench) "at" = some none)
    (n_C_Bench_opened : PySem.W.findIn K (.ref C_Bench) "opened" = some none)
    (n_C_Bench_many : PySem.W.findIn K (.ref C_Bench) "many" = some none)
    (n_C_Bench_group : PySem.W.findIn K (.ref C_Bench) "group" = some none)
    (n_C_Bench_base : PySem.W.findIn K (.ref C_Bench) "base" = some none)
    (n_C_Bench_begun : PySem.W.findIn K (.ref C_Bench) "begun" = some none)
    (n_C_Bench_width : PySem.W.findIn K (.ref C_Bench) "width" = some none)
    (n_C_Bench_faults : PySem.W.findIn K (.ref C_Bench) "faults" = some none)
    (n_C_Bench_cut : PySem.W.findIn K (.ref C_Bench) "cut" = some none)
    (n_C_Bench_carried : PySem.W.findIn K (.ref C_Bench) "carried" = some none)
    (n_C_Bench_raised : PySem.W.findIn K (.ref C_Bench) "raised" = some none)
    (n_C_Bench_turns : PySem.W.findIn K (.ref C_Bench) "turns" = some none)
    (n_C_Bench_refusal : PySem.W.findIn K (.ref C_Bench) "refusal" = some none)
    (mk_C_Bench : PySem.W.makesIn K C_Bench = true) (kC_C_Bench : PySem.W.keepIn K (.ref C_Bench) = true)
    (at_2 : PySem.W.findIn K (.ref C_Bench) "__init__" = some (some (.ref f_2))) (fn_2 : PySem.W.isFn K (.ref f_2) = true) (l_2 : K.lookup f_2 = some ⟨oc_2, od_2, .func (PySem.W.fnOf "__init__" "Bench.__init__" (zn yI) (zm yI) (ze yI) .none kV_2 dc_2 pm_2 an_2 cd_2 ct_2), sl_2⟩) (c_2 : PySem.W.codeIn K cd_2 "Bench.__init__" = true) (k_2 : PySem.W.keepIn K (.ref f_2) = true)
    (at_6 : PySem.W.findIn K (.ref C_Bench) "open_round" = some (some (.ref f_6))) (fn_6 : PySem.W.isFn K (.ref f_6) = true) (l_6 : K.lookup f_6 = some ⟨oc_6, od_6, .func (PySem.W.fnOf "open_round" "Bench.open_round" (zn zU) (zm zU) (ze zU) .none kV_6 dc_6 pm_6 an_6 cd_6 ct_6), sl_6⟩) (c_6 : PySem.W.codeIn K cd_6 "Bench.open_round" = true) (k_6 : PySem.W.keepIn K (.ref f_6) = true)
    (at_1 : PySem.W.findIn K (.ref C_Bench) "begin_strip" = some (some (.ref f_1))) (fn_1 : PySem.W.isFn K (.ref f_1) = true) (l_1 : K.lookup f_1 = some ⟨oc_1, od_1, .func (PySem.W.fnOf "begin_strip" "Bench.begin_strip" (zn zQ) (zm zQ) (ze zQ) .none kV_1 dc_1 pm_1 an_1 cd_1 ct_1), sl_1⟩) (c_1 : PySem.W.codeIn K cd_1 "Bench.begin_strip" = true) (k_1 : PySem.W.keepIn K (.ref f_1) = true)
    (at_0 : PySem.W.findIn K (.ref C_Bench) "active_under" = some (some (.ref f_0))) (fn_0 : PySem.W.isFn K (.ref f_0) = true) (l_0 : K.lookup f_0 = some ⟨oc_0, od_0, .func (PySem.W.fnOf "active_under" "Bench.active_under" (zn zN) (zm zN) (ze zN) .none kV_0 dc_0 pm_0 an_0 cd_0 ct_0), sl_0⟩) (c_0 : PySem.W.codeIn K cd_0 "Bench.active_under" = true) (k_0 : PySem.W.keepIn K (.ref f_0) = true)
    (at_5 : PySem.W.findIn K (.ref C_Bench) "numbers_in" = some (some (.ref f_5))) (fn_5 : PySem.W.isFn K (.ref f_5) = true) (l_5 : K.lookup f_5 = some ⟨oc_5, od_5, .func (PySem.W.fnOf "numbers_in" "Bench.numbers_in" (zn zV) (zm zV) (ze zV) .none kV_5 dc_5 pm_5 an_5 cd_5 ct_5), sl_5⟩) (c_5 : PySem.W.codeIn K cd_5 "Bench.numbers_in" = true) (k_5 : PySem.W.keepIn K (.ref f_5) = true)
    (at_4 : PySem.W.findIn K (.ref C_Bench) "lay_seat" = some (some (.ref f_4))) (fn_4 : PySem.W.isFn K (.ref f_4) = true) (l_4 : K.lookup f_4 = some ⟨oc_4, od_4, .func (PySem.W.fnOf "lay_seat" "Bench.lay_seat" (zn yi) (zm yi) (ze yi) .none kV_4 dc_4 pm_4 an_4 cd_4 ct_4), sl_4⟩) (c_4 : PySem.W.codeIn K cd_4 "Bench.lay_seat" = true) (k_4 : PySem.W.keepIn K (.ref f_4) = true)
    (at_3 : PySem.W.findIn K (.ref C_Bench) "lay_mask" = some (some (.ref f_3))) (fn_3 : PySem.W.isFn K (.ref f_3) = true) (l_3 : K.lookup f_3 = some ⟨oc_3, od_3, .func (PySem.W.fnOf "lay_mask" "Bench.lay_mask" (zn yj) (zm yj) (ze yj) .none kV_3 dc_3 pm_3 an_3 cd_3 ct_3), sl_3⟩) (c_3 : PySem.W.codeIn K cd_3 "Bench.lay_mask" = true) (k_3 : PySem.W.keepIn K (.ref f_3) = true)
    (at_8 : PySem.W.findIn K (.ref C_Bench) "touch" = some (some (.ref f_8))) (fn_8 : PySem.W.isFn K (.ref f_8) = true) (l_8 : K.lookup f_8 = some ⟨oc_8, od_8, .func (PySem.W.fnOf "touch" "Bench.touch" (zn yy) (zm yy) (ze yy) .none kV_8 dc_8 pm_8 an_8 cd_8 ct_8), sl_8⟩) (c_8 : PySem.W.codeIn K cd_8 "Bench.touch" = true) (k_8 : PySem.W.keepIn K (.ref f_8) = true)
    (at_7 : PySem.W.findIn K (.ref C_Bench) "read_cell" = some (some (.ref f_7))) (fn_7 : PySem.W.isFn K (.ref f_7) = true) (l_7 : K.lookup f_7 = some ⟨oc_7, od_7, .func (PySem.W.fnOf "read_cell" "Bench.read_cell" (zn yb) (zm yb) (ze yb) .none kV_7 dc_7 pm_7 an_7 cd_7 ct_7), sl_7⟩) (c_7 : PySem.W.codeIn K cd_7 "Bench.read_cell" = true) (k_7 : PySem.W.keepIn K (.ref f_7) = true)
    (at_9 : PySem.W.findIn K (.ref C_Bench) "write_cell" = some (some (.ref f_9))) (fn_9 : PySem.W.isFn K (.ref f_9) = true) (l_9 : K.lookup f_9 = some ⟨oc_9, od_9, .func (PySem.W.fnOf "write_cell" "Bench.write_cell" (zn zS) (zm zS) (ze zS) .none kV_9 dc_9 pm_9 an_9 cd_9 ct_9), sl_9⟩) (c_9 : PySem.W.codeIn K cd_9 "Bench.write_cell" = true) (k_9 : PySem.W.keepIn K (.ref f_9) = true)
    (aS : PySem.W.nsIn K mainGlobals "SEAT_STEPS" = some (some (.ref TS)))
    (lS : K.lookup TS = some ⟨.type "dict", none, .dict esS nS, #[]⟩)
    (kS : PySem.W.KeysLit w.params esS.toList)
    (aE : PySem.W.nsIn K mainGlobals "EFFECTS" = some (some (.ref TE)))
    (lE : K.lookup TE = some ⟨.type "dict", none, .dict esE nE, #[]⟩)
    (kE : PySem.W.KeysLit w.params esE.toList)
    (aW : PySem.W.nsIn K mainGlobals "WAYS" = some (some (.ref TW)))
    (lW : K.lookup TW = some ⟨.type "dict", none, .dict esW nW, #[]⟩)
    (kW : PySem.W.KeysLit w.params esW.toList)
    (a_numbers_written : PySem.W.nsIn K mainGlobals "numbers_written" = some (some (.ref f_numbers_written)))
    (tS_number : PySem.W.nsIn K TS "number" = some (some (.ref f_numbers_written)))
    (a_numbers_of_here : PySem.W.nsIn K mainGlobals "numbers_of_here" = some (some (.ref f_numbers_of_here)))
    (tS_here : PySem.W.nsIn K TS "here" = some (some (.ref f_numbers_of_here)))
    (tS_load : PySem.W.nsIn K TS "load" = some (some (.ref f_v)))
    (a_numbers_spread : PySem.W.nsIn K mainGlobals "numbers_spread" = some (some (.ref f_numbers_spread)))
    (tS_spread : PySem.W.nsIn K TS "spread" = some (some (.ref f_numbers_spread)))
    (a_numbers_shifted : PySem.W.nsIn K mainGlobals "numbers_shifted" = some (some (.ref f_numbers_shifted)))
    (tS_shift : PySem.W.nsIn K TS "shift" = some (some (.ref f_numbers_shifted)))
    (tS_gather : PySem.W.nsIn K TS "gather" = some (some (.ref f_u)))
    (a_numbers_joined : PySem.W.nsIn K mainGlobals "numbers_joined" = some (some (.ref f_numbers_joined)))
    (tS_op : PySem.W.nsIn K TS "op" = some (some (.ref f_numbers_joined)))
    (a_numbers_picked : PySem.W.nsIn K mainGlobals "numbers_picked" = some (some (.ref f_numbers_picked)))
    (tS_pick : PySem.W.nsIn K TS "pick" = some (some (.ref f_numbers_picked)))
    (a_numbers_copied : PySem.W.nsIn K mainGlobals "numbers_copied" = some (some (.ref f_numbers_copied)))
    (tS_copy : PySem.W.nsIn K TS "copy" = some (some (.ref f_numbers_copied)))
    (a_numbers_brought : PySem.W.nsIn K mainGlobals "numbers_brought" = some (some (.ref f_numbers_brought)))
    (tS_bring : PySem.W.nsIn K TS "bring" = some (some (.ref f_numbers_brought)))
    (a_play_reach : PySem.W.nsIn K mainGlobals "play_reach" = some (some (.ref f_play_reach)))
    (tE_reach : PySem.W.nsIn K TE "reach" = some (some (.ref f_play_reach)))
    (tS_reach : PySem.W.nsIn K TS "reach" = some none)
    (tE_trim : PySem.W.nsIn K TE "trim" = some (some (.ref f_13)))
    (tS_trim : PySem.W.nsIn K TS "trim" = some none)
    (tE_stop : PySem.W.nsIn K TE "stop" = some (some (.ref f_11)))
    (tS_stop : PySem.W.nsIn K TS "stop" = some none)
    (a_play_choose : PySem.W.nsIn K mainGlobals "play_choose" = some (some (.ref f_play_choose)))
    (tE_choose : PySem.W.nsIn K TE "choose" = some (some (.ref f_play_choose)))
    (tS_choose : PySem.W.nsIn K TS "choose" = some none)
    (a_play_other : PySem.W.nsIn K mainGlobals "play_other" = some (some (.ref f_play_other)))
    (tE_other : PySem.W.nsIn K TE "other" = some (some (.ref f_play_other)))
    (tS_other : PySem.W.nsIn K TS "other" = some none)
    (a_play_save : PySem.W.nsIn K mainGlobals "play_save" = some (some (.ref f_play_save)))
    (tE_save : PySem.W.nsIn K TE "save" = some (some (.ref f_play_save)))
    (tS_save : PySem.W.nsIn K TS "save" = some none)
    (tE_store : PySem.W.nsIn K TE "store" = some (some (.ref f_12)))
    (tS_store : PySem.W.nsIn K TS "store" = some none)
    (a_play_put : PySem.W.nsIn K mainGlobals "play_put" = some (some (.ref f_play_put)))
    (tE_put : PySem.W.nsIn K TE "put" = some (some (.ref f_play_put)))
    (tS_put : PySem.W.nsIn K TS "put" = some none)
    (a_play_fold : PySem.W.nsIn K mainGlobals "play_fold" = some (some (.ref f_play_fold)))
    (tE_fold : PySem.W.nsIn K TE "fold" = some (some (.ref f_play_fold)))
    (tS_fold : PySem.W.nsIn K TS "fold" = some none)
    (a_play_running : PySem.W.nsIn K mainGlobals "play_running" = some (some (.ref f_play_running)))
    (tE_running : PySem.W.nsIn K TE "running" = some (some (.ref f_play_running)))
    (tS_running : PySem.W.nsIn K TS "running" = some none)
    (a_play_any : PySem.W.nsIn K mainGlobals "play_any" = some (some (.ref f_play_any)))
    (tE_any : PySem.W.nsIn K TE "any" = some (some (.ref f_play_any)))
    (tS_any : PySem.W.nsIn K TS "any" = some none)
    (tW_begin : PySem.W.nsIn K TW "begin" = some (some (.ref f_x)))
    (tS_begin : PySem.W.nsIn K TS "begin" = some none)
    (tE_begin : PySem.W.nsIn K TE "begin" = some none)
    (tW_next : PySem.W.nsIn K TW "next" = some (some (.ref f_z)))
    (tS_next : PySem.W.nsIn K TS "next" = some none)
    (tE_next : PySem.W.nsIn K TE "next" = some none)
    (a_play_turns : PySem.W.nsIn K mainGlobals "play_turns" = some (some (.ref f_play_turns)))
    (tW_turns : PySem.W.nsIn K TW "turns" = some (some (.ref f_play_turns)))
    (tS_turns : PySem.W.nsIn K TS "turns" = some none)
    (tE_turns : PySem.W.nsIn K TE "turns" = some none)
    (a_play_quiet : PySem.W.nsIn K mainGlobals "play_quiet" = some (some (.ref f_play_quiet)))
    (tW_quiet : PySem.W.nsIn K TW "quiet" = some (some (.ref f_play_quiet)))
    (tS_quiet : PySem.W.nsIn K TS "quiet" = some none)
    (tE_quiet : PySem.W.nsIn K TE "quiet" = some none)
    (a_play_till : PySem.W.nsIn K mainGlobals "play_till" = some (some (.ref f_play_till)))
    (tW_till : PySem.W.nsIn K TW "till" = some (some (.ref f_play_till)))
    (tS_till : PySem.W.nsIn K TS "till" = some none)
    (tE_till : PySem.W.nsIn K TE "till" = some none)
    (loS : (TS == sysModules) = false)
    (loE : (TE == sysModules) = false)
    (k_int_int : PySem.W.kitOne K (.type "int") (.type "int") = some true)
    (k_int_bool : PySem.W.kitOne K (.type "int") (.type "bool") = some false)
    (k_int_str : PySem.W.kitOne K (.type "int") (.type "str") = some false)
    (k_int_list : PySem.W.kitOne K (.type "int") (.type "list") = some false)
    (k_int_tuple : PySem.W.kitOne K (.type "int") (.type "tuple") = some false)
    (k_str_str : PySem.W.kitOne K (.type "str") (.type "str") = some true)
    (k_list_str : PySem.W.kitOne K (.type "list") (.type "str") = some false)
    (k_list_list : PySem.W.kitOne K (.type "list") (.type "list") = some true)
    (k_list_tuple : PySem.W.kitOne K (.type "list") (.type "tuple") = some false)
    (k_tuple_str : PySem.W.kitOne K (.type "tuple") (.type "str") = some false)
    (k_tuple_list : PySem.W.kitOne K (.type "tuple") (.type "list") = some false)
    (k_tuple_tuple : PySem.W.kitOne K (.type "tuple") (.type "tuple") = some true)
    (z_isinstance : PySem.W.nsIn K mainGlobals "isinstance" = some none)
    (z_int : PySem.W.nsIn K mainGlobals "int" = some none)
    (z_bool : PySem.W.nsIn K mainGlobals "bool" = some none)
    (z_str : PySem.W.nsIn K mainGlobals "str" = some none)
    (z_list : PySem.W.nsIn K mainGlobals "list" = some none)
    (z_tuple : PySem.W.nsIn K mainGlobals "tuple" = some none)
    (z_len : PySem.W.nsIn K mainGlobals "len" = some none)
    (z_range : PySem.W.nsIn K mainGlobals "range" = some none)
    (z_sum : PySem.W.nsIn K mainGlobals "sum" = some none)
    (z_min : PySem.W.nsIn K mainGlobals "min" = some none)
    (z_zip : PySem.W.nsIn K mainGlobals "zip" = some none)
    (z_dict : PySem.W.nsIn K mainGlobals "dict" = some none)
    (aB : PySem.W.nsIn K mainGlobals "MANY_BOXES" = some (some (.int 8 tB)))
    (aM : PySem.W.nsIn K mainGlobals "MOST_TOGETHER" = some (some (.int 4 tM)))
    (aN : PySem.W.nsIn K mainGlobals "MANY_MASKS" = some (some (.int 16 tN)))
    : ∃ fd : FuncData, (∀ (s : Shared) (v : Value), BindsTo s fd ⟨[v], []⟩ [("_law_script", v)]) ∧ ∀ base : Heap, K.In base → base.Ns mainGlobals mg → FnOk l.prog w K mg base CX0 12 fa fd ["_law_script"] (spLaw K) := by
  have e := hfa.symm.trans (PySem.W.mg_of X G a_law)
  cases e
  have d_start_of : zC K mg "start_of" y8 ["lengths", "row"] := zG X G a_start_of l_15 c_15 k_15 fun _ _ _ _ _ _ us hl => match us, hl with | [_, _], _ => rfl
  have d_play_trim : zC K mg "play_trim" yO ["bench", "step"] := zG X G a_play_trim l_13 c_13 k_13 fun _ _ _ _ _ _ us hl => match us, hl with | [_, _], _ => rfl
  have d_play_stop : zC K mg "play_stop" yP ["bench", "step"] := zG X G a_play_stop l_11 c_11 k_11 fun _ _ _ _ _ _ us hl => match us, hl with | [_, _], _ => rfl
  have d_play_store : zC K mg "play_store" yD ["bench", "step"] := zG X G a_play_store l_12 c_12 k_12 fun _ _ _ _ _ _ us hl => match us, hl with | [_, _], _ => rfl
  have d_has_effect : zC K mg "has_effect" yF ["word"] := zG X G a_has_effect l_g c_g k_g fun _ _ _ _ _ _ us hl => match us, hl with | [_], _ => rfl
  have d_play_effect : zC K mg "play_effect" yx ["bench", "step"] := zG X G a_play_effect l_y c_y k_y fun _ _ _ _ _ _ us hl => match us, hl with | [_, _], _ => rfl
  have d_numbers_loaded : zC K mg "numbers_loaded" yh ["bench", "step", "active"] := zG X G a_numbers_loaded l_v c_v k_v fun _ _ _ _ _ _ us hl => match us, hl with | [_, _, _], _ => rfl
  have d_number_gathered : zC K mg "number_gathered" z9 ["bench", "row", "place", "lane"] := zG X G a_number_gathered l_t c_t k_t fun _ _ _ _ _ _ us hl => match us, hl with | [_, _, _, _], _ => rfl
  have d_numbers_gathered : zC K mg "numbers_gathered" zR ["bench", "step", "active"] := zG X G a_numbers_gathered l_u c_u k_u fun _ _ _ _ _ _ us hl => match us, hl with | [_, _, _], _ => rfl
  have d_lays_seat : zC K mg "lays_seat" yR ["word"] := zG X G a_lays_seat l_s c_s k_s fun _ _ _ _ _ _ us hl => match us, hl with | [_], _ => rfl
  have d_play_seat_step : zC K mg "play_seat_step" yg ["bench", "step"] := zG X G a_play_seat_step l_10 c_10 k_10 fun _ _ _ _ _ _ us hl => match us, hl with | [_, _], _ => rfl
  have d_play_begin : zC K mg "play_begin" yE ["bench", "step"] := zG X G a_play_begin l_x c_x k_x fun _ _ _ _ _ _ us hl => match us, hl with | [_, _], _ => rfl
  have d_play_next : zC K mg "play_next" yQ ["bench", "step"] := zG X G a_play_next l_z c_z k_z fun _ _ _ _ _ _ us hl => match us, hl with | [_, _], _ => rfl
  have d_place_behind : zC K mg "place_behind" yq ["bench", "step"] := zG X G a_place_behind l_w c_w k_w fun _ _ _ _ _ _ us hl => match us, hl with | [_, _], _ => rfl
  have d_ran : zC K mg "ran" s_ran ["code", "lengths", "cells", "lanes", "dust", "picks"] := zG X G a_ran l_14 c_14 k_14 fun _ _ _ _ _ _ us hl => match us, hl with | [_, _, _, _, _, _], _ => rfl
  have d_l_cell_at : zC K mg "_law_cell_at" yS ["_law_script", "_law_k"] := zG X G a_l_cell_at l_i c_i k_i fun _ _ _ _ _ _ us hl => match us, hl with | [_, _], _ => rfl
  have d_l_some : zC K mg "_law_some" xp ["_law_script", "_law_k", "_law_salt", "_law_many"] := zG X G a_l_some l_p c_p k_p fun _ _ _ _ _ _ us hl => match us, hl with | [_, _, _, _], _ => rfl
  have d_l_number : zC K mg "_law_number" y9 ["_law_script", "_law_k"] := zG X G a_l_number l_m c_m k_m fun _ _ _ _ _ _ us hl => match us, hl with | [_, _], _ => rfl
  have d_l_alike : zC K mg "_law_alike" yT ["_law_found", "_law_due"] := zG X G a_l_alike l_h c_h k_h fun _ _ _ _ _ _ us hl => match us, hl with | [_, _], _ => rfl
  have d_l_lanes : zC K mg "_law_lanes" xm ["_law_cell"] := zG X G a_l_lanes l_l c_l k_l fun _ _ _ _ _ _ us hl => match us, hl with | [_], _ => rfl
  have d_l_group : zC K mg "_law_group" xn ["_law_script", "_law_k", "_law_salt"] := zG X G a_l_group l_k c_k k_k fun _ _ _ _ _ _ us hl => match us, hl with | [_, _, _], _ => rfl
  have d_l_dust : zC K mg "_law_dust" s_l_dust ["_law_script", "_law_k", "_law_salt"] := zG X G a_l_dust l_j c_j k_j fun _ _ _ _ _ _ us hl => match us, hl with | [_, _, _], _ => rfl
  have d_l_ran : zC K mg "_law_ran" s_l_ran ["_law_code", "_law_lengths", "_law_cells", "_law_lanes_here", "_law_dust_here", "_law_picks"] := zG X G a_l_ran l_o c_o k_o fun _ _ _ _ _ _ us hl => match us, hl with | [_, _, _, _, _, _], _ => rfl
  have d_l_place : zC K mg "_law_place" xk ["_law_script", "_law_j", "_law_wild", "_law_length"] := zG X G a_l_place l_n c_n k_n fun _ _ _ _ _ _ us hl => match us, hl with | [_, _, _, _], _ => rfl
  have d_l_strip : zC K mg "_law_strip" xj ["_law_places", "_law_base", "_law_width", "_law_source", "_law_start", "_law_due", "_law_touches", "_law_trims"] := zG X G a_l_strip l_q c_q k_q fun _ _ _ _ _ _ us hl => match us, hl with | [_, _, _, _, _, _, _, _], _ => rfl
  have d_Boxes_init : InitIn K C_Boxes "Boxes.__init__" yH ["self", "lanes"] := ⟨f_a, _, ⟨mk_C_Boxes, at_a, fn_a, kC_C_Boxes⟩, zJ l_a c_a k_a, (zJ l_a c_a k_a).binds fun _ _ _ _ _ _ us hl => match us, hl with | [_, _], _ => rfl⟩
  have d_Boxes_spot_of : zZ K C_Boxes "spot_of" "Boxes.spot_of" ym ["self", "group", "seat", "lane"] := ⟨f_d, _, ⟨at_d, fn_d, k_d⟩, zJ l_d c_d k_d, (zJ l_d c_d k_d).binds fun _ _ _ _ _ _ us hl => match us, hl with | [_, _, _, _], _ => rfl⟩
  have d_Boxes_lay : zZ K C_Boxes "lay" "Boxes.lay" yV ["self", "group", "seat", "lane", "number"] := ⟨f_b, _, ⟨at_b, fn_b, k_b⟩, zJ l_b c_b k_b, (zJ l_b c_b k_b).binds fun _ _ _ _ _ _ us hl => match us, hl with | [_, _, _, _, _], _ => rfl⟩
  have d_Boxes_number_at : zZ K C_Boxes "number_at" "Boxes.number_at" ya ["self", "group", "seat", "lane"] := ⟨f_c, _, ⟨at_c, fn_c, k_c⟩, zJ l_c c_c k_c, (zJ l_c c_c k_c).binds fun _ _ _ _ _ _ us hl => match us, hl with | [_, _, _, _], _ => rfl⟩
  have d_Feed_init : InitIn K C_Feed "Feed.__init__" yU ["self", "numbers"] := ⟨f_e, _, ⟨mk_C_Feed, at_e, fn_e, kC_C_Feed⟩, zJ l_e c_e k_e, (zJ l_e c_e k_e).binds fun _ _ _ _ _ _ us hl => match us, hl with | [_, _], _ => rfl⟩
  have d_Feed_taken : zZ K C_Feed "taken" "Feed.taken" yG ["self"] := ⟨f_f, _, ⟨at_f, fn_f, k_f⟩, zJ l_f c_f k_f, (zJ l_f c_f k_f).binds fun _ _ _ _ _ _ us hl => match us, hl with | [_], _ => rfl⟩
  have d_Bench_init : InitIn K C_Bench "Bench.__init__" yI ["self", "lengths", "cells", "lanes", "dust", "picks"] := ⟨f_2, _, ⟨mk_C_Bench, at_2, fn_2, kC_C_Bench⟩, zJ l_2 c_2 k_2, (zJ l_2 c_2 k_2).binds fun _ _ _ _ _ _ us hl => match us, hl with | [_, _, _, _, _, _], _ => rfl⟩
  have d_Bench_open_round : zZ K C_Bench "open_round" "Bench.open_round" zU ["self", "many", "group"] := ⟨f_6, _, ⟨at_6, fn_6, k_6⟩, zJ l_6 c_6 k_6, (zJ l_6 c_6 k_6).binds fun _ _ _ _ _ _ us hl => match us, hl with | [_, _, _], _ => rfl⟩
  have d_Bench_begin_strip : zZ K C_Bench "begin_strip" "Bench.begin_strip" zQ ["self", "base"] := ⟨f_1, _, ⟨at_1, fn_1, k_1⟩, zJ l_1 c_1 k_1, (zJ l_1 c_1 k_1).binds fun _ _ _ _ _ _ us hl => match us, hl with | [_, _], _ => rfl⟩
  have d_Bench_active_under : zZ K C_Bench "active_under" "Bench.active_under" zN ["self", "mask"] := ⟨f_0, _, ⟨at_0, fn_0, k_0⟩, zJ l_0 c_0 k_0, (zJ l_0 c_0 k_0).binds fun _ _ _ _ _ _ us hl => match us, hl with | [_, _], _ => rfl⟩
  have d_Bench_numbers_in : zZ K C_Bench "numbers_in" "Bench.numbers_in" zV ["self", "seat", "active"] := ⟨f_5, _, ⟨at_5, fn_5, k_5⟩, zJ l_5 c_5 k_5, (zJ l_5 c_5 k_5).binds fun _ _ _ _ _ _ us hl => match us, hl with | [_, _, _], _ => rfl⟩
  have d_Bench_lay_seat : zZ K C_Bench "lay_seat" "Bench.lay_seat" yi ["self", "seat", "active", "numbers"] := ⟨f_4, _, ⟨at_4, fn_4, k_4⟩, zJ l_4 c_4 k_4, (zJ l_4 c_4 k_4).binds fun _ _ _ _ _ _ us hl => match us, hl with | [_, _, _, _], _ => rfl⟩
  have d_Bench_lay_mask : zZ K C_Bench "lay_mask" "Bench.lay_mask" yj ["self", "mask", "chosen"] := ⟨f_3, _, ⟨at_3, fn_3, k_3⟩, zJ l_3 c_3 k_3, (zJ l_3 c_3 k_3).binds fun _ _ _ _ _ _ us hl => match us, hl with | [_, _, _], _ => rfl⟩
  have d_Bench_touch : zZ K C_Bench "touch" "Bench.touch" yy ["self", "kind", "address"] := ⟨f_8, _, ⟨at_8, fn_8, k_8⟩, zJ l_8 c_8 k_8, (zJ l_8 c_8 k_8).binds fun _ _ _ _ _ _ us hl => match us, hl with | [_, _, _], _ => rfl⟩
  have d_Bench_read_cell : zZ K C_Bench "read_cell" "Bench.read_cell" yb ["self", "row", "place"] := ⟨f_7, _, ⟨at_7, fn_7, k_7⟩, zJ l_7 c_7 k_7, (zJ l_7 c_7 k_7).binds fun _ _ _ _ _ _ us hl => match us, hl with | [_, _, _], _ => rfl⟩
  have d_Bench_write_cell : zZ K C_Bench "write_cell" "Bench.write_cell" zS ["self", "row", "place", "number"] := ⟨f_9, _, ⟨at_9, fn_9, k_9⟩, zJ l_9 c_9 k_9, (zJ l_9 c_9 k_9).binds fun _ _ _ _ _ _ us hl => match us, hl with | [_, _, _, _], _ => rfl⟩
  have cl_Boxes : Cls K C_Boxes := ⟨c1_C_Boxes, c2_C_Boxes, c3_C_Boxes, c4_C_Boxes⟩
  have cl_Feed : Cls K C_Feed := ⟨c1_C_Feed, c2_C_Feed, c3_C_Feed, c4_C_Feed⟩
  have cl_Bench : Cls K C_Bench := ⟨c1_C_Bench, c2_C_Bench, c3_C_Bench, c4_C_Bench⟩
  have mm := fun {x : Str} {v : Value} (q : PySem.W.nsIn K mainGlobals x = some (some v)) => PySem.W.mg_of X G q
  have mz := fun {x : Str} (q : PySem.W.nsIn K mainGlobals x = some none) => PySem.W.mg_none_of X G q
  refine ⟨PySem.W.fnOf "law" "law" (zn s_law) (zm s_law) (ze s_law) .none kV_r dc_r pm_r an_r cd_r ct_r, fun s v => .of_eq rfl, fun base kb nb => ?_⟩
  let c : MCs := ⟨C_Boxes, C_Feed, C_Bench⟩
  let t : TabA := ⟨TS, TE, TW⟩
  have BC : BCls K C_Boxes := ⟨cl_Boxes, n_C_Boxes_lanes, n_C_Boxes_numbers⟩
  have FC : FCls K C_Feed := ⟨cl_Feed, n_C_Feed_numbers, n_C_Feed_at⟩
  have NC : NCls K C_Bench := ⟨cl_Bench, n_C_Bench_lengths, n_C_Bench_starts, n_C_Bench_cells, n_C_Bench_lanes, n_C_Bench_boxes, n_C_Bench_masks, n_C_Bench_slots, n_C_Bench_dust, n_C_Bench_picks, n_C_Bench_touches, n_C_Bench_at, n_C_Bench_opened, n_C_Bench_many, n_C_Bench_group, n_C_Bench_base, n_C_Bench_begun, n_C_Bench_width, n_C_Bench_faults, n_C_Bench_cut, n_C_Bench_carried, n_C_Bench_raised, n_C_Bench_turns, n_C_Bench_refusal⟩
  have CC : MCls K c := ⟨BC, FC, NC⟩
  have TT : Tabs w K mg t := ⟨⟨esS, nS, lS, kS⟩, ⟨esE, nE, lE, kE⟩, ⟨esW, nW, lW, kW⟩, loS, loE, mm aS, mm aE, mm aW, ⟨_, tS_number, mm a_numbers_written⟩, ⟨_, tS_here, mm a_numbers_of_here⟩, ⟨_, tS_load, mm a_numbers_loaded⟩, ⟨_, tS_spread, mm a_numbers_spread⟩, ⟨_, tS_shift, mm a_numbers_shifted⟩, ⟨_, tS_gather, mm a_numbers_gathered⟩, ⟨_, tS_op, mm a_numbers_joined⟩, ⟨_, tS_pick, mm a_numbers_picked⟩, ⟨_, tS_copy, mm a_numbers_copied⟩, ⟨_, tS_bring, mm a_numbers_brought⟩, ⟨_, tE_reach, mm a_play_reach⟩, tS_reach, ⟨_, tE_trim, mm a_play_trim⟩, tS_trim, ⟨_, tE_stop, mm a_play_stop⟩, tS_stop, ⟨_, tE_choose, mm a_play_choose⟩, tS_choose, ⟨_, tE_other, mm a_play_other⟩, tS_other, ⟨_, tE_save, mm a_play_save⟩, tS_save, ⟨_, tE_store, mm a_play_store⟩, tS_store, ⟨_, tE_put, mm a_play_put⟩, tS_put, ⟨_, tE_fold, mm a_play_fold⟩, tS_fold, ⟨_, tE_running, mm a_play_running⟩, tS_running, ⟨_, tE_any, mm a_play_any⟩, tS_any, ⟨_, tW_begin, mm a_play_begin⟩, tS_begin, tE_begin, ⟨_, tW_next, mm a_play_next⟩, tS_next, tE_next, ⟨_, tW_turns, mm a_play_turns⟩, tS_turns, tE_turns, ⟨_, tW_quiet, mm a_play_quiet⟩, tS_quiet, tE_quiet, ⟨_, tW_till, mm a_play_till⟩, tS_till, tE_till⟩
  have SPo := ok_spot (P := l.prog) (w := w) (mg := mg) (base := base) d_Boxes_spot_of BC
  have LAy := ok_lay d_Boxes_lay BC SPo
  have NUm := ok_num d_Boxes_number_at BC SPo
  have TK := ok_taken (P := l.prog) (w := w) (mg := mg) (base := base) d_Feed_taken FC (mz z_len)
  have IFe := ok_initF (P := l.prog) (w := w) (mg := mg) (base := base) d_Feed_init FC (mz z_list)
  have IBo := ok_initB (P := l.prog) (w := w) (mg := mg) (base := base) d_Boxes_init BC (mm aB)
  have TOu := ok_touch (P := l.prog) (w := w) (mg := mg) (base := base) (c := c) d_Bench_touch NC
  have RCe := ok_read (c := c) d_Bench_read_cell NC TOu
  have WCe := ok_write (c := c) d_Bench_write_cell NC TOu
  have AU := ok_act (P := l.prog) (w := w) (mg := mg) (base := base) (c := c) d_Bench_active_under (mz z_range) NC
  have NI := ok_nums (c := c) d_Bench_numbers_in CC NUm
  have LMa := ok_mask (c := c) d_Bench_lay_mask (mz z_range) CC TK
  have LSe := ok_seat (c := c) d_Bench_lay_seat (mz z_range) (mz z_dict) (mz z_zip) CC TK LAy
  have BSt := ok_strip (c := c) d_Bench_begin_strip (mz z_range) (mz z_list) (mz z_min) CC LMa
  have ORo := ok_round (c := c) d_Bench_open_round CC BSt
  have SOf := ok_start (P := l.prog) (w := w) (base := base) d_start_of (mz z_sum)
  have INi := ok_initN (c := c) d_Bench_init CC (mz z_list) (mz z_len) (mz z_range) (mm aM) (mm aN) (mm a_C_Boxes) (mm a_C_Feed) SOf IBo IFe
  have LSW := ok_lsw (P := l.prog) (base := base) (t := t) d_lays_seat TT
  have HEW := ok_hew (P := l.prog) (base := base) (t := t) d_has_effect TT
  have LO := ok_loaded (c := c) d_numbers_loaded CC RCe
  have STo := ok_store (c := c) d_play_store (mz z_zip) CC AU NI WCe
  have BEg := ok_begin (c := c) d_play_begin CC ORo
  have NEx := ok_next (c := c) d_play_next CC BSt
  have GA1 := ok_gaOne (c := c) d_number_gathered CC RCe
  have GAt := ok_gather (c := c) d_numbers_gathered (mz z_zip) CC NI GA1
  have TRi := ok_trim (P := l.prog) (w := w) (base := base) (c := c) d_play_trim (mz z_len) (mz z_min) CC
  have SPp := ok_stop (P := l.prog) (w := w) (base := base) (c := c) d_play_stop CC
  have SW : SeatWords l.prog w K mg base c t Lx.S 6 := fun word f h => by
    rcases h with ⟨rfl, rfl⟩ | ⟨rfl, rfl⟩
    · exact ⟨_, _, TT.s_load, LO.mono (by decide), loadM_ok⟩
    · exact ⟨_, _, TT.s_gather, GAt.mono (by decide), gatherM_ok⟩
  have EW : EffWords l.prog w K mg base c t Lx.E 7 := fun word f h => by
    rcases h with ⟨rfl, rfl⟩ | ⟨rfl, rfl⟩ | ⟨rfl, rfl⟩
    · exact ⟨TT.es_store, _, _, TT.e_store, STo.mono (by decide)⟩
    · exact ⟨TT.es_trim, _, _, TT.e_trim, TRi.mono (by decide)⟩
    · exact ⟨TT.es_stop, _, _, TT.e_stop, SPp.mono (by decide)⟩
  have WW : WayWords l.prog w K mg base c t Lx.W 8 := fun word f h => by
    rcases h with ⟨rfl, rfl⟩ | ⟨rfl, rfl⟩
    · exact ⟨TT.ws_begin, TT.we_begin, _, _, TT.w_begin, BEg.mono (by decide)⟩
    · exact ⟨TT.ws_next, TT.we_next, _, _, TT.w_next, NEx.mono (by decide)⟩
  have PSS := ok_pss (c := c) (t := t) d_play_seat_step CC TT (by decide) AU LSe SW
  have PEf := ok_pe (c := c) (t := t) (by decide) d_play_effect TT EW
  have PBe := ok_pb (c := c) (t := t) d_place_behind CC TT (by decide) SW EW WW LSW HEW PSS PEf
  have RN0 := ok_ran (c := c) d_ran CC (mz z_len) (mm a_C_Bench) INi PBe
  have RN := ok_lran (c := c) d_l_ran (mz z_list) RN0
  have CA := ok_cell_at (P := l.prog) (w := w) (base := base) d_l_cell_at (mz z_len)
  have SM := ok_some d_l_some CA
  have NB := ok_number d_l_number CA SM
  have AKs : AlK K mg := ⟨mz z_isinstance, mz z_int, mz z_bool, mz z_str, mz z_list, mz z_tuple, k_int_int, k_int_bool, k_int_str, k_int_list, k_int_tuple, k_str_str, k_list_str, k_list_list, k_list_tuple, k_tuple_str, k_tuple_list, k_tuple_tuple⟩
  have AL := ok_alike (P := l.prog) (w := w) (base := base) d_l_alike AKs (mz z_len) (mz z_zip) 3
  have SM2 := ok_some2 d_l_some CA
  have PLc := ok_place d_l_place SM2 NB
  have STr := ok_stripG (P := l.prog) (w := w) (base := base) d_l_strip (mz z_range) (mz z_len) (mz z_int)
  exact ok_law (c := c) (zJ (st := s_law) l_r c_r k_r) (mz z_len) (mz z_range) (mz z_list) (mz z_sum) (mz z_min) (mz z_int) CA SM2 (ok_lanes d_l_lanes) (ok_group d_l_group SM) NB (ok_dust d_l_dust (mz z_range) SM NB) PLc STr AL RN
theorem walk {l : PySem.W.OpenLaw} {q : Program} {loose : List Str} {XP : (Str → Option Value) → Heap → Prop} {YP : World → Heap → Prop} {d : DefRec} {K : Params → PySem.W.Frag} (hn : l.most = some 63) (hdf : d.params.defaults = [])
    (hY : ∀ (w : World) (h : Heap), YP w h → (K w.params).In h)
    (F : ∀ (w : World) (mg : Str → Option Value) (fa : Addr) (h : Heap), (K w.params).In h → h.Ns mainGlobals mg → mg d.name = some (.ref fa) →
      ∃ fd : FuncData, (∀ (s : Shared) (u : Value), BindsTo s fd ⟨[u], []⟩ [("_law_script", u)]) ∧ ∀ base : Heap, (K w.params).In base → base.Ns mainGlobals mg → FnOk l.prog w (K w.params) mg base CX0 12 fa fd ["_law_script"] (spLaw (K w.params))) :
    PySem.W.WalkO q loose XP YP l.row.toRowW d [] (fun f vs => PySem.call f vs) :=
  L2.walk_of (n := 63) (k := 12) (x := "_law_script") (CX := fun _ => CX0) (sp := fun w => spLaw (K w.params)) hn (by decide) hdf ⟨rfl, by decide, by decide⟩ hY F (fun _ _ a ns hl _ hS => ⟨a, ns, rfl, hS, hl, fun _ => rfl⟩) fun _ _ _ _ _ z => z
end K35
open PySem PySem.W PyProof.Rows
set_option maxRecDepth 100000 in
set_option maxHeartbeats 0 in
theorem PySem.Challenge.cw_rowbreadth_k35_gathered_and_cut_holds : PySem.Challenge.rw_rowbreadth_k35_gathered_and_cut.Holds := by
  w_on; o_law; k_head; (case hw => w_witness2)
  k_fill
  refine K35.walk (l := PySem.Challenge.rw_rowbreadth_k35_gathered_and_cut) rfl rfl (fun w h Y => PySem.W.kIn_of Y) ?F
  case F =>
    intro w mg fa h KX G hmg
    refine' K35.all_mk KX G hmg ?q0 ?q1 ?q2 ?q3 ?q4 ?q5 ?q6 ?q7 ?q8 ?q9 ?qa ?qb ?qc ?qd ?qe ?qf ?qg ?qh ?qi ?qj ?qk ?ql ?qm ?qn ?qo ?qp ?qq ?qr ?qs ?qt ?qu ?qv ?qw ?qx ?qy ?qz ?q10 ?q11 ?q12 ?q13 ?q14 ?q15 ?q16 ?q17 ?q18 ?q19 ?q1a ?q1b ?q1c ?q1d ?q1e ?q1f ?q1g ?q1h ?q1i ?q1j ?q1k ?q1l ?q1m ?q1n ?q1o ?q1p ?q1q ?q1r ?q1s ?q1t ?q1u ?q1v ?q1w ?q1x ?q1y ?q1z ?q20 ?q21 ?q22 ?q23 ?q24 ?q25 ?q26 ?q27 ?q28 ?q29 ?q2a ?q2b ?q2c ?q2d ?q2e ?q2f ?q2g ?q2h ?q2i ?q2j ?q2k ?q2l ?q2m ?q2n ?q2o ?q2p ?q2q ?q2r ?q2s ?q2t ?q2u ?q2v ?q2w ?q2x ?q2y ?q2z ?q30 ?q31 ?q32 ?q33 ?q34 ?q35 ?q36 ?q37 ?q38 ?q39 ?q3a ?q3b ?q3c ?q3d ?q3e ?q3f ?q3g ?q3h ?q3i ?q3j ?q3k ?q3l ?q3m ?q3n ?q3o ?q3p ?q3q ?q3r ?q3s ?q3t ?q3u ?q3v ?q3w ?q3x ?q3y ?q3z ?q40 ?q41 ?q42 ?q43 ?q44 ?q45 ?q46 ?q47 ?q48 ?q49 ?q4a ?q4b ?q4c ?q4d ?q4e ?q4f ?q4g ?q4h ?q4i ?q4j ?q4k ?q4l ?q4m ?q4n ?q4o ?q4p ?q4q ?q4r ?q4s ?q4t ?q4u ?q4v ?q4w ?q4x ?q4y ?q4z ?q50 ?q51 ?q52 ?q53 ?q54 ?q55 ?q56 ?q57 ?q58 ?q59 ?q5a ?q5b ?q5c ?q5d ?q5e ?q5f ?q5g ?q5h ?q5i ?q5j ?q5k ?q5l ?q5m ?q5n ?q5o ?q5p ?q5q ?q5r ?q5s ?q5t ?q5u ?q5v ?q5w ?q5x ?q5y ?q5z ?q60 ?q61 ?q62 ?q63 ?q64 ?q65 ?q66 ?q67 ?q68 ?q69 ?q6a ?q6b ?q6c ?q6d ?q6e ?q6f ?q6g ?q6h ?q6i ?q6j ?q6k ?q6l ?q6m ?q6n ?q6o ?q6p ?q6q ?q6r ?q6s ?q6t ?q6u ?q6v ?q6w ?q6x ?q6y ?q6z ?q70 ?q71 ?q72 ?q73 ?q74 ?q75 ?q76 ?q77 ?q78 ?q79 ?q7a ?q7b ?q7c ?q7d ?q7e ?q7f ?q7g ?q7h ?q7i ?q7j ?q7k ?q7l ?q7m ?q7n ?q7o ?q7p ?q7q ?q7r ?q7s ?q7t ?q7u ?q7v ?q7w ?q7x ?q7y ?q7z ?q80 ?q81 ?q82 ?q83 ?q84 ?q85 ?q86 ?q87 ?q88 ?q89 ?q8a ?q8b ?q8c ?q8d ?q8e ?q8f ?q8g ?q8h ?q8i ?q8j ?q8k ?q8l ?q8m ?q8n ?q8o ?q8p ?q8q ?q8r ?q8s ?q8t ?q8u ?q8v ?q8w ?q8x ?q8y ?q8z ?q90 ?q91 ?q92 ?q93 ?q94 ?q95 ?q96 ?q97 ?q98 ?q99 ?q9a ?q9b
    (case q0 | q1 | q2 | q3 | q4 | q5 | q6 | q7 | q8 | q9 | qa | qb | qc | qd | qe | qf | qg | qh | qi | qj | qk | ql | qm | qn | qo | qp | qq | qr | qs | qt | qu | qv | qw | qx | qy | qz | q10 | q11 | q12 | q13 => k_is)
    (case q14 | q15 | q16 | q17 | q18 | q19 | q1a | q1b | q1c | q1d | q1e | q1f | q1g | q1h | q1i | q1j | q1k | q1l | q1m | q1n | q1o | q1p | q1q | q1r | q1s | q1t | q1u | q1v | q1w | q1x | q1y | q1z | q20 | q21 | q22 | q23 | q24 | q25 | q26 | q27 => k_is)
    (case q28 | q29 | q2a | q2b | q2c | q2d | q2e | q2f | q2g | q2h | q2i | q2j | q2k | q2l | q2m | q2n | q2o | q2p | q2q | q2r | q2s | q2t | q2u | q2v | q2w | q2x | q2y | q2z | q30 | q31 | q32 | q33 | q34 | q35 | q36 | q37 | q38 | q39 | q3a | q3b => k_is)
    (case q3c | q3d | q3e | q3f | q3g | q3h | q3i | q3j | q3k | q3l | q3m | q3n | q3o | q3p | q3q | q3r | q3s | q3t | q3u | q3v | q3w | q3x | q3y | q3z | q40 | q41 | q42 | q43 | q44 | q45 | q46 | q47 | q48 | q49 | q4a | q4b | q4c | q4d | q4e | q4f => k_is)
    (case q4g | q4h | q4i | q4j | q4k | q4l | q4m | q4n | q4o | q4p | q4q | q4r | q4s | q4t | q4u | q4v | q4w | q4x | q4y | q4z | q50 | q51 | q52 | q53 | q54 | q55 | q56 | q57 | q58 | q59 | q5a | q5b | q5c | q5d | q5e | q5f | q5g | q5h | q5i | q5j => k_is)
    (case q5k | q5l | q5m | q5n | q5o | q5p | q5q | q5r | q5s | q5t | q5u | q5v | q5w | q5x | q5y | q5z | q60 | q61 | q62 | q63 | q64 | q65 | q66 | q67 | q68 | q69 | q6a | q6b | q6c | q6d | q6e | q6f | q6g | q6h => k_is)
    (case q6i => k_keys)
    (case q6j | q6k => k_is)
    (case q6l => k_keys)
    (case q6m | q6n => k_is)
    (case q6o => k_keys)
    (case q6p | q6q | q6r | q6s | q6t | q6u | q6v | q6w | q6x | q6y | q6z | q70 | q71 | q72 | q73 | q74 | q75 | q76 | q77 | q78 | q79 | q7a | q7b | q7c | q7d | q7e | q7f | q7g | q7h | q7i | q7j | q7k | q7l | q7m | q7n | q7o | q7p | q7q | q7r | q7s => k_is)
    (case q7t | q7u | q7v | q7w | q7x | q7y | q7z | q80 | q81 | q82 | q83 | q84 | q85 | q86 | q87 | q88 | q89 | q8a | q8b | q8c | q8d | q8e | q8f | q8g | q8h | q8i => k_is)
    (case q8j | q8k => rfl)
    (case q8l | q8m | q8n | q8o | q8p | q8q | q8r | q8s | q8t | q8u | q8v | q8w => kit_is)
    (case q8x | q8y | q8z | q90 | q91 | q92 | q93 | q94 | q95 | q96 | q97 | q98 | q99 | q9a | q9b => k_is)
