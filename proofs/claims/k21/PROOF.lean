import PyProof.Rows.All
import Wide.All
import OpenK.AllK
import Wide.FinOn
import HandS.Iter
import HandS.Comp
import HandS.Text
import HandS.Codes
import HandS.Call
import HandS.Walk
import PyProof.EnumMake
import KE.GoesMore
import KE.GoesEnum
import KE.GoesNew
import KE.KDictZip
import HandS.Dict
import HandS.List
import HandS.Words
import HandS.Replace
import HandS.ForMost
import HandS.IsInst
import HandS.Zip
import OpenK.KMore
import HandS.Exc
import HandS.ExcInit
import HandS.ExcField
import HandS.HotCalls
import HandS.Lambda
import HandS.WordsExc
import HandS.CallSlots
import KE.KTryMore
import HandS.More
import PyProof.CollectStr
import HandS.Property
import HandS.Style
import HandS.OwnEq
import HandS.TryOnly
import HandS.Star
import HandS.FStr
import HandS.RaiseMore
import HandS.TupAny
import HandS.MakeKw
import HandS.MakeKwOnly
import KE.KCallOwn
import HandS.ReplaceList
import HandS.ReplaceLit
import HandS.DictComp
import HandS.ClsMeth
import HandS.Defaults
import HandS.Nested
import HandS.StrMore
import HandS.Head2
import HandS.HeadHook4
import HandS.HeadNt
import HandS.HeadWalk
import HandS.HeadEnd
import PySem.Challenge.RW_ownfill_k21_differences_of_filled_templa
set_option Elab.async false
set_option linter.all false
set_option maxRecDepth 100000
set_option maxHeartbeats 4000000
namespace Own
open PySem PySem.Spec PyProof.Rows L2

/-! ### walks that give a new tuple at each turn -/
/-- what an iterator of new tuples gives, in the library's words (GoesN), is a turn of the hand layer: at turn i the tuple's items are some vs with R i vs -/
theorem turn_tuples {P : Program} {w : World} {K : PySem.W.Frag} {tg : Expr} {I : Addr} {fp wr : List Addr} {n : Nat} {St : Nat → Heap → Prop}
    {Y : Nat → Heap → Value → Heap → Prop} {R : Nat → List V → Prop} {J : It} (W : ∀ A : Around, A.handled = none → GoesN P w A tg I fp wr n Y St)
    (hY : ∀ i h0 u h, Y i h0 u h → ∃ T vs us, u = .ref T ∧ h0.objs.size ≤ T ∧ vs.length ≤ sizeLine ∧ R i vs ∧ Vals vs us ∧ h.IsTuple T us.toArray)
    (mem : I ∈ fp) (obj : ∀ i h, St i h → ∀ b ∈ fp, ∃ o, h.get? b = some o ∧ ∀ v, o.data ≠ .cell v)
    (self : ∀ (A : Around) (i : Nat) (s : Shared) (Q : Value → Shared → Prop) (E : Value → Shared → Prop), St i s.heap → Q (.ref I) s → wpAny (model P w) A (pyIter (.ref I)) Q E s)
    (go : ∀ i H, J.go i H → i < n) (stop : ∀ i H, J.stop i H → i = n) (yld : ∀ i H T vs, H T = none → R i vs → J.yld i H (.ref T) (upd H T (.tup vs))) :
    Turn P w K tg J fp I St := by
  refine ⟨mem, obj, fun i h h' st k => (W callerA rfl).frame i h h' st k, ?_, ?_, self⟩
  · rintro X rfl rfl rfl calm i pins s σ H E I0 off st hg
    have G := W X.A (I0.ok.hd calm)
    refine G.goes i s (fun u s2 => ∃ x H', Inv X pins σ H' s2 ∧ RelV x u ∧ J.yld i H x H' ∧ St (i + 1) s2.heap ∧ ∀ b ∈ fp, H' b = none) E (go i H hg) st fun u h tk y st' rest _ => ?_
    obtain ⟨T, vs, us, rfl, young, len, r, rel, tup⟩ := hY _ _ _ _ y
    refine ⟨.ref T, upd H T (.tup vs), ?_, rfl, yld i H T vs (I0.hok.fresh young) r, st', fun b hb => ?_⟩
    · refine I0.turnedNew (t' := tk) (ch := fp) (fun b o nb q => rest b o (fun m => nb (G.sub b m)) q) off young ?_
      obtain ⟨o, e1, e2, e3⟩ := tup
      exact ⟨len, us, rel, o, e1, e2, e3⟩
    · obtain ⟨o, ho, _⟩ := obj i s.heap st b hb
      rw [upd_ne (Nat.ne_of_lt (Nat.lt_of_lt_of_le (Heap.lt_size ho) young))]
      exact (off b hb).1
  · rintro X rfl rfl rfl calm i pins s σ H E I0 off st hg
    have G := W X.A (I0.ok.hd calm)
    rw [stop i H hg] at st
    exact G.stops s (fun s1 => Inv X pins σ H s1) E st fun h tk rest _ => I0.turnedL (t' := tk) (ch := fp) (fun b o nb q => rest b o (fun m => nb (G.sub b m)) q) off

/-! ### a text's signs numbered -/
def ItE (z : Str) : It :=
  ⟨fun i _ => i < z.cps.size,
   fun i H v H' => ∃ T c, v = .ref T ∧ H T = none ∧ z.cps[i]? = some c ∧
     H' = upd H T (.tup [.int (i : Nat), .str ⟨#[c]⟩]),
   fun i _ => i = z.cps.size⟩

theorem turnE {P : Program} {w : World} {K : PySem.W.Frag} {elts : List Expr} {kk : Nat} {tpos : Pos} (z : Str) (t : Tok) (e it : Addr) (ne : e ≠ it) :
    Turn P w K (.Tuple elts kk tpos) (ItE z) [e, it] e
      (fun i h => (∃ old, IsEnum h e it (0 + (i : Int)) old) ∧ h.IsStrIter it (strIterType z) z t i) := by
  refine turn_tuples (R := fun i vs => ∃ c, z.cps[i]? = some c ∧ vs = [.int (i : Nat), .str ⟨#[c]⟩])
    (fun A hh => GoesN.enumFrom (elts := elts) (x1 := kk) (pos := tpos) 0 (Draws.text (prog := P) (w := w) (A := A.in1) hh it z t) e ne
      (fun m => ne (List.mem_singleton.mp m)) (List.mem_singleton.mpr rfl)) ?_ List.mem_cons_self ?_ ?_ (fun _ _ h => h) (fun _ _ h => h) ?_
  · rintro i h0 u h ⟨T, k, x, rfl, young, ⟨c, v, hc, rfl⟩, tup⟩
    rw [Int.zero_add] at tup
    exact ⟨T, _, [_, _], rfl, young, by show 2 ≤ sizeLine; decide, ⟨c, hc, rfl⟩, .cons ⟨_, rfl⟩ (.cons ⟨_, rfl⟩ .nil), tup⟩
  · rintro i h ⟨⟨old, he⟩, ⟨o, ho, _, hd⟩⟩
    simp only [List.forall_mem_cons]
    exact ⟨⟨_, he, fun v => nofun⟩, ⟨o, ho, fun v q => by rw [hd] at q; cases q⟩, fun _ q => nomatch q⟩
  · rintro A i s Q E ⟨⟨_, he⟩, _⟩ h
    exact wpAny_pyIter_enum he h
  · rintro i H T vs free ⟨c, hc, rfl⟩
    exact ⟨T, c, rfl, free, hc, rfl⟩

def iEnS (ta : TA) : TI := fun σ H R => ta σ H fun vs H1 => ∃ z, vs = [.str z] ∧ R (ItE z) H1

theorem pi_enS {X : Cx} {e : Expr} {ta : TA} {p pos tpos : Pos} {elts : List Expr} {kk : Nat}
    (hg : Gl X "enumerate") (hm : X.mg "enumerate" = none) (ha : PA X [e] ta)
    (hs : starEach [e] X.env = [(false, eval e X.env)] := by rfl) :
    PI X (.Tuple elts kk tpos) (.Call (.Name "enumerate" p) [e] [] pos) (iEnS ta) := by
  constructor
  intro pins s σ H R I h
  refine Call_ (ld_blt I hg hm boot_enumerate (PyProof.Rows.callWith_type1 (thn (ha.run pos pins s σ H _ I h) ?_) hs rfl))
  rintro us s1 ⟨vs, H1, I1, r1, z, rfl, q⟩
  obtain ⟨u, rfl, t, rfl⟩ := vals1 r1
  refine call_enumerate_str fun h' he hit _ hk => wpAny_pyIter_enum he ?_
  refine ⟨s1.heap.objs.size + 1, [s1.heap.objs.size + 1, s1.heap.objs.size], _, _, H1, rfl, I1.kept hk, turnE z t _ _ (Nat.succ_ne_self _), ⟨⟨.none, he⟩, hit⟩, ?_, q⟩
  have young : ∀ b, s1.heap.objs.size ≤ b → FpOk X pins H1 b := fun b lb => I1.fpOk lb (I1.hok.fresh lb)
  simp only [List.forall_mem_cons]
  exact ⟨young _ (Nat.le_add_right _ _), young _ (Nat.le_refl _), fun _ q => nomatch q⟩

theorem walkE {z : Str} : Walk (ItE z) z.cps.size (fun _ => True)
    (fun i H v H' => ∃ T c, v = .ref T ∧ H T = none ∧ z.cps[i]? = some c ∧
      H' = upd H T (.tup [.int (i : Nat), .str ⟨#[c]⟩])) :=
  ⟨fun _ _ h _ => h, fun _ _ => rfl, fun _ _ _ _ _ _ h => h⟩
end Own

namespace Own
open PySem PySem.Spec PyProof.Rows L2
/-! ### dict(zip(s, t)): a zip of any two iterators as a source of pairs -/
section
variable {P : Program} {w : World} {A : Around} {z TI TO T i1 i2 d : Addr} {f1 f2 : List Addr} {n1 n2 i : Nat} {s : Shared}
variable {R1 R2 : Nat → Value → Prop} {S1 S2 : Nat → Heap → Prop}

/-- one step of a zip of two whose last tuple is still out: first the one iterator, then the other, then a pair of its own -/
theorem zip_out {f : Bool} {o : Obj} {Q : Fin → Shared → Prop} {E : Value → Shared → Prop} (hz : IsZipHeld s.heap z TI TO T f)
    (hT : s.heap.get? T = some o) (hI : IsTupOf2 s.heap TI (.ref i1) (.ref i2))
    (k : ∀ g, IsZipHeld g z TI TO T true → Heap.SameBut z s.heap g →
      wpAny (model P w) A (Builtin.SmallTypes.nextOf (.ref i1)) (fun x s1 =>
        wpAny (model P w) A (Builtin.SmallTypes.nextOf (.ref i2)) (fun y s2 =>
          Q (.done (.ret (.ref s2.heap.objs.size)))
            { s2 with heap := s2.heap.push { cls := .type "tuple", data := .seq #[x, y] } }) E s1) E { s with heap := g }) :
    wpAny (model P w) A (Builtin.«zip.__next__» ⟨[.ref z], []⟩) Q E s := by
  refine wpAny_bind (m := field (.ref z) 2) (wpAny_field hz rfl (x := .bool false) rfl
    (wpAny_bind (m := field (.ref z) 3) (wpAny_field hz rfl (x := .ref TI) rfl (wpAny_bind (wpAny_seqItems hI rfl
      (wpAny_bind (m := Builtin.SmallTypes.ownedTupleIsFree (.ref z)) (wpAny_tupleHeld_zip hz hT fun g hg hs => ?_)))))))
  rw [if_neg Bool.false_ne_true]
  refine wpAny_bind ?_
  simp only [← Array.forIn_toList, List.forIn_cons, List.forIn_nil]
  refine wpAny_bind (wpAny_bind (wpAny_holding (wpAny_bind (m := Builtin.SmallTypes.nextOf (.ref i1)) ?_)))
  refine wpAny_mono (k g hg hs) (fun x s1 h1 => ?_) fun _ _ h => h
  refine wpAny_pure (wpAny_pure (wpAny_bind (wpAny_bind (wpAny_holding (wpAny_bind (m := Builtin.SmallTypes.nextOf (.ref i2)) ?_)))))
  refine wpAny_mono h1 (fun y s2 h2 => ?_) fun _ _ h => h
  exact wpAny_pure (wpAny_pure (wpAny_pure (wpAny_bind (m := newTuple [x, y]) (wpAny_newTuple (wpAny_pure h2)))))

/-- next(zip), told by its `__next__`: an item, or a StopIteration -/
theorem next_zip {Q : Option Value → Shared → Prop} {E : Value → Shared → Prop} (hy : s.TypeIs (.ref z) "zip")
    (h : wpAny (model P w) A.in1 (Builtin.«zip.__next__» ⟨[.ref z], []⟩) (fun r s' => ∃ v, r = .done (.ret v) ∧ Q (some v) s')
      (fun e s' => ∃ a o, e = .ref a ∧ s'.heap.get? a = some o ∧ o.cls = .type "StopIteration" ∧ Q none s') s) :
    wpAny (model P w) A (pyNext (.ref z)) Q E s := by
  unfold pyNext
  refine wpAny_bind (wpAny_attempt (wpAny_callSpecial?_slot (name := Str.ofString "__next__") hy F.slot_zip_next
    (wpAny_call_entry F.slot_zip_next hy F.entry_zip_next (wpAny_mono h (fun r s' ⟨v, e, q⟩ => ⟨v, e, wpAny_pure q⟩) fun e s' hs => ?_)
      (F.args_zip_next_1 _))))
  obtain ⟨a, o, rfl, ho, hc, q⟩ := hs
  exact wpAny_bind (wpAny_isInstance (T := "StopIteration") (b := true) ⟨o, ho, hc⟩ isSubtype_stop (wpAny_pure q))

/-- the zip at turn i: not asked yet, or its last tuple T is still out -/
def ZipAt (z TI TO i1 i2 d : Addr) (S1 S2 : Nat → Heap → Prop) (i : Nat) (h : Heap) : Prop :=
  IsTupOf2 h TI (.ref i1) (.ref i2) ∧ S1 i h ∧ S2 i h ∧
    ((IsZip h z TI TO .none ∧ ∃ u v, IsTupOf2 h TO u v) ∨
      ∃ T f o, IsZipHeld h z TI TO T f ∧ h.get? T = some o ∧ ∀ b ∈ [z, i1, i2, d], T ≠ b)

/-- all outside of some places stays -/
def Rest (l : List Addr) (h h' : Heap) : Prop := ∀ b o, b ∉ l → h.get? b = some o → h'.get? b = some o
theorem Rest.of {h h' : Heap} {x : Addr} (e : Heap.SameBut x h h') : Rest [x] h h' :=
  fun b o hb q => e.extBut b o (fun r => hb (List.mem_singleton.mpr r)) q
theorem Rest.push {h : Heap} {o : Obj} : Rest [] h (h.push o) := fun _ _ _ q => Heap.get?_push_of_some _ q
theorem Rest.seq {l1 l2 : List Addr} {h h1 h2 : Heap} (a : Rest l1 h h1) (b : Rest l2 h1 h2) : Rest (l1 ++ l2) h h2 :=
  fun c o hc q => b c o (fun r => hc (List.mem_append_right _ r)) (a c o (fun r => hc (List.mem_append_left _ r)) q)
theorem Rest.more {l1 l2 : List Addr} {h h' : Heap} (a : Rest l1 h h') (b : ∀ c ∈ l1, c ∈ l2) : Rest l2 h h' :=
  fun c o hc q => a c o (fun r => hc (b c r)) q

theorem src_zip (S : ZipSep2 z TI TO i1 i2 f1 f2) (D1 : Draws P w A.in1 i1 f1 n1 R1 S1) (D2 : Draws P w A.in1 i2 f2 n2 R2 S2)
    (off : ∀ b, b ∈ z :: TI :: TO :: f1 ++ f2 → d ≠ b) :
    PairSrc P w A z d [z, TO, i1, i2] (min n1 n2) (fun i k v => R1 i k ∧ R2 i v) (ZipAt z TI TO i1 i2 d S1 S2) := by
  have dz : d ≠ z := off z (by simp)
  have dI : d ≠ TI := off TI (by simp)
  have dO : d ≠ TO := off TO (by simp)
  have d1 : ∀ b ∈ f1, d ≠ b := fun b hb => off b (by simp [hb])
  have d2 : ∀ b ∈ f2, d ≠ b := fun b hb => off b (by simp [hb])
  have go1 : ∀ {i : Nat} {g g' : Heap} {l : List Addr}, S1 i g → Rest l g g' → (∀ b ∈ l, b ∉ f1) → S1 i g' :=
    fun st r a => D1.frame _ _ _ st fun b hb o q => r b o (fun m => a b m hb) q
  have go2 : ∀ {i : Nat} {g g' : Heap} {l : List Addr}, S2 i g → Rest l g g' → (∀ b ∈ l, b ∉ f2) → S2 i g' :=
    fun st r a => D2.frame _ _ _ st fun b hb o q => r b o (fun m => a b m hb) q
  refine ⟨?_, ?_, ?_, ?_⟩
  · intro m
    rcases List.mem_cons.mp m with r | m
    · exact dz r
    rcases List.mem_cons.mp m with r | m
    · exact dO r
    rcases List.mem_cons.mp m with r | m
    · exact d1 _ S.mem1 r
    · exact d2 _ S.mem2 (List.mem_singleton.mp m)
  · rintro i g g' ⟨hI, a, b, c⟩ k
    have rd : Rest [d] g g' := fun x o hx q => k x o (fun r => hx (List.mem_singleton.mpr r)) q
    refine ⟨k _ _ dI.symm hI, go1 a rd fun x hx m => d1 x m (List.mem_singleton.mp hx).symm,
      go2 b rd fun x hx m => d2 x m (List.mem_singleton.mp hx).symm, ?_⟩
    rcases c with ⟨c, u, v, e⟩ | ⟨T, f, o, c, e, n⟩
    · exact .inl ⟨k _ _ dz.symm c, u, v, k _ _ dO.symm e⟩
    · exact .inr ⟨T, f, o, k _ _ dz.symm c, k _ _ (n d (by simp)) e, n⟩
  · rintro i s Q E hi ⟨hI, a, b, c⟩ ld hQ
    have l1 : i < n1 := Nat.lt_of_lt_of_le hi (Nat.min_le_left ..)
    have l2 : i < n2 := Nat.lt_of_lt_of_le hi (Nat.min_le_right ..)
    have old : ∀ {x o}, s.heap.get? x = some o → s.heap.objs.size ≠ x := fun q => Nat.ne_of_gt (Heap.lt_size q)
    obtain ⟨o1, e1⟩ := D1.live _ _ a
    obtain ⟨o2, e2⟩ := D2.live _ _ b
    rcases c with ⟨c, u, v, e⟩ | ⟨T, f, o, c, e, n⟩
    · refine wpAny_pyNext_zipD2_item S D1 D2 c hI e a b l1 l2 fun x y g tk hx hy gz gO ga gb gp _ k => ?_
      have r : Rest [z, TO, i1, i2] s.heap g := fun b o hb q => k b o (fun x => hb (by simp [x])) (fun x => hb (by simp [x]))
        (fun x => hb (by simp [x])) (fun x => hb (by simp [x])) q
      refine hQ _ _ _ g tk ⟨hx, hy⟩ (.inl ⟨_, gp, rfl, _, rfl⟩) ⟨k _ _ S.TIz S.TITO S.TIi1 S.TIi2 hI, ga, gb, .inr ⟨_, false, _, gz, gp, ?_⟩⟩ r
      simp only [List.forall_mem_cons]
      exact ⟨old c, old e1, old e2, Nat.ne_of_gt ld, fun _ q => nomatch q⟩
    · have nz : T ≠ z := n z (by simp)
      have n1' : T ≠ i1 := n i1 (by simp)
      have n2' : T ≠ i2 := n i2 (by simp)
      refine next_zip ⟨_, c, rfl⟩ (zip_out c e hI fun g gz gs => ?_)
      have r0 := Rest.of gs
      refine D1.item i _ _ _ l1 (go1 a r0 fun x hx => by rw [List.mem_singleton.mp hx]; exact S.zf1) fun x g1 t1 hx a1 s1 => ?_
      have r1 := Rest.of (show Heap.SameBut i1 g g1 from s1)
      have b1 := go2 (go2 b r0 fun x hx => by rw [List.mem_singleton.mp hx]; exact S.zf2) r1 fun x hx => by rw [List.mem_singleton.mp hx]; exact S.sep1_2
      refine D2.item i _ _ _ l2 b1 fun y g2 t2 hy b2 s2 => ?_
      have r2 := Rest.of (show Heap.SameBut i2 g1 g2 from s2)
      have rp : Rest [] g2 (g2.push { cls := .type "tuple", data := .seq #[x, y] }) := Rest.push
      have all : Rest [z, i1, i2] s.heap (g2.push { cls := .type "tuple", data := .seq #[x, y] }) := ((r0.seq r1).seq r2).seq rp
      have keep : ∀ b o, b ≠ z → b ≠ i1 → b ≠ i2 → s.heap.get? b = some o → (g2.push { cls := .type "tuple", data := .seq #[x, y] }).get? b = some o :=
        fun b o h1 h2 h3 q => all b o (by simp [h1, h2, h3]) q
      have gz2 : IsZipHeld g2 z TI TO T true := r2 _ _ (by simp [S.zi2]) (r1 _ _ (by simp [S.zi1]) gz)
      refine ⟨_, rfl, hQ _ _ _ _ t2 ⟨hx, hy⟩ (.inl ⟨_, Heap.get?_push_size _ rfl, rfl, _, rfl⟩) ⟨keep _ _ S.TIz S.TIi1 S.TIi2 hI,
        go1 (go1 a1 r2 fun x hx => by rw [List.mem_singleton.mp hx]; exact S.sep2_1) rp (fun _ h => nomatch h), go2 b2 rp (fun _ h => nomatch h),
        .inr ⟨T, true, o, rp _ _ (by simp) gz2, keep _ _ nz n1' n2' e, n⟩⟩ (all.more fun c hc => ?_)⟩
      revert c
      simp only [List.nil_append, List.cons_append, List.forall_mem_cons]
      exact ⟨by simp, by simp, by simp, fun _ q => nomatch q⟩
  · rintro s Q E ⟨hI, a, b, c⟩ hQ
    have m1 := Nat.min_le_left n1 n2
    have m2 := Nat.min_le_right n1 n2
    have hm : min n1 n2 = n1 ∨ min n1 n2 = n2 := by omega
    rcases c with ⟨c, u, v, e⟩ | ⟨T, f, o, c, e, n⟩
    · refine wpAny_pyNext_zipD2_end S D1 D2 c hI e a b m1 m2 hm fun g tk k => hQ g tk fun b o hb q => ?_
      exact k b o (fun x => hb (by simp [x])) (fun x => hb (by simp [x])) (fun x => hb (by simp [x])) (fun x => hb (by simp [x])) q
    · refine next_zip ⟨_, c, rfl⟩ (zip_out c e hI fun g gz gs => ?_)
      have r0 := Rest.of gs
      have a0 := go1 a r0 fun x hx => by rw [List.mem_singleton.mp hx]; exact S.zf1
      have b0 := go2 b r0 fun x hx => by rw [List.mem_singleton.mp hx]; exact S.zf2
      by_cases h1 : min n1 n2 < n1
      · refine D1.item _ _ _ _ h1 a0 fun x g1 t1 hx a1 s1 => ?_
        have r1 := Rest.of (show Heap.SameBut i1 g g1 from s1)
        have b1 := go2 b0 r1 fun x hx => by rw [List.mem_singleton.mp hx]; exact S.sep1_2
        have e2 : min n1 n2 = n2 := by omega
        rw [e2] at b1
        refine D2.done _ _ _ b1 fun g2 x q hx => ?_
        obtain ⟨o', ho, hc⟩ := hx
        have r2 : Rest [i2] g1 g2 := fun b o hb y => q b o (fun r => hb (List.mem_singleton.mpr r)) y
        refine ⟨x, o', rfl, ho, hc, hQ g2 t1 (((r0.seq r1).seq r2).more fun c hc => ?_)⟩
        revert c
        simp only [List.nil_append, List.cons_append, List.forall_mem_cons]
        exact ⟨by simp, by simp, by simp, fun _ q => nomatch q⟩
      · have e1 : min n1 n2 = n1 := by omega
        rw [e1] at a0
        refine D1.done _ _ _ a0 fun g2 x q hx => ?_
        obtain ⟨o', ho, hc⟩ := hx
        have r2 : Rest [i1] g g2 := fun b o hb y => q b o (fun r => hb (List.mem_singleton.mpr r)) y
        refine ⟨x, o', rfl, ho, hc, hQ g2 s.toks ((r0.seq r2).more fun c hc => ?_)⟩
        revert c
        simp only [List.nil_append, List.cons_append, List.forall_mem_cons]
        exact ⟨by simp, by simp, fun _ q => nomatch q⟩
end

/-- a zip of two texts, not asked yet -/
structure ZipNew (z TI TO i1 i2 : Addr) (x y : Str) (t u : Tok) (h : Heap) : Prop where
  zip : IsZip h z TI TO .none
  its : IsTupOf2 h TI (.ref i1) (.ref i2)
  out : ∃ a b, IsTupOf2 h TO a b
  one : h.IsStrIter i1 (strIterType x) x t 0
  two : h.IsStrIter i2 (strIterType y) y u 0

/-- the pairs of two texts' signs -/
theorem argZ {prog : Program} {w : World} (z TI TO i1 i2 : Addr) (x y : Str) (t u : Tok) (S : ZipSep2 z TI TO i1 i2 [i1] [i2]) :
    PairArg prog w "zip" z [z, TI, TO, i1, i2] [z, TO, i1, i2] (min x.cps.size y.cps.size)
      (fun i k v => (∃ c r, x.cps[i]? = some c ∧ k = .str ⟨#[c]⟩ r) ∧ (∃ c r, y.cps[i]? = some c ∧ v = .str ⟨#[c]⟩ r))
      (ZipNew z TI TO i1 i2 x y t u) := by
  refine ⟨fun s ok => ⟨_, ok.zip, rfl⟩, by decide, fun h h' ok k => ?_, fun h ok b hb => ?_, fun b hb => ?_,
    fun A s Q E hA ok h => getAttrOr_miss_zip ok.zip rfl rfl rfl zip_no_keys (by decide +kernel) hA h, fun A s d Q E hA ok hd hdf h => ?_⟩
  · obtain ⟨a, b, ho⟩ := ok.out
    obtain ⟨o1, e1, r1⟩ := ok.one
    obtain ⟨o2, e2, r2⟩ := ok.two
    exact ⟨k _ _ ok.zip, k _ _ ok.its, ⟨a, b, k _ _ ho⟩, ⟨o1, k _ _ e1, r1⟩, ⟨o2, k _ _ e2, r2⟩⟩
  · obtain ⟨_, _, ho⟩ := ok.out
    obtain ⟨o1, e1, _⟩ := ok.one
    obtain ⟨o2, e2, _⟩ := ok.two
    have all : ∀ c ∈ [z, TI, TO, i1, i2], ∃ o, h.get? c = some o := by
      simp only [List.forall_mem_cons]
      exact ⟨⟨_, ok.zip⟩, ⟨_, ok.its⟩, ⟨_, ho⟩, ⟨_, e1⟩, ⟨_, e2⟩, fun _ q => nomatch q⟩
    exact all b hb
  · have all : ∀ c ∈ [z, TO, i1, i2], c ∈ [z, TI, TO, i1, i2] := by
      simp only [List.forall_mem_cons]
      exact ⟨by simp, by simp, by simp, by simp, fun _ q => nomatch q⟩
    exact all b hb
  · have D1 := Draws.text (prog := prog) (w := w) (A := A.in1) hA i1 x t
    have D2 := Draws.text (prog := prog) (w := w) (A := A.in1) hA i2 y u
    have src := src_zip (d := d) S D1 D2 fun b hb r => hdf (by rw [r]; simpa using hb)
    exact wpAny_pyIter_zip ok.zip (h z [z, TO, i1, i2] _ s.heap s.toks src ⟨ok.its, ok.one, ok.two, .inl ⟨ok.zip, ok.out⟩⟩ (fun _ _ e => e) fun b hb => .inl hb)
end Own

namespace Own
open PySem PySem.Spec PyProof.Rows L2
/-- the pairs of two texts -/
def zipS (x y : Str) : List (Key × V) :=
  (x.cps.toList.zip y.cps.toList).map fun p => (Sum.inr ⟨#[p.1]⟩, V.str ⟨#[p.2]⟩)

theorem zipS_len (x y : Str) : (zipS x y).length = min x.cps.size y.cps.size := by
  unfold zipS
  rw [List.length_map, List.length_zip]
  rfl
theorem zipS_at {x y : Str} {i a b : Nat} (hx : x.cps[i]? = some a) (hy : y.cps[i]? = some b) :
    (zipS x y)[i]? = some (Sum.inr ⟨#[a]⟩, V.str ⟨#[b]⟩) := by
  unfold zipS
  rw [← Array.getElem?_toList] at hx hy
  rw [List.getElem?_map, List.getElem?_zip_eq_some (z := (a, b)) |>.mpr ⟨hx, hy⟩]
  rfl
theorem mergeK_snoc (kvs more : List (Key × V)) {i : Nat} {k : Key} {v : V}
    (h : more[i]? = some (k, v)) :
    mergeK kvs (more.take (i + 1)) = putK (mergeK kvs (more.take i)) k v := by
  unfold mergeK
  rw [List.take_add_one, h]
  simp

theorem call_dz {prog : Program} {w : World} {A : Around} {E : Value → Shared → Prop}
    {s : Shared} {z TI TO i1 i2 : Addr} {x y : Str} {t u : Tok}
    {Q : Value → Shared → Prop} (S : ZipSep2 z TI TO i1 i2 [i1] [i2]) (hh : A.handled = none)
    (hz : IsZip s.heap z TI TO .none) (hTI : IsTupOf2 s.heap TI (.ref i1) (.ref i2))
    (hTO : ∃ a b, IsTupOf2 s.heap TO a b) (h1 : s.heap.IsStrIter i1 (strIterType x) x t 0)
    (h2 : s.heap.IsStrIter i2 (strIterType y) y u 0) (hsz : min x.cps.size y.cps.size ≤ sizeLine)
    (h : ∀ h' tk vs, KV (mergeK [] (zipS x y)) vs →
      h'.DictOf (mixKind prog w) s.heap.objs.size vs →
      (∀ b o, b ≠ z → b ≠ TO → b ≠ i1 → b ≠ i2 → s.heap.get? b = some o → h'.get? b = some o) →
      Q (.ref s.heap.objs.size) { s with heap := h', toks := tk }) :
    wpAny (model prog w) A (call (.type "dict") [.ref z]) Q E s := by
  refine call_dict_arg (argZ z TI TO i1 i2 x y t u S) ⟨hz, hTI, hTO, h1, h2⟩
    fun s1 es hdf ok1 => ?_
  subst es
  refine updateFrom_arg (A := A.in1) (Tab := fun i h => ∃ vs,
      KV (mergeK [] ((zipS x y).take i)) vs ∧ h.DictOf (mixKind prog w) s.heap.objs.size vs)
    (argZ z TI TO i1 i2 x y t u S) .none hh ok1 hdf ?_ (fun _ _ ⟨_, _, tb⟩ => tb.lt_size)
    (fun i g g' wr' hd _ ⟨vs, r, tb⟩ hk => ⟨vs, r, tb.at' fun o e => hk _ o hd e⟩) ?_ ?_
  · exact ⟨[], .nil, Heap.DictOf.new s.heap⟩
  · intro i key v s' Q' E' hi hrel tb _ hQ
    obtain ⟨⟨c, r, hc, rfl⟩, ⟨c', r', hc', rfl⟩⟩ := hrel
    obtain ⟨vs, rel, tb⟩ := tb
    have ez := zipS_at hc hc'
    have hl : vs.length < sizeLine := by
      have l1 := rel.length
      have l2 := length_mergeK ((zipS x y).take i) []
      rw [List.length_take, List.length_nil] at l2
      omega
    refine wpAny_dictSet_pairs (k := (Sum.inr ⟨#[c]⟩ : Key)) (hsz := by omega) (mixKind_str prog w _ _) tb fun h' hm' hs => ?_
    refine hQ h' _ ⟨_, ?_, hm'⟩ hs
    rw [mergeK_snoc _ _ ez]
    exact rel.put _ ⟨_, rfl⟩
  · intro h' tk tb hk
    obtain ⟨vs, rel, tb⟩ := tb
    rw [List.take_of_length_le (by rw [zipS_len]; exact Nat.le_refl _)] at rel
    refine ⟨rfl, h h' tk vs rel tb fun b o a1 a2 a3 a4 e => hk b o (Nat.ne_of_lt (Heap.lt_size e)) ?_
      (Heap.get?_push_of_some _ e)⟩
    intro hm
    simp only [List.mem_cons, List.not_mem_nil, or_false] at hm
    rcases hm with q | q | q | q
    · exact a1 q
    · exact a2 q
    · exact a3 q
    · exact a4 q

def tDZ (t : TA) : TE := fun σ H Q => t σ H fun vs H1 => ∃ x y : Str, vs = [.str x, .str y] ∧
  min x.cps.size y.cps.size ≤ sizeLine ∧
  ∀ d, H1 d = none → Q (.ref d) (upd H1 d (.dK (mergeK [] (zipS x y))))

theorem pe_dz {X : Cx} {a b : Expr} {t : TA} {p p2 q pos : Pos} (hg : Gl X "dict")
    (hm : X.mg "dict" = none) (hg2 : Gl X "zip") (hm2 : X.mg "zip" = none) (ha : PA X [a, b] t)
    (hc : X.calm = true := by rfl)
    (n1 : starEach [a, b] X.env = (false, eval a X.env) :: starEach [b] X.env := by rfl)
    (n2 : starEach [b] X.env = (false, eval b X.env) :: starEach [] X.env := by rfl) :
    PE X (.Call (.Name "dict" p) [.Call (.Name "zip" p2) [a, b] [] q] [] pos) (tDZ t) := by
  refine ⟨fun pins s σ H Q I h => ?_⟩
  refine Call_ (ld_blt I hg hm (u := .type "dict") (by decide +kernel) ?_)
  refine PyProof.Rows.callWith_type1 (PyProof.Rows.args_cons ?_ rfl) rfl rfl
  refine Call_ (ld_blt I hg2 hm2 (u := .type "zip") (by decide +kernel) ?_)
  refine PyProof.Rows.callWith_type1 (thn (ha.run q pins s σ H _ I h)
    fun us s1 ⟨vs, H1, I1, r1, q1⟩ => ?_) n1 (by rw [n2]; rfl)
  obtain ⟨x, y, ex, hsz, q1⟩ := q1
  subst ex
  obtain ⟨u1, u2, eu, rx, ry⟩ := vals2 r1
  subst eu
  obtain ⟨tx, rfl⟩ := rx
  obtain ⟨ty, rfl⟩ := ry
  refine zip_begins2 (begins_text x tx) (begins_text y ty) trivial trivial
    fun h' hz hTI hTO g1 g2 hs hk => ?_
  refine PyProof.Rows.args_nil ?_
  have S := zip_sep2 (N := s1.heap.objs.size) (fp1 := []) (fp2 := []) (fun b hb => nomatch hb)
    (fun b hb => nomatch hb)
  refine call_dz (s := { s1 with heap := h' }) (t := tx) (u := ty) S (I1.ok.hd hc) hz hTI
    ⟨_, _, hTO⟩ ⟨_, g1, rfl, rfl⟩ ⟨_, g2, rfl, rfl⟩ hsz fun h2 tk vs rel hd hk2 => ?_
  have keep : ∀ b o, s1.heap.get? b = some o → h2.get? b = some o := fun b o e => by
    have lb : b < s1.heap.objs.size := Heap.lt_size e
    have k : ∀ j : Nat, b ≠ s1.heap.objs.size + j := fun j e => by
      rw [e] at lb
      exact absurd lb (Nat.not_lt_of_le (Nat.le_add_right _ _))
    exact hk2 b o (k 4) (k 3) (k 0) (k 1) (hk b o e)
  have big : s1.heap.objs.size ≤ h'.objs.size := by rw [hs]; exact Nat.le_add_right _ _
  have hmod : (h'.objs.size == sysModules) = false :=
    beq_eq_false_iff_ne.mpr (Nat.ne_of_gt (Nat.lt_of_lt_of_le I1.big big))
  have hlen : (mergeK [] (zipS x y)).length ≤ sizeLine := by
    have l2 := length_mergeK (zipS x y) []
    rw [List.length_nil, zipS_len] at l2
    omega
  exact ⟨.ref h'.objs.size, upd H1 h'.objs.size (.dK (mergeK [] (zipS x y))),
    I1.laid (t' := tk) keep big (show ObjOk X.prog X.w _ _ _ (.dK (mergeK [] (zipS x y))) from
      ⟨hlen, hmod, vs, rel, hd⟩), rfl, q1 _ (I1.hok.fresh big)⟩

/-- what the dict says of the i-th sign, the first text without a sign twice -/
theorem valV_merge_out (k : Key) : ∀ (more kvs : List (Key × V)), (∀ p ∈ more, p.1 ≠ k) →
    valV (mergeK kvs more) k = valV kvs k
  | [], kvs, _ => rfl
  | p :: r, kvs, h => by
    show valV (mergeK (putK kvs p.1 p.2) r) k = valV kvs k
    rw [valV_merge_out k r _ fun q hq => h q (List.mem_cons_of_mem _ hq), valV_put,
      if_neg fun e => h p (List.mem_cons_self ..) e.symm]
theorem valV_merge {k : Key} {v : V} : ∀ (more kvs : List (Key × V)) (i : Nat),
    (more.map (·.1)).Nodup → more[i]? = some (k, v) → valV (mergeK kvs more) k = some v
  | [], _, _, _, h => by simp at h
  | p :: r, kvs, 0, nd, h => by
    have e : p = (k, v) := Option.some.inj h
    subst e
    show valV (mergeK (putK kvs k v) r) k = some v
    rw [List.map_cons, List.nodup_cons] at nd
    rw [valV_merge_out k r _ fun q hq e => nd.1 (e ▸ List.mem_map_of_mem (f := (·.1)) hq),
      valV_put, if_pos rfl]
  | p :: r, kvs, i + 1, nd, h => by
    rw [List.map_cons, List.nodup_cons] at nd
    exact valV_merge r _ i nd.2 h
end Own

namespace Own
open PySem PySem.Spec PyProof.Rows L2 SX
/-! ### texts -/
theorem idx_of {c : Nat} : ∀ (a : List Nat) (i : Nat), a[i]? = some c → (∀ k, k < i → a[k]? ≠ some c) → a.idxOf c = i
  | [], i, h, _ => by simp at h
  | x :: r, 0, h, _ => by
    have e : x = c := Option.some.inj h
    rw [e, List.idxOf_cons_self]
  | x :: r, i + 1, h, hk => by
    have ne : x ≠ c := fun e => hk 0 (Nat.succ_pos _) (by rw [e]; rfl)
    have ih := idx_of r i h fun k lt e => hk (k + 1) (Nat.succ_lt_succ lt) e
    have nb : (x == c) = false := beq_eq_false_iff_ne.mpr ne
    rw [List.idxOf_cons, nb, ih]
    rfl
theorem occ1 {a : List Nat} {c : Nat} (h : c ∈ a) :
    ∃ rest, Builtin.Str.occurrences (S a) (S [c]) 0 (S a).length 1 = a.idxOf c :: rest := by
  obtain ⟨j, hj⟩ := List.mem_iff_getElem?.mp h
  rcases StrLaws.occ_head (S a) (S [c]) 1 (Nat.le_refl _) with ⟨_, hn⟩ | ⟨i, r, e, hi, hk⟩
  · exact absurd ((StrLaws.subAt_one (S a) c j).mpr hj) (hn j)
  · have h1 : a[i]? = some c := (StrLaws.subAt_one (S a) c i).mp hi
    have e2 := idx_of a i h1 fun k lt q => hk k lt ((StrLaws.subAt_one (S a) c k).mpr q)
    exact ⟨r, by rw [e, e2]⟩
theorem join1 : ∀ cs : List Nat, TL.joinL [] (cs.map fun c => [c]) = cs
  | [] => rfl
  | [_] => rfl
  | x :: y :: r => by
    show [x] ++ ([] ++ TL.joinL [] ((y :: r).map fun c => [c])) = x :: y :: r
    rw [join1 (y :: r)]
    rfl
theorem empty_S : Str.ofString "" = S [] := rfl
theorem joinC (cs : List Nat) : Txt.join (Str.ofString "") (cs.map fun c => S [c]) = S cs := by
  rw [empty_S]
  have e := join_S [] (cs.map fun c => [c])
  rw [List.map_map, join1] at e
  exact e
theorem joinT (ts : List (List Nat)) : Txt.join (Str.ofString "") (ts.map S) = S ts.flatten := by
  rw [empty_S, join_S]
  congr 2
  induction ts with
  | nil => rfl
  | cons x r ih =>
    cases r with
    | nil => simp [TL.joinL]
    | cons y r =>
      show x ++ ([] ++ TL.joinL [] (y :: r)) = _
      rw [ih]
      rfl
theorem one_len (cs : List Nat) : ((cs.map fun c => S [c]).map (·.length)).sum = cs.length := by
  induction cs with
  | nil => rfl
  | cons c r ih =>
    rw [List.map_cons, List.map_cons, List.sum_cons, ih, List.length_cons, S_len]
    show 1 + r.length = _
    omega
theorem az : Str.ofString "abcdefghijklmnopqrstuvwxyz" = S (List.range' 97 26) := by decide +kernel

/-! ### turns -/
theorem get_idx {gs : List Nat} {c : Nat} (h : c ∈ gs) : gs[gs.idxOf c]? = some c := by
  rw [List.getElem?_eq_getElem (List.idxOf_lt_length_of_mem h), List.getElem_idxOf]
def tau (gs p : List Nat) (c : Nat) : Nat := p.getD (gs.idxOf c) 0
theorem tau_at {gs p : List Nat} {c : Nat} (h : c ∈ gs) (hl : p.length = gs.length) : p[gs.idxOf c]? = some (tau gs p c) := by
  have lt : gs.idxOf c < p.length := by rw [hl]; exact List.idxOf_lt_length_of_mem h
  unfold tau
  rw [List.getD_eq_getElem?_getD, List.getElem?_eq_getElem lt]
  rfl
theorem tau_mem {gs p : List Nat} {c : Nat} (h : c ∈ gs) (hl : p.length = gs.length) : tau gs p c ∈ p :=
  List.mem_of_getElem? (tau_at h hl)
theorem tau_self {gs : List Nat} {c : Nat} (h : c ∈ gs) : tau gs gs c = c := by
  have e := tau_at h (rfl : gs.length = gs.length)
  have e2 : gs[gs.idxOf c]? = some c := get_idx h
  rw [e] at e2
  exact Option.some.inj e2
theorem tau_map {gs m : List Nat} (f : Nat → Nat) {c : Nat} (h : c ∈ gs) (hl : m.length = gs.length) :
    tau gs (m.map f) c = f (tau gs m c) := by
  have e := tau_at (p := m.map f) h (by rw [List.length_map, hl])
  rw [List.getElem?_map, tau_at h hl] at e
  exact (Option.some.inj e).symm
theorem idx_get {y : List Nat} (nd : y.Nodup) {i c : Nat} (h : y[i]? = some c) : y.idxOf c = i := by
  refine idx_of y i h fun k lt e => ?_
  obtain ⟨h1, e1⟩ := List.getElem?_eq_some_iff.mp h
  obtain ⟨h2, e2⟩ := List.getElem?_eq_some_iff.mp e
  have : k = i := (List.getElem_inj nd).mp (e2.trans e1.symm)
  omega
/-- back again -/
theorem tau_back {gs y : List Nat} (nd : y.Nodup) (hl : y.length = gs.length) {x : Nat} (h : x ∈ gs) :
    tau y gs (tau gs y x) = x := by
  have e := idx_get nd (tau_at h hl)
  unfold tau at e ⊢
  rw [e]
  exact tau_self h
def und (gs y : List Nat) : List Nat := gs.map (tau y gs)
theorem und_back {gs y : List Nat} (nd : y.Nodup) (hl : y.length = gs.length) (hm : ∀ c ∈ y, c ∈ gs) {x : Nat} (h : x ∈ gs) :
    tau gs (und gs y) (tau gs y x) = x := by
  have hy := hm _ (tau_mem h hl)
  unfold und
  rw [tau_map _ hy rfl, tau_self hy]
  exact tau_back nd hl h

/-! ### how often -/
def it (gs t : List Nat) : Nat → List Nat
  | 0 => t
  | j + 1 => (it gs t j).map (tau gs t)
def rho (p : List Nat) : Nat → List Nat
  | 0 => p
  | j + 1 => (rho p j).map fun i => p.getD i 0
def lists (n : Nat) : Nat → List (List Nat)
  | 0 => [[]]
  | k + 1 => (List.range n).flatMap fun a => (lists n k).map fun l => a :: l
theorem mem_lists {n : Nat} : ∀ l : List Nat, (∀ a ∈ l, a < n) → l ∈ lists n l.length
  | [], _ => List.mem_singleton.mpr rfl
  | a :: r, h => by
    refine List.mem_flatMap.mpr ⟨a, List.mem_range.mpr (h a (List.mem_cons_self ..)), List.mem_map.mpr ⟨r, ?_, rfl⟩⟩
    exact mem_lists r fun b hb => h b (List.mem_cons_of_mem _ hb)
theorem rho_all : ∀ n ∈ List.range 5, ∀ p ∈ lists n n, p.Nodup → ∃ j ∈ List.range 12, rho p j = List.range n := by
  decide +kernel
theorem it_rho {gs t p : List Nat} (nd : gs.Nodup) (hl : t.length = gs.length) (hp : ∀ i ∈ p, i < gs.length) (hpl : p.length = gs.length)
    (ht : t = p.map fun i => gs.getD i 0) : ∀ j, it gs t j = (rho p j).map (fun i => gs.getD i 0) ∧ ∀ i ∈ rho p j, i < gs.length
  | 0 => ⟨ht, hp⟩
  | j + 1 => by
    obtain ⟨ih, hi⟩ := it_rho nd hl hp hpl ht j
    have pd : ∀ i, i < gs.length → p.getD i 0 ∈ p := fun i lt => by
      rw [List.getD_eq_getElem?_getD, List.getElem?_eq_getElem (by omega)]
      exact List.getElem_mem _
    refine ⟨?_, fun i hm => ?_⟩
    · show (it gs t j).map (tau gs t) = ((rho p j).map fun i => p.getD i 0).map fun i => gs.getD i 0
      rw [ih, List.map_map, List.map_map]
      refine List.map_congr_left fun i hm => ?_
      have lt := hi i hm
      show tau gs t (gs.getD i 0) = gs.getD (p.getD i 0) 0
      have e1 : gs[i]? = some (gs.getD i 0) := by
        rw [List.getD_eq_getElem?_getD, List.getElem?_eq_getElem lt]; rfl
      unfold tau
      rw [idx_get nd e1, ht]
      have lp : i < p.length := by omega
      have e2 : p.getD i 0 = p[i] := by
        rw [List.getD_eq_getElem?_getD, List.getElem?_eq_getElem lp]; rfl
      rw [e2, List.getD_eq_getElem?_getD, List.getElem?_map, List.getElem?_eq_getElem lp]
      rfl
    · have hm2 : i ∈ (rho p j).map fun i => p.getD i 0 := hm
      obtain ⟨k, hk, rfl⟩ := List.mem_map.mp hm2
      exact hp _ (pd k (hi k hk))
theorem ord_ex {gs t : List Nat} (nd : gs.Nodup) (h4 : gs.length ≤ 4) (hp : t.Perm gs) : ∃ j, j < 12 ∧ it gs t j = gs := by
  have hl := hp.length_eq
  have lt : ∀ i ∈ t.map gs.idxOf, i < gs.length := fun i hm => by
    obtain ⟨c, hc, rfl⟩ := List.mem_map.mp hm
    exact List.idxOf_lt_length_of_mem (hp.mem_iff.mp hc)
  have ll : (t.map gs.idxOf).length = gs.length := by rw [List.length_map, hl]
  have back : t = (t.map gs.idxOf).map fun i => gs.getD i 0 := by
    rw [List.map_map]
    refine (List.map_id t).symm.trans (List.map_congr_left fun c hc => ?_)
    exact (tau_self (hp.mem_iff.mp hc)).symm
  have ndt : t.Nodup := hp.nodup_iff.mpr nd
  have ndp : (t.map gs.idxOf).Nodup := by
    have h : ((t.map gs.idxOf).map fun i => gs.getD i 0).Nodup := by rw [← back]; exact ndt
    exact (List.pairwise_map.mp h).imp fun hne e => hne (congrArg (fun i => gs.getD i 0) e)
  have hm := mem_lists (n := gs.length) _ lt
  rw [ll] at hm
  obtain ⟨j, hj, e⟩ := rho_all gs.length (List.mem_range.mpr (by omega)) _ hm ndp
  refine ⟨j, List.mem_range.mp hj, ?_⟩
  rw [(it_rho nd hl lt ll back j).1, e]
  refine List.ext_getElem? fun i => ?_
  rw [List.getElem?_map]
  by_cases h : i < gs.length
  · rw [List.getElem?_range h, List.getElem?_eq_getElem h]
    show some (gs.getD i 0) = _
    rw [List.getD_eq_getElem?_getD, List.getElem?_eq_getElem h]
    rfl
  · rw [List.getElem?_eq_none (by rw [List.length_range]; omega), List.getElem?_eq_none (by omega)]
    rfl
theorem it_mem {gs t : List Nat} (hp : t.Perm gs) : ∀ j, (it gs t j).length = gs.length ∧ ∀ c ∈ it gs t j, c ∈ gs
  | 0 => ⟨hp.length_eq, fun c hc => hp.mem_iff.mp hc⟩
  | j + 1 => by
    obtain ⟨a, b⟩ := it_mem hp j
    refine ⟨by show ((it gs t j).map (tau gs t)).length = _; rw [List.length_map, a], fun c hc => ?_⟩
    have hc2 : c ∈ (it gs t j).map (tau gs t) := hc
    obtain ⟨x, hx, rfl⟩ := List.mem_map.mp hc2
    exact hp.mem_iff.mp (tau_mem (b x hx) hp.length_eq)
/-- the first j at which it is gs -/
theorem ord_least {gs t : List Nat} (nd : gs.Nodup) (h4 : gs.length ≤ 4) (hp : t.Perm gs) :
    ∃ J, J < 12 ∧ it gs t J = gs ∧ ∀ k, k < J → it gs t k ≠ gs := by
  obtain ⟨j, hj, e⟩ := ord_ex nd h4 hp
  have main : ∀ n, n ≤ j → it gs t n = gs → ∃ J, J < 12 ∧ it gs t J = gs ∧ ∀ k, k < J → it gs t k ≠ gs := by
    intro n
    induction n using Nat.strongRecOn with
    | ind n ih =>
      intro hn en
      by_cases h : ∃ k, k < n ∧ it gs t k = gs
      · obtain ⟨k, lt, ek⟩ := h
        exact ih k lt (by omega) ek
      · exact ⟨n, by omega, en, fun k lt ek => h ⟨k, lt, ek⟩⟩
  exact main j (Nat.le_refl _) e

/-! ### letters -/
def lets (f s n : Nat) : List Nat := (List.range n).map fun k => 97 + (f + s * k) % 26
theorem lets_nd : ∀ f ∈ List.range 26, ∀ s ∈ [1, 3, 5, 25, 7], ∀ n ∈ [2, 3, 4], (lets f s n).Nodup := by
  decide +kernel
structure Good (gs : List Nat) : Prop where
  lo : 2 ≤ gs.length
  hi : gs.length ≤ 4
  nd : gs.Nodup
  az : ∀ c ∈ gs, 97 ≤ c ∧ c ≤ 122
theorem lets_good {f s n : Nat} (hf : f < 26) (hs : s ∈ [1, 3, 5, 25, 7]) (hn : n ∈ [2, 3, 4]) : Good (lets f s n) := by
  have hl : (lets f s n).length = n := by unfold lets; rw [List.length_map, List.length_range]
  have h2 : 2 ≤ n ∧ n ≤ 4 := by
    simp only [List.mem_cons, List.not_mem_nil, or_false] at hn
    omega
  refine ⟨by omega, by omega, lets_nd f (List.mem_range.mpr hf) s hs n hn, fun c hc => ?_⟩
  obtain ⟨k, _, rfl⟩ := List.mem_map.mp hc
  omega

/-! ### the dict of two texts -/
theorem dz_get {gs t : List Nat} {c : Nat} (nd : gs.Nodup) (hl : t.length = gs.length) (h : c ∈ gs) :
    valV (mergeK [] (zipS (S gs) (S t))) (Sum.inr (S [c])) = some (.str (S [tau gs t c])) := by
  refine valV_merge _ _ (gs.idxOf c) ?_ ?_
  · have e : (zipS (S gs) (S t)).map (·.1) = gs.map fun c => (Sum.inr (S [c]) : Key) := by
      unfold zipS
      rw [List.map_map]
      show (List.zip gs t).map (fun p => (Sum.inr (S [p.1]) : Key)) = _
      have : (fun p : Nat × Nat => (Sum.inr (S [p.1]) : Key)) = (fun c => (Sum.inr (S [c]) : Key)) ∘ Prod.fst := rfl
      rw [this, ← List.map_map, List.map_fst_zip (by omega)]
    rw [e]
    refine List.pairwise_map.mpr (nd.imp fun hne q => hne ?_)
    have q1 := Sum.inr.inj q
    have q2 := S_inj q1
    exact List.head_eq_of_cons_eq q2
  · refine zipS_at (x := S gs) (y := S t) (i := gs.idxOf c) (a := c) (b := tau gs t c) ?_ ?_
    · show (gs.toArray)[gs.idxOf c]? = some c
      rw [List.getElem?_toArray]
      exact get_idx h
    · show (t.toArray)[gs.idxOf c]? = some _
      rw [List.getElem?_toArray]
      exact tau_at h hl
end Own

namespace Own
open PySem PySem.Spec PyProof.Rows L2 SX RZ
/-! ### the drawer -/
def RngV (H : Hp) (r l : Addr) (ns : List Int) (i b s c : Int) : Prop :=
  0 ≤ i ∧ H r = some (.lst [.ref l, .int i, .int b, .int s, .int c]) ∧ H l = some (.lst (ns.map V.int))
def RngL (H : Hp) (r l : Addr) : Prop := ∃ ns i b s c, RngV H r l ns i b s c
def Rng (H : Hp) (r : Addr) : Prop := ∃ l, RngL H r l
/-- all but r as before, and at r a drawer over the same cells -/
def Go (r : Addr) (H H' : Hp) : Prop :=
  (∀ b o, b ≠ r → H b = some o → H' b = some o) ∧ ∃ l, RngL H r l ∧ RngL H' r l

theorem ints_ne {a : List Int} {l : Addr} {xs : List V} : HO.lst (a.map V.int) ≠ HO.lst (V.ref l :: xs) := by
  intro h
  injection h with h
  cases a with
  | nil => cases h
  | cons x r =>
    injection h with h1 h2
    cases h1
theorem RngV.ne {H : Hp} {r l : Addr} {ns : List Int} {i b s c : Int} (h : RngV H r l ns i b s c) : l ≠ r :=
  ne_of h.2.2 h.2.1 ints_ne
theorem RngV.put {H : Hp} {r l : Addr} {ns : List Int} {i b s c i' b' s' c' : Int}
    (h : RngV H r l ns i b s c) (hi : 0 ≤ i') :
    RngV (upd H r (.lst [.ref l, .int i', .int b', .int s', .int c'])) r l ns i' b' s' c' :=
  ⟨hi, upd_same, by rw [upd_ne h.ne]; exact h.2.2⟩
theorem RngL.inj {r l l' : Addr} {H : Hp} (a : RngL H r l) (b : RngL H r l') : l = l' := by
  obtain ⟨ns, i, b', s, c, R⟩ := a
  obtain ⟨ns', i', b'', s', c', R'⟩ := b
  have e := R.2.1.symm.trans R'.2.1
  injection e with e
  injection e with e
  injection e with e1 e2
  injection e1
theorem RngL.same {r l : Addr} {H H' : Hp} (h : RngL H r l) (s : Same H H') : RngL H' r l := by
  obtain ⟨ns, i, b, z, c, R⟩ := h
  exact ⟨ns, i, b, z, c, R.1, s _ _ R.2.1, s _ _ R.2.2⟩
theorem Rng.same {r : Addr} {H H' : Hp} (h : Rng H r) (s : Same H H') : Rng H' r := let ⟨l, h⟩ := h; ⟨l, h.same s⟩
theorem Go.rng {r : Addr} {H H' : Hp} (g : Go r H H') : Rng H' r := let ⟨l, _, h⟩ := g.2; ⟨l, h⟩
theorem Go.rng0 {r : Addr} {H H' : Hp} (g : Go r H H') : Rng H r := let ⟨l, h, _⟩ := g.2; ⟨l, h⟩
theorem Go.trans {r : Addr} {H H1 H2 : Hp} (a : Go r H H1) (b : Go r H1 H2) : Go r H H2 := by
  obtain ⟨a1, l, a2, a3⟩ := a
  obtain ⟨b1, l', b2, b3⟩ := b
  have e := a3.inj b2
  subst e
  exact ⟨fun x o nx e => b1 x o nx (a1 x o nx e), l, a2, b3⟩
theorem Go.refl {r : Addr} {H : Hp} (h : Rng H r) : Go r H H := let ⟨l, h⟩ := h; ⟨fun _ _ _ e => e, l, h, h⟩
theorem Go.of {r : Addr} {H H' : Hp} (h : Rng H r) (s : Same H H') : Go r H H' :=
  let ⟨l, h⟩ := h; ⟨fun _ _ _ e => s _ _ e, l, h, h.same s⟩
theorem Go.same {r : Addr} {H H1 H2 : Hp} (a : Go r H H1) (s : Same H1 H2) : Go r H H2 := a.trans (Go.of a.rng s)
theorem Go.after {r : Addr} {H H1 H2 : Hp} (h : Rng H r) (s : Same H H1) (a : Go r H1 H2) : Go r H H2 := (Go.of h s).trans a
theorem RngL.ex {r l : Addr} {H : Hp} (h : RngL H r l) : (∃ xs, H r = some (.lst xs)) ∧ ∃ xs, H l = some (.lst xs) := by
  obtain ⟨ns, i, b, s, c, R⟩ := h
  exact ⟨⟨_, R.2.1⟩, ⟨_, R.2.2⟩⟩
theorem Rng.ex {r : Addr} {H : Hp} (h : Rng H r) : ∃ xs, H r = some (.lst xs) := let ⟨_, h⟩ := h; h.ex.1
/-- a list made on the way, new at H, is written -/
theorem Go.put {r D : Addr} {H H' : Hp} {o : HO} (g : Go r H H') (nD : H D = none) : Go r H (upd H' D o) := by
  obtain ⟨g1, l, h, h'⟩ := g
  obtain ⟨⟨x1, e1⟩, ⟨x2, e2⟩⟩ := h.ex
  have n1 : r ≠ D := ne_of_none e1 nD
  have n2 : l ≠ D := ne_of_none e2 nD
  refine ⟨fun b u nb e => ?_, l, h, ?_⟩
  · rw [upd_ne (ne_of_none e nD)]
    exact g1 b u nb e
  · obtain ⟨ns, i, b, z, c, R⟩ := h'
    exact ⟨ns, i, b, z, c, R.1, by rw [upd_ne n1]; exact R.2.1, by rw [upd_ne n2]; exact R.2.2⟩
theorem same_new {H : Hp} {p : Addr} {o : HO} (h : H p = none) : Same H (upd H p o) := fun b x e => by
  rw [upd_ne (ne_of_none e h)]
  exact e
theorem Go.seq {K : PySem.W.Frag} {r a : Addr} {H H' : Hp} {xs : List V} (g : Go r H H') (ne : a ≠ r) (h : SqL K H a xs) : SqL K H' a xs := by
  rcases h with (h | ⟨o, h⟩) | h
  · exact .inl (.inl (g.1 _ _ ne h))
  · exact .inl (.inr ⟨o, g.1 _ _ ne h⟩)
  · exact .inr h
theorem small {n : Nat} (h : n ≤ 1000) : n ≤ sizeLine := Nat.le_of_lt (small1000 h)
/-! ### equal data -/
def Flat : V → Prop
  | .non => True
  | .bl _ => True
  | .int _ => True
  | .str _ => True
  | _ => False
/-- two values that are the same data, less than n deep -/
def Eqd (K : PySem.W.Frag) (H : Hp) : Nat → V → V → Prop
  | 0, _, _ => False
  | n + 1, x, y => (x = y ∧ Flat x) ∨ ∃ a b xs ys, x = .ref a ∧ y = .ref b ∧
      ((SqL K H a xs ∧ SqL K H b ys) ∨ (SqT K H a xs ∧ SqT K H b ys)) ∧ xs.length ≤ 1000 ∧ xs.length = ys.length ∧
      ∀ (i : Nat) u v, xs[i]? = some u → ys[i]? = some v → Eqd K H n u v
theorem same_t {K : PySem.W.Frag} {H H' : Hp} {a : Addr} {xs : List V} (e : Same H H') (h : SqT K H a xs) : SqT K H' a xs := by
  rcases h with (h | ⟨o, h⟩) | h
  · exact .inl (.inl (e _ _ h))
  · exact .inl (.inr ⟨o, e _ _ h⟩)
  · exact .inr h
theorem Eqd.same {K : PySem.W.Frag} {H H' : Hp} (s : Same H H') : ∀ {n : Nat} {x y : V}, Eqd K H n x y → Eqd K H' n x y
  | 0, _, _, h => h.elim
  | n + 1, x, y, h => by
    rcases h with h | ⟨a, b, xs, ys, e1, e2, h, l1, l2, k⟩
    · exact Or.inl h
    · refine Or.inr ⟨a, b, xs, ys, e1, e2, ?_, l1, l2, fun i u v hu hv => (k i u v hu hv).same s⟩
      rcases h with ⟨h1, h2⟩ | ⟨h1, h2⟩
      · exact .inl ⟨s.seq h1, s.seq h2⟩
      · exact .inr ⟨same_t s h1, same_t s h2⟩
theorem Eqd.refl {K : PySem.W.Frag} {H : Hp} {n : Nat} {x : V} (h : Flat x) : Eqd K H (n + 1) x x := Or.inl ⟨rfl, h⟩
/-- two lists of flat things -/
theorem Eqd.lst {K : PySem.W.Frag} {H : Hp} {n : Nat} {a b : Addr} {xs : List V} (h1 : H a = some (.lst xs)) (h2 : H b = some (.lst xs)) (hl : xs.length ≤ 1000) (hf : ∀ x ∈ xs, Flat x) :
    Eqd K H (n + 2) (.ref a) (.ref b) := by
  refine Or.inr ⟨a, b, xs, xs, rfl, rfl, .inl ⟨.inl (.inl h1), .inl (.inl h2)⟩, hl, rfl, fun i u v hu hv => ?_⟩
  have e := Option.some.inj (hu.symm.trans hv)
  subst e
  exact Eqd.refl (hf _ (List.mem_of_getElem? hu))
theorem tyL {K : PySem.W.Frag} {H : Hp} {a : Addr} {xs : List V} (h : SqL K H a xs) : TyX K H (.ref a) (.type "list") := by
  rcases h with (h | ⟨o, h⟩) | ⟨o, its, n, hk, hc, _⟩
  · exact .base (.lst h)
  · exact .base (.frz h)
  · exact .kList hk hc
theorem tyT {K : PySem.W.Frag} {H : Hp} {a : Addr} {xs : List V} (h : SqT K H a xs) : TyX K H (.ref a) (.type "tuple") := by
  rcases h with (h | ⟨o, h⟩) | ⟨o, its, n, hk, hc, _⟩
  · exact .base (.tup h)
  · exact .fTuple h
  · exact .kTuple hk hc
theorem walk_zT {K : PySem.W.Frag} {a b : Addr} {xs ys : List V} {n : Nat} (hn : n = min xs.length ys.length) :
    Walk (ItzT K a b) n (fun H => SqT K H a xs ∧ SqT K H b ys) (YPair (fun i => xs[i]?) (fun i => ys[i]?)) := by
  refine ⟨fun i H hi q => ?_, fun H q => ⟨xs, ys, q.1, q.2, by omega⟩, ?_⟩
  · obtain ⟨lx, ly⟩ := Nat.lt_min.mp (hn ▸ hi)
    exact ⟨xs, ys, _, _, q.1, q.2, List.getElem?_eq_getElem lx, List.getElem?_eq_getElem ly⟩
  · rintro i H v H' _ ⟨qa, qb⟩ ⟨T, x, z, e1, e2, e3, a, b⟩
    exact ⟨T, x, z, e1, e2, e3, a _ qa, b _ qb⟩

theorem kit2 {K : PySem.W.Frag} {t a b : String} {r s : Bool} (h1 : kitB t a = some r) (h2 : kitB t b = some s) :
    PySem.W.kitAny K (.type t) [.type a, .type b] = some (r || s) := by
  refine kitAny_cons (kit_ty h1) (fun e => ?_) (fun e => by rw [e]; rfl)
  subst e
  refine kitAny_cons (kit_ty h2) (fun e => ?_) (fun e => by rw [e]; rfl)
  subst e
  rfl
theorem flat_ty {K : PySem.W.Frag} {x : V} (h : Flat x) : ∃ t, (∀ H, TyX K H x (.type t)) ∧ kitB t "list" = some false ∧ kitB t "tuple" = some false ∧
    (∃ b, kitB t "bool" = some b) ∧ (∃ b, kitB t "int" = some b) ∧ ∃ b, kitB t "str" = some b := by
  cases x with
  | non => exact ⟨"NoneType", fun _ => .base .non, by decide +kernel, by decide +kernel, ⟨false, by decide +kernel⟩, ⟨false, by decide +kernel⟩, ⟨false, by decide +kernel⟩⟩
  | bl b => exact ⟨"bool", fun _ => .base (.bl b), by decide +kernel, by decide +kernel, ⟨true, by decide +kernel⟩, ⟨true, by decide +kernel⟩, ⟨false, by decide +kernel⟩⟩
  | int i => exact ⟨"int", fun _ => .base (.int i), by decide +kernel, by decide +kernel, ⟨false, by decide +kernel⟩, ⟨true, by decide +kernel⟩, ⟨false, by decide +kernel⟩⟩
  | str z => exact ⟨"str", fun _ => .base (.str z), by decide +kernel, by decide +kernel, ⟨false, by decide +kernel⟩, ⟨false, by decide +kernel⟩, ⟨true, by decide +kernel⟩⟩
  | _ => exact h.elim
def spDraws (K : PySem.W.Frag) : Sp := fun vs H Q _ => ∃ (a : Addr) (ns : List Int), vs = [.ref a] ∧
  SqL K H a (ns.map V.int) ∧ ∀ H' r, Same H H' → H r = none → Rng H' r → Q (.ref r) H'
def spDraw : Sp := fun vs H Q _ => ∃ (r : Addr) (n : Int), vs = [.ref r, .int n] ∧ 0 < n ∧ n < 1000000 ∧
  Rng H r ∧ ∀ H' k, Go r H H' → 0 ≤ k → k < n → Q (.int k) H'
def spPick (K : PySem.W.Frag) : Sp := fun vs H Q _ => ∃ (r : Addr) (x : V), vs = [.ref r, x] ∧ Rng H r ∧
  ((∃ a xs, x = .ref a ∧ a ≠ r ∧ SqL K H a xs ∧ 0 < xs.length ∧ xs.length ≤ 1000 ∧ ∀ H' v, Go r H H' → v ∈ xs → Q v H') ∨
   (∃ cs : List Nat, x = .str (S cs) ∧ 0 < cs.length ∧ cs.length ≤ 1000 ∧ ∀ H' c, Go r H H' → c ∈ cs → Q (.str (S [c])) H'))
def spLetters : Sp := fun vs H Q _ => ∃ (r : Addr) (m : Int), vs = [.ref r, .int m] ∧ 2 ≤ m ∧ Rng H r ∧
  ∀ H' gs, Go r H H' → Good gs → (gs.length : Int) ≤ m → Q (.str (S gs)) H'
def spTurn : Sp := fun vs H Q _ => ∃ (r : Addr) (gs : List Nat), vs = [.ref r, .str (S gs)] ∧ gs.length ≤ 1000 ∧ Rng H r ∧
  ∀ H' t, Go r H H' → t.Perm gs → Q (.str (S t)) H'
def spWord : Sp := fun vs H Q _ => ∃ (r : Addr) (gs : List Nat) (m : Int), vs = [.ref r, .str (S gs), .int m] ∧
  0 < gs.length ∧ gs.length ≤ 1000 ∧ 0 ≤ m ∧ m ≤ 1000 ∧ Rng H r ∧
  ∀ H' xs, Go r H H' → (∀ c ∈ xs, c ∈ gs) → (xs.length : Int) ≤ m → Q (.str (S xs)) H'
/-- a text is turned -/
def spTd : Sp := fun vs H Q _ => ∃ gs t xs : List Nat, vs = [.str (S gs), .str (S t), .str (S xs)] ∧ gs.Nodup ∧ gs.length ≤ 1000 ∧
  t.length = gs.length ∧ xs.length ≤ 1000 ∧ (∀ c ∈ xs, c ∈ gs) ∧ ∀ H', Same H H' → Q (.str (S (xs.map (tau gs t)))) H'
/-- one turn after the other: the second and the third changed about -/
def spAf : Sp := fun vs H Q E => ∃ x y z : V, vs = [x, y, z] ∧ spTd [x, z, y] H Q E
/-- a turn undone -/
def spUn : Sp := fun vs H Q _ => ∃ gs t : List Nat, vs = [.str (S gs), .str (S t)] ∧ gs.length ≤ 1000 ∧ t.length = gs.length ∧ (∀ c ∈ gs, c ∈ t) ∧
  ∀ H', Same H H' → Q (.str (S (und gs t))) H'
def spCk : Sp := fun vs H Q _ => ∃ gs xs : List Nat, vs = [.str (S gs), .str (S xs)] ∧ (∀ c ∈ xs, c ∈ gs) ∧ ∀ H', Same H H' → Q .non H'
def spOrd : Sp := fun vs H Q _ => ∃ (gs t : List Nat) (J : Nat), vs = [.str (S gs), .str (S t)] ∧ gs.Nodup ∧ gs.length ≤ 1000 ∧ t.Perm gs ∧
  it gs t J = gs ∧ (∀ k, k < J → it gs t k ≠ gs) ∧ ∀ H', Same H H' → Q (.int ((J : Int) + 1)) H'
def spSm (K : PySem.W.Frag) (n : Nat) : Sp := fun vs H Q _ => ∃ x y, vs = [x, y] ∧ Eqd K H n x y ∧ ∀ H', Same H H' → Q (.bl true) H'
structure SameT (mg : Str → Option Value) : Prop where
  isi : mg "isinstance" = none
  list : mg "list" = none
  tuple : mg "tuple" = none
  len : mg "len" = none
  all : mg "all" = none
  zip : mg "zip" = none
  bool : mg "bool" = none
  int : mg "int" = none
  str : mg "str" = none
/-! ### calls in short -/
structure Cl (P : Program) (w : World) (K : PySem.W.Frag) (mg : Str → Option Value) (base : Heap) (x : Str) (k : Nat) (ps : List Str) (sp : Sp) (f : Addr) (fd : FuncData) : Prop where
  ok : FnOk P w K mg base CX0 k f fd ps sp
  gl : mg x = some (.ref f)
  kp : PySem.W.keepIn K (.ref f) = true
  bd : Binds K fd ps []
section
variable {X : Cx} {k j : Nat} {f : Addr} {fd : FuncData} {ps ks : List Str} {sp : Sp} {x : Str} {p pos : Pos} {e : Expr} {es : List Expr} {kws : List Keyword} {t tk : TA}
theorem pe_cl (C : Cl X.prog X.w X.K X.mg X.base x k ps sp f fd) (hr : Room j X.A) (hk : k ≤ j) (hg : Gl X x) (ha : PA X (e :: es) t)
    (hdb : (x == ("__debug__" : Str)) = false := by decide) (he : starEach (e :: es) X.env = (false, eval e X.env) :: starEach es X.env := by rfl)
    (hpl : (backTo pos (starEach es X.env)).any (·.1) = false := by rfl) :
    PE X (.Call (.Name x p) (e :: es) [] pos) (tCall sp [] E0 t) :=
  pe_call C.ok (hr.mono hk) hg C.gl C.kp C.bd .nil pass0 ha hdb he hpl
/-- f(k = v, ..) -/
theorem pe_kw {g : List Value → List Value → List Value} {gV : List V → List V → List V}
    (C : Cl X.prog X.w X.K X.mg X.base x k ps sp f fd) (hr : Room j X.A) (hk : k ≤ j) (hg : Gl X x)
    (hb : KBinds X.K fd ps ks g gV) (hkw : PK X kws tk)
    (hall : (backToKw pos (keywordEach kws X.env)).all (·.1.isSome) = true := by rfl)
    (hks : (backToKw pos (keywordEach kws X.env)).filterMap (·.1) = ks := by rfl)
    (hdb : (x == ("__debug__" : Str)) = false := by decide)
    (hpl : ((backTo pos (starEach [] X.env)).any (·.1) || (backToKw pos (keywordEach kws X.env)).any (·.1.isNone)) = false := by rfl) :
    PE X (.Call (.Name x p) [] kws pos) (tCallK sp gV E0 tNil tk) := by
  refine ⟨fun pins s σ H Q I h => ?_⟩
  refine wpAny_Call_Name_kw (ld_glob I hg C.gl ?_ hdb)
  refine PySem.W.callWith_KW0 (h₀ := X.base) I.ok.mod.kin C.kp hall ?_ hpl
  refine thn (hkw.run pos pins s σ H _ I h) fun ws s2 ⟨zs, H2, I2, rz, q2⟩ => ⟨I2.kIn, ?_⟩
  rw [hks]
  exact run_fnk (us := []) (vs := []) C.ok (hr.mono hk) hb pass0 I2 .nil rz q2
end
/-- three keywords, from the last to the first; two -/
def rev3 {α : Type} : List α → List α → List α
  | [], [a, b, c] => [c, b, a]
  | _, _ => []
def rev2 {α : Type} : List α → List α → List α
  | [], [a, b] => [b, a]
  | _, _ => []
theorem rev3_rel {vs : List V} {us : List Value} {zs : List V} {ws : List Value} (r : Vals vs us) (z : Vals zs ws) : Vals (rev3 vs zs) (rev3 us ws) := by
  cases r with
  | cons _ _ => exact .nil
  | nil =>
    cases z with
    | nil => exact .nil
    | cons a z =>
      cases z with
      | nil => exact .nil
      | cons b z =>
        cases z with
        | nil => exact .nil
        | cons c z =>
          cases z with
          | nil => exact .cons c (.cons b (.cons a .nil))
          | cons _ _ => exact .nil
theorem rev2_rel {vs : List V} {us : List Value} {zs : List V} {ws : List Value} (r : Vals vs us) (z : Vals zs ws) : Vals (rev2 vs zs) (rev2 us ws) := by
  cases r with
  | cons _ _ => exact .nil
  | nil =>
    cases z with
    | nil => exact .nil
    | cons a z =>
      cases z with
      | nil => exact .nil
      | cons b z =>
        cases z with
        | nil => exact .cons b (.cons a .nil)
        | cons _ _ => exact .nil
end Own

namespace Own
open PySem PySem.Spec PyProof.Rows L2 SX
/-! ### what turns make -/
inductive InC (gs : List Nat) (ts : List (List Nat)) : List Nat → Prop
  | one : InC gs ts gs
  | step {x t : List Nat} : InC gs ts x → t ∈ ts → InC gs ts (x.map (tau gs t))
theorem map_tau {gs t : List Nat} (nd : gs.Nodup) (hl : t.length = gs.length) : gs.map (tau gs t) = t := by
  refine List.ext_getElem? fun i => ?_
  rw [List.getElem?_map]
  by_cases h : i < gs.length
  · have h2 : i < t.length := by omega
    rw [List.getElem?_eq_getElem h, List.getElem?_eq_getElem h2]
    show some (t.getD (gs.idxOf gs[i]) 0) = some t[i]
    rw [idx_get nd (List.getElem?_eq_getElem h), List.getD_eq_getElem?_getD, List.getElem?_eq_getElem h2]
    rfl
  · rw [List.getElem?_eq_none (by omega), List.getElem?_eq_none (by omega)]
    rfl
theorem mul_perm {gs x t : List Nat} (nd : gs.Nodup) (hx : x.Perm gs) (ht : t.Perm gs) : (x.map (tau gs t)).Perm gs := by
  refine (hx.map _).trans ?_
  rw [map_tau nd ht.length_eq]
  exact ht
theorem InC.perm {gs : List Nat} {ts : List (List Nat)} (nd : gs.Nodup) (hts : ∀ t ∈ ts, t.Perm gs) {x : List Nat} (h : InC gs ts x) : x.Perm gs := by
  induction h with
  | one => exact List.Perm.refl _
  | step _ ht ih => exact mul_perm nd ih (hts _ ht)
theorem InC.mul {gs : List Nat} {ts : List (List Nat)} (nd : gs.Nodup) (hts : ∀ t ∈ ts, t.Perm gs) {x y : List Nat} (hx : InC gs ts x) (hy : InC gs ts y) :
    InC gs ts (x.map (tau gs y)) := by
  have px := hx.perm nd hts
  induction hy with
  | one =>
    have e : x.map (tau gs gs) = x := (List.map_congr_left fun c hc => tau_self (px.mem_iff.mp hc)).trans (List.map_id x)
    rw [e]
    exact hx
  | step hy' ht ih =>
    rename_i y' t
    have py := hy'.perm nd hts
    have e : x.map (tau gs (y'.map (tau gs t))) = (x.map (tau gs y')).map (tau gs t) := by
      rw [List.map_map]
      exact List.map_congr_left fun c hc => tau_map _ (px.mem_iff.mp hc) py.length_eq
    rw [e]
    exact InC.step ih ht
theorem InC.it {gs : List Nat} {ts : List (List Nat)} (nd : gs.Nodup) (hts : ∀ t ∈ ts, t.Perm gs) {x : List Nat} (hx : InC gs ts x) : ∀ j, InC gs ts (it gs x j)
  | 0 => hx
  | j + 1 => (InC.it nd hts hx j).mul nd hts hx
theorem InC.und {gs : List Nat} {ts : List (List Nat)} (nd : gs.Nodup) (h4 : gs.length ≤ 4) (hts : ∀ t ∈ ts, t.Perm gs) {x : List Nat} (hx : InC gs ts x) : InC gs ts (und gs x) := by
  have px := hx.perm nd hts
  obtain ⟨J, _, eJ⟩ := ord_ex nd h4 px
  cases J with
  | zero =>
    have e : x = gs := eJ
    subst e
    have e2 : Own.und x x = x := (List.map_congr_left fun c hc => tau_self hc).trans (List.map_id x)
    rw [e2]
    exact hx
  | succ J =>
    have e1 : (Own.it gs x J).map (tau gs x) = gs := eJ
    have e2 : Own.und gs x = Own.it gs x J := by
      show gs.map (tau x gs) = _
      conv => lhs; arg 2; rw [← e1]
      rw [List.map_map]
      refine (List.map_congr_left fun c hc => ?_).trans (List.map_id _)
      exact tau_back (px.nodup_iff.mpr nd) px.length_eq ((it_mem px J).2 c hc)
    rw [e2]
    exact InC.it nd hts hx J
theorem len_sub {α : Type} [DecidableEq α] : ∀ (l m : List α), l.Nodup → (∀ a ∈ l, a ∈ m) → l.length ≤ m.length
  | [], m, _, _ => Nat.zero_le _
  | a :: r, m, nd, h => by
    have nd2 := List.nodup_cons.mp nd
    have ha := h a (List.mem_cons_self ..)
    have ih := len_sub r (m.erase a) nd2.2 fun b hb =>
      (List.mem_erase_of_ne (fun e : b = a => nd2.1 (by rw [← e]; exact hb))).mpr (h b (List.mem_cons_of_mem _ hb))
    have hl := List.length_erase_of_mem ha
    have hp : 0 < m.length := List.length_pos_of_mem ha
    rw [List.length_cons]
    omega
theorem few : ∀ n ∈ List.range 5, ((lists n n).filter fun p => decide p.Nodup).length ≤ 24 := by decide +kernel
theorem perms_few {gs : List Nat} (nd : gs.Nodup) (h4 : gs.length ≤ 4) {l : List (List Nat)} (ndl : l.Nodup) (hl : ∀ x ∈ l, x.Perm gs) : l.length ≤ 24 := by
  have back : ∀ x ∈ l, (x.map gs.idxOf).map (fun i => gs.getD i 0) = x := fun x hx => by
    rw [List.map_map]
    refine (List.map_congr_left fun c hc => ?_).trans (List.map_id x)
    exact tau_self ((hl x hx).mem_iff.mp hc)
  have h1 : (l.map fun x => x.map gs.idxOf).Nodup := by
    refine List.pairwise_map.mpr (ndl.imp_of_mem fun {a b} ha hb hne e => hne ?_)
    rw [← back a ha, ← back b hb, e]
  have h2 := len_sub _ ((lists gs.length gs.length).filter fun p => decide p.Nodup) h1 fun p hp => by
    obtain ⟨x, hx, rfl⟩ := List.mem_map.mp hp
    have px := hl x hx
    have ll : (x.map gs.idxOf).length = gs.length := by rw [List.length_map, px.length_eq]
    have m := mem_lists (n := gs.length) (x.map gs.idxOf) fun i hi => by
      obtain ⟨c, hc, rfl⟩ := List.mem_map.mp hi
      exact List.idxOf_lt_length_of_mem (px.mem_iff.mp hc)
    rw [ll] at m
    refine List.mem_filter.mpr ⟨m, decide_eq_true ?_⟩
    have ndx : x.Nodup := px.nodup_iff.mpr nd
    have h : ((x.map gs.idxOf).map fun i => gs.getD i 0).Nodup := by rw [back x hx]; exact ndx
    exact (List.pairwise_map.mp h).imp fun hne e => hne (congrArg (fun i => gs.getD i 0) e)
  rw [List.length_map] at h2
  exact Nat.le_trans h2 (few gs.length (List.mem_range.mpr (by omega)))
def Closed (gs : List Nat) (ts fs : List (List Nat)) : Prop := ∀ x ∈ fs, ∀ t ∈ ts, x.map (tau gs t) ∈ fs
theorem InC.sub {gs : List Nat} {ts fs : List (List Nat)} (h0 : gs ∈ fs) (hc : Closed gs ts fs) {x : List Nat} (h : InC gs ts x) : x ∈ fs := by
  induction h with
  | one => exact h0
  | step _ ht ih => exact hc _ ih _ ht

/-! ### sorted -/
theorem rising_pw : ∀ (l : List (List Nat)) (p : List Nat), risingS (S p) (l.map S) = true → (p :: l).Pairwise (fun a b => ¬ b < a)
  | [], p, _ => List.pairwise_singleton ..
  | x :: r, p, h => by
    have h' : (!ltCps x p && risingS (S x) (r.map S)) = true := h
    rw [Bool.and_eq_true, Bool.not_eq_true', ltCps_eq, decide_eq_false_iff_not] at h'
    have ih := rising_pw r x h'.2
    refine List.pairwise_cons.mpr ⟨fun y hy => ?_, ih⟩
    rcases List.mem_cons.mp hy with e | hy
    · rw [e]; exact h'.1
    · have h2 : ¬ y < x := (List.pairwise_cons.mp ih).1 y hy
      exact fun lt => absurd (List.le_trans (List.not_lt.mp h'.1) (List.not_lt.mp h2)) (List.not_le.mpr lt)
theorem sorted_pw : ∀ (l : List (List Nat)), sortedS (l.map S) = true → l.Pairwise (fun a b => ¬ b < a)
  | [], _ => List.Pairwise.nil
  | x :: r, h => rising_pw r x h
theorem sorted_one : ∀ (l m : List (List Nat)), l.Pairwise (fun a b => ¬ b < a) → m.Pairwise (fun a b => ¬ b < a) → l.Nodup → m.Nodup → (∀ x, x ∈ l ↔ x ∈ m) → l = m
  | [], [], _, _, _, _, _ => rfl
  | [], y :: s, _, _, _, _, h => by have := (h y).mpr (List.mem_cons_self ..); simp at this
  | x :: r, [], _, _, _, _, h => by have := (h x).mp (List.mem_cons_self ..); simp at this
  | x :: r, y :: s, p1, p2, n1, n2, h => by
    have q1 := List.pairwise_cons.mp p1
    have q2 := List.pairwise_cons.mp p2
    have m1 := List.nodup_cons.mp n1
    have m2 := List.nodup_cons.mp n2
    have e : x = y := by
      have hx := (h x).mp (List.mem_cons_self ..)
      have hy := (h y).mpr (List.mem_cons_self ..)
      rcases List.mem_cons.mp hx with e | hx
      · exact e
      · rcases List.mem_cons.mp hy with e | hy
        · exact e.symm
        · exact List.le_antisymm (List.not_lt.mp (q1.1 y hy)) (List.not_lt.mp (q2.1 x hx))
    subst e
    have ih := sorted_one r s q1.2 q2.2 m1.2 m2.2 fun z => by
      constructor
      · intro hz
        rcases List.mem_cons.mp ((h z).mp (List.mem_cons_of_mem _ hz)) with e | e
        · rw [e] at hz; exact absurd hz m1.1
        · exact e
      · intro hz
        rcases List.mem_cons.mp ((h z).mpr (List.mem_cons_of_mem _ hz)) with e | e
        · rw [e] at hz; exact absurd hz m2.1
        · exact e
    rw [ih]
/-- the sorted list of what is made -/
structure Clo (gs : List Nat) (ts cs : List (List Nat)) : Prop where
  nd : cs.Nodup
  mem : ∀ x, x ∈ cs ↔ InC gs ts x
  srt : sortedS (cs.map S) = true
theorem Clo.one {gs : List Nat} {ts cs ds : List (List Nat)} (a : Clo gs ts cs) (b : Clo gs ts ds) : cs = ds :=
  sorted_one cs ds (sorted_pw cs a.srt) (sorted_pw ds b.srt) a.nd b.nd fun x => (a.mem x).trans (b.mem x).symm
theorem map_S_inj : ∀ {a b : List (List Nat)}, a.map S = b.map S → a = b
  | [], [], _ => rfl
  | [], _ :: _, h => by cases h
  | _ :: _, [], h => by cases h
  | x :: r, y :: s, h => by
    have h' : S x :: r.map S = S y :: s.map S := h
    injection h' with h1 h2
    rw [S_inj h1, map_S_inj h2]
/-- a sorted list of texts that is a rearrangement -/
theorem Clo.of {gs : List Nat} {ts fs : List (List Nat)} {ys : List Str} (nd : fs.Nodup) (h0 : gs ∈ fs) (hc : Closed gs ts fs) (hi : ∀ x ∈ fs, InC gs ts x)
    (hp : ys.Perm (fs.map S)) (hs : sortedS ys = true) : ∃ cs, ys = cs.map S ∧ Clo gs ts cs := by
  have e : (ys.map fun y => y.cps.toList).map S = ys := by
    rw [List.map_map]
    exact (List.map_congr_left fun y _ => S_tl y).trans (List.map_id ys)
  have hp2 : (ys.map fun y => y.cps.toList).Perm fs := by
    have h := hp.map fun y => y.cps.toList
    rw [List.map_map] at h
    have e2 : fs.map ((fun y : Str => y.cps.toList) ∘ S) = fs := (List.map_congr_left fun _ _ => rfl).trans (List.map_id fs)
    rw [e2] at h
    exact h
  refine ⟨_, e.symm, hp2.nodup_iff.mpr nd, fun x => ⟨fun h => hi x (hp2.mem_iff.mp h), fun h => hp2.mem_iff.mpr (h.sub h0 hc)⟩, ?_⟩
  rw [e]
  exact hs
/-- in, among texts -/
theorem inV_S (x : List Nat) (fs : List (List Nat)) : inV (.str (S x)) (fs.map fun y => V.str (S y)) = decide (x ∈ fs) := by
  unfold inV
  rw [List.any_map, Bool.eq_iff_iff, List.any_eq_true, decide_eq_true_eq]
  constructor
  · rintro ⟨y, hy, e⟩
    have e' : (S y == S x) = true := e
    rw [S_beq_eq] at e'
    rw [← of_decide_eq_true e']
    exact hy
  · intro h
    refine ⟨x, h, ?_⟩
    show (S x == S x) = true
    exact beq_self_eq_true _
theorem flats (fs : List (List Nat)) : (fs.map fun y => V.str (S y)).all flatV = true := by
  rw [List.all_map, List.all_eq_true]
  intro y _
  rfl
end Own

namespace Own
open PySem PySem.Spec PyProof.Rows L2 SX
/-! ### try: .. except (A, B) as e: .. -/
theorem fly_keep {B h h' : Heap} {l : List Env} {a : Addr} {Z : Obj → Prop} (x : HandSPX.FlyingZ B l a Z h)
    (k : ∀ b o, h.get? b = some o → h'.get? b = some o) : HandSPX.FlyingZ B l a Z h' := by
  obtain ⟨x1, x2, x3, oe, vs, T, oT, ts, e1, e2, e3, e4, e5, e6, e7, e8, e9⟩ := x
  refine ⟨fun b o e => k b o (x1 b o e), x2, x3.of_keeps fun b o e _ => ⟨o, k b o e, rfl⟩, ?_⟩
  exact ⟨oe, vs, T, oT, ts, k _ _ e1, e2, e3, e4, e5, e6, k _ _ e7, e8, e9⟩

def dropN (i : Nat) (D : Ends) : Ends := { nx := fun σ' H' => D.nx (σ'.set i none) H', rt := D.rt, bk := fun σ' H' => D.bk (σ'.set i none) H', ct := fun σ' H' => D.ct (σ'.set i none) H' }
/-- what the clause «except (x1, x2) as n» wishes: the exception is one of them; slot i is n's -/
def wTwo (K : PySem.W.Frag) (c1 c2 : Value) (nn i : Nat) (ts : Addr → Value → Option Addr → TS) (D : Ends) : WX :=
  fun cls d σ H => PySem.W.exmAny K cls [c1, c2] = some true ∧ ∀ a, H a = none → σ.length = nn →
    ts a cls d (dropN i D) (σ.set i (some (.ref a))) H

/-- a caught exception at a as a clause looks at it, over the def's own state -/
structure Seen (X : Cx) (pins : List (Addr × Obj)) (B : Heap) (a : Addr) (cls : Value) (d : Option Addr) (σ : L2.St) (H : Hp) (s : Shared) : Prop where
  inv : Inv X pins σ H s
  fly : HandSPX.FlyingZ B (X.env :: X.outer) a (Zc cls d) s.heap
  free : H a = none
/-- the exception is none of the frames, so the suite may run with it pinned -/
theorem Seen.go {X : Cx} {pins : List (Addr × Obj)} {B : Heap} {a : Addr} {cls : Value} {d : Option Addr} {σ : L2.St} {H : Hp} {s : Shared}
    (g : Seen X pins B a cls d σ H s) (hf : X.env.frame = some X.env.locals) :
    ∃ oe, s.heap.get? a = some oe ∧ Zc cls d oe ∧ (∃ vs, oe.data = .fields vs) ∧ Inv (X.suite a ((a, oe) :: (X.pn ++ pins))) [] σ H s := by
  obtain ⟨oe, vs, e, hz, hd⟩ := g.fly.there
  have apart : ∀ v ∈ X.env :: X.outer, v.frame ≠ some a := fun v hv q => by
    obtain ⟨_, o', e', n⟩ := g.fly.2.2.1.mem (List.mem_filterMap.mpr ⟨v, hv, q⟩)
    cases e.symm.trans e'
    exact n _ hd
  refine ⟨oe, e, hz, ⟨vs, hd⟩, g.inv.suite e hd g.free (fun q => apart _ List.mem_cons_self (by rw [hf, q])) fun hm => ?_⟩
  obtain ⟨v, hv, q⟩ := List.mem_filterMap.mp hm
  exact apart v (List.mem_cons_of_mem _ hv) q

section
variable {X : Cx} {x1 x2 n : Str} {c1 c2 : Value} {i k : Nat} {body suite : List Stmt} {b0 : Stmt}
variable {p1 p2 pt pos pos' : Pos} {tb : WX → TS} {ts : Addr → Value → Option Addr → TS}
/-- (x1, x2) of two classes of the module, while an exception is handled -/
theorem two_classes {a : Addr} {pn : List (Addr × Obj)} {pins : List (Addr × Obj)} {σ : L2.St} {H : Hp} {s : Shared} {Q : Value → Shared → Prop} {E : Value → Shared → Prop}
    (I : Inv (X.suite a pn) pins σ H s) (g1 : Gl X x1) (m1 : X.mg x1 = some c1) (d1 : (x1 == ("__debug__" : Str)) = false)
    (g2 : Gl X x2) (m2 : X.mg x2 = some c2) (d2 : (x2 == ("__debug__" : Str)) = false)
    (q : Q (.ref s.heap.objs.size) { s with heap := s.heap.push { cls := .type "tuple", data := .seq [c1, c2].toArray } }) :
    wpAny (model X.prog X.w) (X.A.mark (some (.ref a))) (eval (.Tuple [.Name x1 p1, .Name x2 p2] k pt) X.env) Q E s :=
  wpAny_Tuple_spliced (Calls.spliced_cons (x := eval (.Name x1 p1) X.env) (rest := backTo pt (starEach [.Name x2 p2] X.env)) (ld_glob (X := X.suite a pn) I g1 m1
    (Calls.spliced_cons (x := eval (.Name x2 p2) X.env) (rest := backTo pt (starEach [] X.env)) (ld_glob (X := X.suite a pn) I g2 m2
      (Calls.spliced_nil ⟨by show 2 ≤ sizeLine; decide, q⟩) d2)) d1))
/-- the suite's end: n is gone, and what was pinned is the def's own again -/
theorem ends_two {a : Addr} {pins : List (Addr × Obj)} {oe : Obj} {D : Ends} {fl : Flow} {s : Shared} {E : Value → Shared → Prop}
    (ok : X.Ok) (hN : X.N.Nodup) (hi : X.N[i]? = some n) (hln : X.env.kindOf n = some .local)
    (h : SP (X.suite a ((a, oe) :: (X.pn ++ pins))) [] (dropN i D) fl s) :
    wpAny (model X.prog X.w) X.A (do bindName X.env n .none; unbindBehindTheSuite X.env n pos') (fun _ s' => SP X pins D fl s') E s := by
  cases fl with
  | ret u =>
    obtain ⟨v, σ', H', S, r, q⟩ := h
    exact gone_ok (S.unsuite ok) hN hi hln fun s' J => ⟨v, _, H', J, r, q⟩
  | _ =>
    obtain ⟨σ', H', S, q⟩ := h
    exact gone_ok (S.unsuite ok) hN hi hln fun s' J => ⟨_, H', J, q⟩
theorem ps_two (hs : X.stack = X.env :: X.outer) (hf : X.env.frame = some X.env.locals) (hN : X.N.Nodup)
    (hi : X.N[i]? = some n) (hln : X.env.kindOf n = some .local)
    (g1 : Gl X x1) (m1 : X.mg x1 = some c1) (d1 : (x1 == ("__debug__" : Str)) = false)
    (g2 : Gl X x2) (m2 : X.mg x2 = some c2) (d2 : (x2 == ("__debug__" : Str)) = false)
    (hb : ∀ (W : WX) (pn : List (Addr × Obj)) (xe : Value → Shared → Prop), Takes (X.tr pn xe) W →
      PassesOwn (model X.prog X.w) X.A X.env xe → PSs (X.tr pn xe) body (tb W))
    (hsu : ∀ (a : Addr) (oe : Obj) (cls : Value) (d : Option Addr) (pn : List (Addr × Obj)), Zc cls d oe →
      (∃ vs, oe.data = .fields vs) → PSs (X.suite a ((a, oe) :: pn)) (b0 :: suite) (ts a cls d)) :
    PS X (.Try body [.ExceptHandler (some (.Tuple [.Name x1 p1, .Name x2 p2] k pt)) (some n) (b0 :: suite) pos'] [] [] pos)
      (fun D σ H => tb (wTwo X.K c1 c2 X.N.length i ts D) D σ H) := by
  constructor
  intro pins s σ H D I h
  have ok := I.ok
  refine wpAny_Try_except (wpAny_mono ((hb (wTwo X.K c1 c2 X.N.length i ts D) (X.pn ++ pins) _ ?_ PassesOwn.looking).run [] s σ H D (I.toTry _) h) ?_ fun _ _ e => e)
  · rintro u s' ⟨a, B, sI, pins', σ', H', cls, d, rfl, J', nb, up, sky, na, os, ag, two, wish⟩
    have J := J'.ofTry (pins := pins) ok
    refine Sky.land Zc.steady (by rw [ok.frames, hs]) hf (by rw [← hs]; exact sky) fun h1 f1 u1 => ?_
    have seen1 : Seen X pins B a cls d σ' H' { s' with heap := h1 } := ⟨J.landed nb f1.1 (up.trans u1) os ag, f1, na⟩
    obtain ⟨o1, e1, z1, _, S1⟩ := seen1.go hf
    -- the tuple of the two classes lies behind all that was there
    have grow : ∀ b o, h1.get? b = some o → (h1.push { cls := .type "tuple", data := .seq [c1, c2].toArray }).get? b = some o :=
      fun _ _ e => Heap.get?_push_of_some _ e
    have there : (h1.push { cls := .type "tuple", data := .seq [c1, c2].toArray }).get? h1.objs.size =
        some { cls := .type "tuple", data := .seq [c1, c2].toArray } := Heap.get?_push_size _ rfl
    refine wpAny_handleBy_cons (codeAny_handlers_test (two_classes S1 g1 m1 d1 g2 m2 d2 ?_)) (fun q => nomatch q)
    refine (PySem.W.exm_tup2 (M := model X.prog X.w) (seen1.inv.kept (t' := s'.toks) grow).kIn
      (fun A Q E s k q => wpAny_typeOf_ref (k _ _ (grow _ _ e1)) (by rw [z1.1]; exact q)) there two).here
        (codeAny_handlers_suite_as (HandSPX.lands_againZ (fly_keep f1 grow) fun h2 f2 u2 => ?_))
    have seen2 : Seen X pins B a cls d σ' H' { s' with heap := h2 } :=
      ⟨J.landed nb f2.1 (((up.trans u1).trans (Heap.UpToSlots.of_keeps grow)).trans u2) os ag, f2, na⟩
    obtain ⟨o2, _, z2, v2, S2⟩ := seen2.go hf
    refine store_ok (X := X.suite a ((a, o2) :: (X.pn ++ pins))) (v := .ref a) S2 hN hi (.inl hln) rfl (fun s3 S3 => ?_) (.inr hln)
    exact wpAny_mono ((hsu a o2 cls d (X.pn ++ pins) z2 v2).run [] s3 _ H' _ S3 (wish a na J.len))
      (fun fl s4 hs4 => ends_two ok hN hi hln hs4) fun _ _ no => no.elim
  · intro fl s1 h1
    cases fl with
    | next => obtain ⟨σ', H', K', q⟩ := h1; exact wpAny_execs_nil ⟨σ', H', K'.ofTry ok, q⟩
    | ret u => obtain ⟨v, σ', H', K', r, q⟩ := h1; exact ⟨v, σ', H', K'.ofTry ok, r, q⟩
    | _ => obtain ⟨σ', H', K', q⟩ := h1; exact ⟨σ', H', K'.ofTry ok, q⟩
end
end Own

namespace Own
open PySem PySem.Spec PyProof.Rows L2 SX
/-- what is known of a caught exception: a its object, cls its class, d its dict -/
def tXg (K : PySem.W.Frag) (a : Addr) (cls : Value) (d : Option Addr) (f : Str) (te : TE) : TE := fun σ H Q => te σ H fun x H1 =>
  x = .ref a ∧ ∃ (C dd : Addr) (fs : List (Str × V)) (v : V), cls = .ref C ∧ XfC K C ∧ PySem.W.findIn K (.ref C) f = some none ∧
    d = some dd ∧ H1 dd = some (.xd fs) ∧ fs.lookup f = some v ∧ Q v H1
theorem pe_xg {X : Cx} {a : Addr} {oe : Obj} {cls : Value} {d : Option Addr} {e : Expr} {te : TE} {pos : Pos} {n : Str}
    (hp : (a, oe) ∈ X.pn) (hz : Zc cls d oe) (hf : ∃ vs, oe.data = .fields vs) (he : PE X e te)
    (hb : attributeBase e n X.env (eval e X.env) = eval e X.env := by rfl) :
    PE X (.Attribute e n pos) (tXg X.K a cls d n te) := by
  constructor
  intro pins s σ H Q I h
  refine attr_of hb (thn (he.run pins s σ H _ I h) ?_)
  rintro u s1 ⟨_, H1, I1, rx, rfl, C, dd, fs, v, rfl, T, none', rfl, lies, look, q⟩
  have eu : u = .ref a := rx
  subst eu
  obtain ⟨vs, hd⟩ := hf
  obtain ⟨m, ns, all⟩ := (show ObjOk X.prog X.w H1 s1.heap dd (.xd fs) from I1.hok dd _ lies)
  obtain ⟨od, od_at, od_look⟩ := lookIn_ns ns
  obtain ⟨u', mu, ru⟩ := RelO.some_of (o := m n) (v := v) (look ▸ all n)
  refine HandSPX.exc_get I1.kIn (C := C) (ox := oe) (od := some od) ?_ T.ga T.gg T.exC (PySem.W.findObj_own T.hdC none' rfl (by rw [od_look, mu])) (handed_of ru) ⟨v, H1, I1.tok _, ru, q⟩
  refine ⟨(I1.pin (a, oe) (List.mem_append_left _ hp)).1, hz.1, ?_, hz.2 ▸ od_at⟩
  rw [PySem.W.notCls, hd]

/-! ### a def called with the caught exception -/
abbrev SpX := Addr → Value → Option Addr → Sp
structure FnP (P : Program) (w : World) (K : PySem.W.Frag) (mg : Str → Option Value) (base : Heap) (k : Nat) (f : Addr) (fd : FuncData) (ps : List Str) (sp : SpX) : Prop where
  len : ∀ a cls d vs H Q E, sp a cls d vs H Q E → vs.length = ps.length
  run : ∀ (A : Around) (outer : List Env) (s : Shared) (H : Hp) (args : Args) (us : List Value) (vs : List V) (Q : VK) (a : Addr) (oe : Obj) (cls : Value) (d : Option Addr),
    L2H.RoomH k A → L2H.PinOk outer H s (a, oe) → Zc cls d oe → (∃ vs, oe.data = .fields vs) → Env0 P w K mg base A outer s H →
    BindsTo s fd args (ps.zip us) → Vals vs us → sp a cls d vs H Q E0 → codeAny (model P w) A (.call (.ref f) args) (CR CX0 outer P w H s Q E0) s

theorem fn_ofP {P : Program} {w : World} {K : PySem.W.Frag} {mg : Str → Option Value} {base : Heap} {k : Nat} {f : Addr} {x qual : Str} {st : Stmt} {fd : FuncData}
    {N ps : List Str} {sp : SpX} (F : Fun K x qual st f fd) (S : FnScope N ps (defScope st)) (len : ∀ a cls d vs H Q E, sp a cls d vs H Q E → vs.length = ps.length)
    (hbody : ∀ (cdv : Value) (A : Around) (outer : List Env) (s : Shared) (H : Hp) (vs : List V) (Q : VK) (a : Addr) (oe : Obj) (cls : Value) (d : Option Addr),
      Zc cls d oe → (∃ vs, oe.data = .fields vs) → L2H.RoomH k (A.deeper (envOfC qual (defScope st) s.heap.objs.size f cdv)) → sp a cls d vs H Q E0 →
      ∃ t, PSs (L2H.cxH CX0 P w K mg base N qual (defScope st) f cdv A outer s H E0 (a, oe)) (defBody st) t ∧ t { nx := fun _ H' => Q .non H', rt := Q } (L2.start N vs) H) :
    FnP P w K mg base (k + 1) f fd ps sp := by
  refine ⟨len, ?_⟩
  intro A outer s H args us vs Q a oe cls d room pin hz hf env bind rel asks
  obtain ⟨_, _, _, _, _, _, cdv, _, _, rfl, at_, code⟩ := F.ex
  have kept : ∀ b o, base.get? b = some o → s.heap.get? b = some o := fun b o e => (env.bs b o e).1
  have frag := env.mod.kin.keeps kept
  refine codeAny_call_function room.depth (frag _ _ at_) rfl S.co S.gen rfl (PySem.W.codeRec_of frag code) (bind _ _ _ _ (wpAny_newFunctionEnv_cells S.kind ?_ ?_))
  · rintro ⟨y, v⟩ hy
    exact (S.par y (List.of_mem_zip hy).1).imp id fun q => ⟨q, PySem.W.cellsFrom_some _ _ _ (.inl q)⟩
  · rintro _ rfl s1 begun
    obtain ⟨t, body, wish⟩ := hbody cdv A outer s H vs Q a oe cls d hz hf (room.deeper _) asks
    have I := L2H.inv_startH (CX := CX0) (E := E0) S pin env (len _ _ _ _ _ _ _ asks) rel begun
    refine ⟨(env.mod.nolimit.keeps kept).keeps begun.toInCall.keep, codeAny_func (wpAny_mono (body.run [] s1 (L2.start N vs) H _ I wish) ?_ fun _ _ no => no)⟩
    intro fl s' out
    rcases fl with _ | u | _ | _
    all_goals first
      | (obtain ⟨_, _, _, no⟩ := out; exact no.elim)
      | (obtain ⟨σ', H', J, q⟩ := out; exact ⟨V.non, H', J.os, J.bare, J.base, J.hok, rfl, q⟩)
      | (obtain ⟨v, σ', H', J, rv, q⟩ := out; exact ⟨v, H', J.os, J.bare, J.base, J.hok, rv, q⟩)

theorem pe_callP {X : Cx} {k : Nat} {f a : Addr} {oe : Obj} {cls : Value} {d : Option Addr} {fd : FuncData} {ps : List Str} {sp : SpX} {x : Str} {p pos : Pos} {e : Expr} {es : List Expr} {t : TA}
    (hp : (a, oe) ∈ X.pn) (hz : Zc cls d oe) (hf : ∃ vs, oe.data = .fields vs)
    (F : FnP X.prog X.w X.K X.mg X.base k f fd ps sp) (hr : L2H.RoomH k X.A) (hg : Gl X x) (hm : X.mg x = some (.ref f)) (hk : PySem.W.keepIn X.K (.ref f) = true) (hb : Binds X.K fd ps [])
    (ha : PA X (e :: es) t) (hdb : (x == ("__debug__" : Str)) = false := by decide)
    (he : starEach (e :: es) X.env = (false, eval e X.env) :: starEach es X.env := by rfl) (hpl : (backTo pos (starEach es X.env)).any (·.1) = false := by rfl) :
    PE X (.Call (.Name x p) (e :: es) [] pos) (fun σ H Q => t σ H fun vs H1 => sp a cls d vs H1 Q E0) := by
  constructor
  intro pins s σ H Q I h
  refine wpAny_Call_Name_kw (ld_glob I hg hm (PySem.W.callWith_K (h₀ := X.base) I.ok.mod.kin hk (thn (ha.run pos pins s σ H _ I h) ?_) he hpl) hdb)
  rintro us s1 ⟨vs, H1, I1, rel, asks⟩
  have bound : BindsTo s1 fd ⟨us, []⟩ (ps.zip us) := by
    have := hb s1 us I1.kIn (by rw [List.append_nil, ← rel.length]; exact F.len _ _ _ _ _ _ _ asks)
    rwa [List.append_nil] at this
  obtain ⟨lies, free, c1, c2, c3⟩ := I1.pin (a, oe) (List.mem_append_left _ hp)
  have pin : L2H.PinOk X.stack H1 s1 (a, oe) := ⟨lies, free, fun m => (List.mem_cons.mp (I1.stkSub _ m)).elim c1 c2, c3⟩
  refine ⟨I1.kIn, wpAny_call (codeAny_mono (F.run X.A X.stack s1 H1 ⟨us, []⟩ us vs Q a oe cls d hr pin hz hf I1.env0 bound rel asks) ?_)⟩
  rintro (er | (_ | u | _ | _)) s' out
  all_goals first | exact I1.after out | exact (show False from out).elim

/-! ### the fields of errors -/
/-- an error as it lies: its class, its dict, its code, and what _law_field gives of it -/
def ErrAt (K : PySem.W.Frag) (cls : Value) (d : Option Addr) (H : Hp) (code : Str) (v : V) : Prop :=
  ∃ (C dd : Addr) (fs : List (Str × V)), cls = .ref C ∧ d = some dd ∧ H dd = some (.xd fs) ∧ XfC K C ∧ PySem.W.findIn K (.ref C) "code" = some none ∧ fs.lookup ("code" : Str) = some (V.str code) ∧
    (((code = "UnknownLetter" ∨ code = "ParseError") ∧ PySem.W.findIn K (.ref C) "position" = some none ∧ fs.lookup ("position" : Str) = some v) ∨ ((code = "InvalidLetters" ∨ code = "LettersDiffer") ∧ v = .non))
def spFld (K : PySem.W.Frag) : SpX := fun a cls d vs H Q _ => ∃ code v, vs = [.ref a] ∧ ErrAt K cls d H code v ∧ ∀ H', Same H H' → Q v H'
end Own

namespace Own
open PySem PySem.Spec PyProof.Rows L2 SX
/-- C() of an error class with an own __init__ -/
theorem pmk0 {X : Cx} {CX : CXT} {x : Str} {C fI : Addr} {k : Nat} {fd : FuncData} {ps : List Str} {sp : Sp} {p pos : Pos} (T : OexC X.K C)
    (iC : PySem.W.findIn X.K (.ref C) "__init__" = some (some (.ref fI))) (tI : PySem.W.typeIn X.K (.ref fI) = some (.type "function"))
    (F1 : FnOk X.prog X.w X.K X.mg X.base CX k fI fd ps sp) (hr : Room (k + 1) X.A) (hb : Binds X.K fd ps []) (hx : Passes CX X (fun _ _ _ => False))
    (hg : Gl X x) (hm : X.mg x = some (.ref C)) (hdb : (x == ("__debug__" : Str)) = false := by decide) :
    PMk X (.Call (.Name x p) [] [] pos) (tMkO C sp [] tNil) := by
  rintro pins ⟨hp, g, dr, tk, os⟩ σ H Q I ⟨_, asks⟩
  obtain ⟨_, _, _, _, bm, _, _, _, _, _, _, _, _, _, _, cls, refs⟩ := T.cls
  -- the error lies right behind its empty tuple of arguments
  let a : Addr := hp.objs.size + 1
  let h2 := (hp.push (PySem.W.kdv_tup [])).push (PySem.HandSPX.excO C hp.objs.size)
  have young : hp.objs.size ≤ a := Nat.le_add_right _ _
  have wish := asks a (I.hok.fresh young)
  have stays : ∀ b o, hp.get? b = some o → h2.get? b = some o := fun b o e => by
    have e1 : (hp.push (PySem.W.kdv_tup [])).get? b = some o := Heap.get?_push_of_some _ e
    exact Heap.get?_push_of_some _ e1
  have lies : h2.get? a = some (PySem.HandSPX.excO C hp.objs.size) := by
    show ((hp.push (PySem.W.kdv_tup [])).push (PySem.HandSPX.excO C hp.objs.size)).get? (hp.objs.size + 1) = _
    heap_get
  have I2 : Inv X pins σ (upd H a (exo a C none)) ⟨h2, g, dr, tk, os⟩ := I.laid (t' := tk) stays young (exo_ok lies)
  have rel : Vals [V.ref a] [Value.ref a] := .cons rfl .nil
  have init := F1.run _ X.stack ⟨h2, g, dr, tk, os⟩ _ ⟨[.ref a], []⟩ [.ref a] _ _ (fun _ _ _ => False)
    (hr.make C [] []) (I2.env0.make C [] []) (hb _ [.ref a] I2.kIn (F1.len _ _ _ _ wish)) rel wish
  refine wpAny_Call_Name_kw (ld_glob I hg hm (PySem.W.callWith_K0 I.kIn T.kC (wpAny_call
    (PySem.HandSPX.call_own F.excBase_ValueError (fun Y => PySem.HandSPX.refsVE_contains Y bm refs) (I.kIn _ _ cls)
      (PySem.W.looks_findIn I.kIn iC) (fun self => PySem.W.bind_fn I.kIn self tI) (Nat.zero_le _) (codeAny_mono init ?_)))) hdb)
  rintro (er | fl) s' out
  · exact hx pins σ _ _ er s' I2 out
  · cases fl with
    | ret u =>
      obtain ⟨_, H2, o1, o2, o3, o4, rv, rfl, d, fs, ea, ed, hd, q⟩ := out
      exact ⟨rv, mk_end (raises_own T.exC T.tyC) I young stays o3 o4 o1 o2 ea ed hd q⟩
    | _ => exact out.elim

/-- self.code = «code» -/
def spI0 (K : PySem.W.Frag) (C : Addr) (code : Str) : Sp := fun vs H Q _ => ∃ a, vs = [.ref a] ∧ H a = some (exo a C none) ∧
  ∀ dx, H dx = none → dx ≠ a → Q .non (upd (upd H dx (exd dx [("code", .str code)])) a (exo a C (some dx)))
/-- self.code = «code»; self.position = position -/
def spI1 (K : PySem.W.Frag) (C : Addr) (code : Str) : Sp := fun vs H Q _ => ∃ a v, vs = [.ref a, v] ∧ H a = some (exo a C none) ∧
  ∀ dx, H dx = none → dx ≠ a → Q .non (upd (upd (upd H dx (exd dx [("code", .str code)])) a (exo a C (some dx))) dx (exd dx [("position", v), ("code", .str code)]))
/-- what is left behind a raise -/
theorem after0 {H1 : Hp} {a dx C : Addr} {fs : List (Str × V)} {o : HO} (na : H1 a = none) (nd : (upd H1 a o) dx = none) (ne : dx ≠ a) :
    H1 dx = none ∧ Same H1 (upd (del (upd (upd (upd H1 a o) dx (exd dx fs)) a (exo a C (some dx))) a) dx (.xd fs)) := by
  have n1 : H1 dx = none := by rw [upd_ne ne] at nd; exact nd
  refine ⟨n1, fun b u e => ?_⟩
  have b1 : b ≠ a := ne_of_none e na
  have b2 : b ≠ dx := ne_of_none e n1
  rw [upd_ne b2, del_ne b1, upd_ne b1, upd_ne b2, upd_ne b1]
  exact e
theorem after1 {H1 : Hp} {a dx C : Addr} {fs gs : List (Str × V)} {o : HO} (na : H1 a = none) (nd : (upd H1 a o) dx = none) (ne : dx ≠ a) :
    H1 dx = none ∧ Same H1 (upd (del (upd (upd (upd (upd H1 a o) dx (exd dx gs)) a (exo a C (some dx))) dx (exd dx fs)) a) dx (.xd fs)) := by
  have n1 : H1 dx = none := by rw [upd_ne ne] at nd; exact nd
  refine ⟨n1, fun b u e => ?_⟩
  have b1 : b ≠ a := ne_of_none e na
  have b2 : b ≠ dx := ne_of_none e n1
  rw [upd_ne b2, del_ne b1, upd_ne b2, upd_ne b1, upd_ne b2, upd_ne b1]
  exact e
/-- the facts of an error class -/
structure ErrC (K : PySem.W.Frag) (mg : Str → Option Value) (x : Str) (C : Addr) : Prop where
  ox : OexC K C
  gl : mg x = some (.ref C)
  nc : PySem.W.findIn K (.ref C) "code" = some none
  np : PySem.W.findIn K (.ref C) "position" = some none
  xf : XfC K C

/-! ### _law_try -/
def TTry (K : PySem.W.Frag) (CF CM : Addr) : (XK → Hp → VK → Prop) → Hp → VK → Prop := fun tl H Q =>
  tl (fun cls d H' => PySem.W.exmAny K cls [.ref CF, .ref CM] = some true ∧ ∃ code v, ErrAt K cls d H' code v ∧
      ∀ H'' t, Same H' H'' → H'' t = none → Q (.ref t) (upd H'' t (.tup [.str code, v]))) H
    (fun v H' => 2 ≤ sizeLine ∧ ∀ t, H' t = none → Q (.ref t) (upd H' t (.tup [.str (Str.ofString "value"), v])))
/-- valid letters -/
structure Valid (cs : List Nat) : Prop where
  lo : 2 ≤ cs.length
  hi : cs.length ≤ 4
  az : ∀ c ∈ cs, 97 ≤ c ∧ c ≤ 122
  nd : cs.Nodup
def spCL (C : Addr) : Sp := fun vs H Q E => ∃ cs, vs = [.str (S cs)] ∧ cs.length ≤ 1000 ∧ (Valid cs → ∀ H', Same H H' → Q .non H') ∧
  (¬ Valid cs → ∀ H' d, Same H H' → H' d = some (.xd [("code", .str "InvalidLetters")]) → E (.ref C) (some d) H')
def spCT (C : Addr) : Sp := fun vs H Q E => ∃ gs xs, vs = [.str (S gs), .str (S xs)] ∧ ((∀ c ∈ xs, c ∈ gs) → ∀ H', Same H H' → Q .non H') ∧
  (∀ (i c : Nat), xs[i]? = some c → c ∉ gs → (∀ (j c' : Nat), j < i → xs[j]? = some c' → c' ∈ gs) → ∀ H' d, Same H H' →
    H' d = some (.xd [("position", .int (i : Nat)), ("code", .str "UnknownLetter")]) → E (.ref C) (some d) H')
theorem err_il {K : PySem.W.Frag} {mg : Str → Option Value} {x : Str} {C d : Addr} {H : Hp} (T : ErrC K mg x C) (h : H d = some (.xd [("code", .str "InvalidLetters")])) :
    ErrAt K (.ref C) (some d) H "InvalidLetters" .non := ⟨C, d, _, rfl, rfl, h, T.xf, T.nc, rfl, .inr ⟨.inl rfl, rfl⟩⟩
theorem err_ul {K : PySem.W.Frag} {mg : Str → Option Value} {x : Str} {C d : Addr} {H : Hp} {v : V} (T : ErrC K mg x C) (h : H d = some (.xd [("position", v), ("code", .str "UnknownLetter")])) :
    ErrAt K (.ref C) (some d) H "UnknownLetter" v := ⟨C, d, _, rfl, rfl, h, T.xf, T.nc, rfl, .inl ⟨.inl rfl, T.np, rfl⟩⟩
end Own

namespace Own
open PySem PySem.Spec PyProof.Rows L2 SX
/-! ### tables of code objects, and the drawer -/
theorem Same.extN {H H' : Hp} (s : Same H H') : LamX.ExtN H H' := fun b o h _ => s b o h
theorem tabs_same {T : List (Addr × Str)} {H H' : Hp} (t : LamX.Tabs T H) (s : Same H H') : LamX.Tabs T H' := t.ext s
theorem tabs_go {T : List (Addr × Str)} {r : Addr} {H H' : Hp} (t : LamX.Tabs T H) (g : Go r H H') : LamX.Tabs T H' := by
  intro p hp
  obtain ⟨ps, h1, h2, h3⟩ := t p hp
  obtain ⟨xs, er⟩ := g.rng0.ex
  refine ⟨ps, g.1 _ _ (ne_of h1 er fun e => by cases e) h1, h2, fun pos cv hc => ?_⟩
  obtain ⟨c, e1, e2⟩ := h3 pos cv hc
  exact ⟨c, e1, g.1 _ _ (ne_of e2 er fun e => by unfold LamX.CodeO at e; cases e) e2⟩
theorem rng_extN {r : Addr} {H H' : Hp} (R : Rng H r) (e : LamX.ExtN H H') : Rng H' r := by
  obtain ⟨l, ns, i, b, z, c, R⟩ := R
  exact ⟨l, ns, i, b, z, c, R.1, e _ _ R.2.1 (fun ps h => by cases h), e _ _ R.2.2 (fun ps h => by cases h)⟩
/-- all but the tables and the drawer at r stay; there is a drawer -/
structure Keep (T : List (Addr × Str)) (r : Addr) (H : Hp) : Prop where
  rng : Rng H r
  tab : LamX.Tabs T H
theorem Keep.same {T : List (Addr × Str)} {r : Addr} {H H' : Hp} (k : Keep T r H) (s : Same H H') : Keep T r H' := ⟨k.rng.same s, tabs_same k.tab s⟩
theorem Keep.go {T : List (Addr × Str)} {r : Addr} {H H' : Hp} (k : Keep T r H) (g : Go r H H') : Keep T r H' := ⟨g.rng, tabs_go k.tab g⟩
theorem Keep.ext {T : List (Addr × Str)} {r : Addr} {H H' : Hp} (k : Keep T r H) (e : LamX.ExtN H H') (t : LamX.Tabs T H') : Keep T r H' := ⟨rng_extN k.rng e, t⟩
theorem Keep.new {T : List (Addr × Str)} {r p : Addr} {H : Hp} {o : HO} (k : Keep T r H) (n : H p = none) : Keep T r (upd H p o) := k.same (same_new n)
/-! ### two calls tried -/
section
variable {K : PySem.W.Frag} {mg : Str → Option Value} {T : List (Addr × Str)} {CF CM C : Addr} {H : Hp} {σ : L2.St} {Q : VK} {x : Str} {ta : TA}
theorem lam_CL {cs : List Nat} (EC : ErrC K mg x C) (hx : PySem.W.exmAny K (.ref C) [.ref CF, .ref CM] = some true) (hT : LamX.Tabs T H)
    (ha : ∀ H1 (k : List V → Hp → Prop), k [.str (S cs)] H1 → ta σ H1 k) (hl : cs.length ≤ 1000)
    (q : ∀ H' t code, LamX.ExtN H H' → LamX.Tabs T H' → H' t = some (.tup [.str code, .non]) → (Valid cs ∧ code = Str.ofString "value" ∨ ¬ Valid cs ∧ code = Str.ofString "InvalidLetters") → Q (.ref t) H') :
    LamX.tLam T (TTry K CF CM) (fun E => tCall (spCL C) [] E ta) σ H Q := by
  refine ⟨hT, fun H1 e1 t1 => ?_⟩
  refine ha H1 _ ⟨cs, rfl, hl, fun hv H2 s2 => ⟨by decide, fun t nt => ?_⟩, fun hv H2 d s2 hd => ⟨hx, _, _, err_il EC hd, fun H3 t s3 nt => ?_⟩⟩
  · exact q _ t _ (e1.trans (Same.extN (s2.trans (same_new nt)))) (tabs_same t1 (s2.trans (same_new nt))) upd_same (.inl ⟨hv, rfl⟩)
  · exact q _ t _ (e1.trans (Same.extN ((s2.trans s3).trans (same_new nt)))) (tabs_same t1 ((s2.trans s3).trans (same_new nt))) upd_same (.inr ⟨hv, rfl⟩)
/-- the first sign of xs that is none of gs -/
def Bad (gs xs : List Nat) (i : Nat) : Prop := ∃ c : Nat, xs[i]? = some c ∧ c ∉ gs ∧ ∀ (j c' : Nat), j < i → xs[j]? = some c' → c' ∈ gs
theorem Bad.one {gs xs : List Nat} {i j : Nat} (a : Bad gs xs i) (b : Bad gs xs j) : i = j := by
  obtain ⟨c, h1, h2, h3⟩ := a
  obtain ⟨d, k1, k2, k3⟩ := b
  rcases Nat.lt_trichotomy i j with h | h | h
  · exact absurd (k3 i c h h1) h2
  · exact h
  · exact absurd (h3 j d h k1) k2
theorem lam_CT {gs xs : List Nat} (EC : ErrC K mg x C) (hx : PySem.W.exmAny K (.ref C) [.ref CF, .ref CM] = some true) (hT : LamX.Tabs T H)
    (ha : ∀ H1 (k : List V → Hp → Prop), k [.str (S gs), .str (S xs)] H1 → ta σ H1 k)
    (q : ∀ H' t code v, LamX.ExtN H H' → LamX.Tabs T H' → H' t = some (.tup [.str code, v]) →
      ((∀ c ∈ xs, c ∈ gs) ∧ code = Str.ofString "value" ∧ v = .non ∨ ∃ i : Nat, Bad gs xs i ∧ code = Str.ofString "UnknownLetter" ∧ v = .int (i : Nat)) → Q (.ref t) H') :
    LamX.tLam T (TTry K CF CM) (fun E => tCall (spCT C) [] E ta) σ H Q := by
  refine ⟨hT, fun H1 e1 t1 => ?_⟩
  refine ha H1 _ ⟨gs, xs, rfl, fun hv H2 s2 => ⟨by decide, fun t nt => ?_⟩, fun i c hc hn hall H2 d s2 hd => ⟨hx, _, _, err_ul EC hd, fun H3 t s3 nt => ?_⟩⟩
  · exact q _ t _ _ (e1.trans (Same.extN (s2.trans (same_new nt)))) (tabs_same t1 (s2.trans (same_new nt))) upd_same (.inl ⟨hv, rfl, rfl⟩)
  · exact q _ t _ _ (e1.trans (Same.extN ((s2.trans s3).trans (same_new nt)))) (tabs_same t1 ((s2.trans s3).trans (same_new nt))) upd_same (.inr ⟨i, ⟨c, hc, hn, hall⟩, rfl, rfl⟩)
end
/-! ### signs that stand twice, signs that are none of the letters -/
def twL (cs : List Nat) (n : Nat) : List Nat := (List.range n).filter fun i => decide (cs.getD i 0 ∈ cs.take i)
def wrL (gs xs : List Nat) (n : Nat) : List Nat := (List.range n).filter fun i => !decide (xs.getD i 0 ∈ gs)
theorem twL_step {cs : List Nat} {i c : Nat} (h : cs[i]? = some c) : twL cs (i + 1) = twL cs i ++ (if decide (c ∈ cs.take i) = true then [i] else []) := by
  have e : cs.getD i 0 = c := by rw [List.getD_eq_getElem?_getD, h]; rfl
  unfold twL
  rw [List.range_succ, List.filter_append, ← e]
  congr 1
  show (match decide (cs.getD i 0 ∈ List.take i cs) with | true => [i] | false => []) = _
  cases decide (cs.getD i 0 ∈ List.take i cs) <;> rfl
theorem wrL_step {gs xs : List Nat} {i c : Nat} (h : xs[i]? = some c) : wrL gs xs (i + 1) = wrL gs xs i ++ (if (!decide (c ∈ gs)) = true then [i] else []) := by
  have e : xs.getD i 0 = c := by rw [List.getD_eq_getElem?_getD, h]; rfl
  unfold wrL
  rw [List.range_succ, List.filter_append, ← e]
  congr 1
  show (match !decide (xs.getD i 0 ∈ gs) with | true => [i] | false => []) = _
  cases decide (xs.getD i 0 ∈ gs) <;> rfl
theorem twL_len {cs : List Nat} {n : Nat} : (twL cs n).length ≤ n := by
  unfold twL
  exact Nat.le_trans (List.length_filter_le _ _) (Nat.le_of_eq List.length_range)
theorem wrL_len {gs xs : List Nat} {n : Nat} : (wrL gs xs n).length ≤ n := by
  unfold wrL
  exact Nat.le_trans (List.length_filter_le _ _) (Nat.le_of_eq List.length_range)
theorem tw_nil {cs : List Nat} : twL cs cs.length = [] ↔ cs.Nodup := by
  unfold twL
  rw [List.filter_eq_nil_iff]
  constructor
  · intro h
    have main : ∀ n, n ≤ cs.length → (cs.take n).Nodup := by
      intro n
      induction n with
      | zero => intro _; rw [List.take_zero]; exact List.Pairwise.nil
      | succ n ih =>
        intro hn
        have hc : cs[n]? = some cs[n] := List.getElem?_eq_getElem (by omega)
        have ht : cs.take (n + 1) = cs.take n ++ [cs[n]] := by rw [List.take_add_one, hc]; rfl
        rw [ht]
        refine List.nodup_append.mpr ⟨ih (by omega), by simp, fun z hz z' hz' e => ?_⟩
        rw [List.mem_singleton.mp hz'] at e
        have := h n (List.mem_range.mpr (by omega))
        rw [List.getD_eq_getElem?_getD, hc] at this
        exact this (decide_eq_true (by rw [← e]; exact hz))
    have := main cs.length (Nat.le_refl _)
    rw [List.take_length] at this
    exact this
  · intro nd i hi hd
    have hn := List.mem_range.mp hi
    have hc : cs[i]? = some cs[i] := List.getElem?_eq_getElem hn
    have ht : cs.take (i + 1) = cs.take i ++ [cs[i]] := by rw [List.take_add_one, hc]; rfl
    have nd2 : (cs.take i ++ [cs[i]]).Nodup := by
      rw [← ht]
      exact (List.take_sublist _ _).nodup nd
    rw [List.getD_eq_getElem?_getD, hc] at hd
    exact (List.nodup_append.mp nd2).2.2 _ (of_decide_eq_true hd) _ (List.mem_singleton.mpr rfl) rfl
theorem wr_cases {gs xs : List Nat} : (wrL gs xs xs.length = [] ∧ ∀ c ∈ xs, c ∈ gs) ∨ ∃ i rest, wrL gs xs xs.length = i :: rest ∧ Bad gs xs i := by
  have memI : ∀ {i c : Nat}, xs[i]? = some c → c ∉ gs → i ∈ wrL gs xs xs.length := by
    intro i c hc hn
    unfold wrL
    rw [List.mem_filter]
    refine ⟨List.mem_range.mpr (List.getElem?_eq_some_iff.mp hc).1, ?_⟩
    rw [List.getD_eq_getElem?_getD, hc]
    show (!decide (c ∈ gs)) = true
    rw [decide_eq_false hn]
    rfl
  cases h : wrL gs xs xs.length with
  | nil =>
    refine .inl ⟨rfl, fun c hc => ?_⟩
    obtain ⟨i, hi⟩ := List.mem_iff_getElem?.mp hc
    refine Decidable.byContradiction fun hn => ?_
    have := memI hi hn
    rw [h] at this
    cases this
  | cons i rest =>
    refine .inr ⟨i, rest, rfl, ?_⟩
    have hi : i ∈ wrL gs xs xs.length := by rw [h]; exact List.mem_cons_self ..
    have hp : (wrL gs xs xs.length).Pairwise (· < ·) := List.Pairwise.sublist List.filter_sublist List.pairwise_lt_range
    unfold wrL at hi
    rw [List.mem_filter] at hi
    obtain ⟨h1, h2⟩ := hi
    have hlt : i < xs.length := List.mem_range.mp h1
    have hc : xs[i]? = some xs[i] := List.getElem?_eq_getElem hlt
    rw [List.getD_eq_getElem?_getD, hc] at h2
    refine ⟨xs[i], hc, fun hm => ?_, fun j c' hj hx => ?_⟩
    · have h2 : (!decide (xs[i] ∈ gs)) = true := h2
      rw [decide_eq_true hm] at h2
      cases h2
    · refine Decidable.byContradiction fun hn => ?_
      have := memI hx hn
      rw [h] at this hp
      rcases List.mem_cons.mp this with e | e
      · omega
      · have := (List.pairwise_cons.mp hp).1 j e
        omega
/-! ### lists of ints compared with nothing -/
abbrev nint (n : Nat) : V := .int (n : Int)
theorem dp_ints {K : PySem.W.Frag} {H : Hp} : ∀ ns : List Nat, DpAll K H (ns.map nint) (ns.map fun n : Nat => PyData.int (n : Int))
  | [] => .nil
  | _ :: r => .cons (.int _) (dp_ints r)
theorem lay_ints : ∀ ns : List Nat, PyData.canLayAll0 (ns.map fun n : Nat => PyData.int (n : Int)) = true
  | [] => rfl
  | n :: r => by
    show (PyData.canLay0 (.int (n : Int)) && PyData.canLayAll0 (r.map fun n : Nat => PyData.int (n : Int))) = true
    rw [lay_ints r, Bool.and_true]
    rfl
theorem dep_ints : ∀ ns : List Nat, PyData.depthAll (ns.map fun n : Nat => PyData.int (n : Int)) = 0
  | [] => rfl
  | n :: r => by
    show max (PyData.depth (.int (n : Int))) (PyData.depthAll (r.map fun n : Nat => PyData.int (n : Int))) = 0
    rw [dep_ints r]
    rfl
theorem shp_ints {ns : List Nat} : SeqAt.shaped (.list (ns.map fun n : Nat => PyData.int (n : Int))) = true := by
  unfold SeqAt.shaped
  have e : (PyData.list (ns.map fun n : Nat => PyData.int (n : Int))).depth = 1 := by
    show PyData.depthAll (ns.map fun n : Nat => PyData.int (n : Int)) + 1 = 1
    rw [dep_ints]
  rw [e]
  show (PyData.canLayAll0 (ns.map fun n : Nat => PyData.int (n : Int)) && decide (1 ≤ 64)) = true
  rw [lay_ints]
  rfl
theorem eqv_nil {ns : List Nat} : PyData.eqv (.list (ns.map fun n : Nat => PyData.int (n : Int))) (.list []) = decide (ns = []) := by
  cases ns with
  | nil => rfl
  | cons n r =>
    rw [decide_eq_false (fun e => by cases e)]
    rfl
/-- two tuples of flat things -/
theorem Eqd.tup {K : PySem.W.Frag} {H : Hp} {n : Nat} {a b : Addr} {xs : List V} (h1 : H a = some (.tup xs)) (h2 : H b = some (.tup xs)) (hl : xs.length ≤ 1000) (hf : ∀ x ∈ xs, Flat x) :
    Eqd K H (n + 2) (.ref a) (.ref b) := by
  refine Or.inr ⟨a, b, xs, xs, rfl, rfl, .inr ⟨.inl (.inl h1), .inl (.inl h2)⟩, hl, rfl, fun i u v hu hv => ?_⟩
  have e := Option.some.inj (hu.symm.trans hv)
  subst e
  exact Eqd.refl (hf _ (List.mem_of_getElem? hu))
theorem dp_two {K : PySem.W.Frag} {H : Hp} {t : Addr} {z : Str} (h : H t = some (.tup [.str z, .non])) : Dp K H (.ref t) (.tuple [.str z, .none]) :=
  .tup (.inl (.inl h)) (.cons (.str _) (.cons .non .nil))
/-! ### readings with one end -/
theorem and3 {t1 t3 : TE} {σ : L2.St} {H : Hp} {Q : VK} {i : Nat} {b1 b2 b3 : Bool} (h1 : ∀ k : VK, k (.bl b1) H → t1 σ H k) (h2 : σ[i]? = some (some (.bl b2)))
    (h3 : ∀ k : VK, (∀ H', Same H H' → k (.bl b3) H') → t3 σ H k) (q : ∀ H', Same H H' → Q (.bl (b1 && (b2 && b3))) H') : tAndV t1 (tAndV (tVar i) t3) σ H Q := by
  refine h1 _ ⟨b1, rfl, ?_⟩
  cases b1 with
  | false => exact iteF (q _ (Same.refl _))
  | true =>
    refine iteT ⟨_, h2, b2, rfl, ?_⟩
    cases b2 with
    | false => exact iteF (q _ (Same.refl _))
    | true => exact iteT (h3 _ fun H' s => q _ s)
theorem tIf_red {σ : L2.St} {H : Hp} {Q : VK} {i : Nat} {b : Bool} {z1 z2 : Str} (h : σ[i]? = some (some (.bl b)))
    (q : ∀ p, H p = none → Q (.ref p) (upd H p (.tup [.str (if b = true then z1 else z2), .non]))) :
    tIf (tB (tVar i)) (tTup (tCons (tC (.str z1)) (tCons (tC .non) tNil))) (tTup (tCons (tC (.str z2)) (tCons (tC .non) tNil))) σ H Q := by
  refine ⟨_, h, b, rfl, ?_⟩
  cases b with
  | true => exact iteT ⟨(by show 2 ≤ sizeLine; decide), fun p np => q p np⟩
  | false => exact iteF ⟨(by show 2 ≤ sizeLine; decide), fun p np => q p np⟩
/-- what is due of a text to be checked -/
def Alt (gs xs : List Nat) (code : Str) (v : V) : Prop :=
  (∀ c ∈ xs, c ∈ gs) ∧ code = Str.ofString "value" ∧ v = .non ∨ ∃ i : Nat, Bad gs xs i ∧ code = Str.ofString "UnknownLetter" ∧ v = .int (i : Nat)
theorem Alt.one {gs xs : List Nat} {z z' : Str} {v v' : V} (a : Alt gs xs z v) (b : Alt gs xs z' v') : z = z' ∧ v = v' := by
  rcases a with ⟨h, rfl, rfl⟩ | ⟨i, B, rfl, rfl⟩ <;> rcases b with ⟨h', rfl, rfl⟩ | ⟨j, B', rfl, rfl⟩
  · exact ⟨rfl, rfl⟩
  · obtain ⟨c, h1, h2, _⟩ := B'
    exact absurd (h c (List.mem_of_getElem? h1)) h2
  · obtain ⟨c, h1, h2, _⟩ := B
    exact absurd (h' c (List.mem_of_getElem? h1)) h2
  · rw [B.one B']
    exact ⟨rfl, rfl⟩
theorem Alt.flat {gs xs : List Nat} {z : Str} {v : V} (a : Alt gs xs z v) : Flat v := by
  rcases a with ⟨h, rfl, rfl⟩ | ⟨i, B, rfl, rfl⟩ <;> trivial
theorem due_red {K : PySem.W.Frag} {σ : L2.St} {H : Hp} {Q : VK} {i : Nat} {D3 : Addr} {gs ys : List Nat} (h : σ[i]? = some (some (.ref D3))) (hD : H D3 = some (.lst ((wrL gs ys ys.length).map nint)))
    (q : ∀ H' t code v, Same H H' → H' t = some (.tup [.str code, v]) → Alt gs ys code v → Q (.ref t) H') :
    tIf (tTest (tOp (rNeD K) (tVar i) (tLst tNil))) (tTup (tCons (tC (.str (Str.ofString "UnknownLetter"))) (tCons (tOp (rIxL K) (tVar i) (tC (.int 0))) tNil)))
      (tTup (tCons (tC (.str (Str.ofString "value"))) (tCons (tC .non) tNil))) σ H Q := by
  refine ⟨_, h, Nat.zero_le _, fun l nl => ?_⟩
  have s1 := same_new (o := .lst []) nl
  refine ⟨_, _, .lst (.inl (.inl (s1 _ _ hD))) (dp_ints _), .lst (.inl (.inl upd_same)) .nil, shp_ints, by decide +kernel, ?_⟩
  rw [eqv_nil]
  rcases wr_cases (gs := gs) (xs := ys) with ⟨e, ha⟩ | ⟨j, rest, e, hb⟩
  · rw [decide_eq_true e]
    refine ⟨false, rfl, iteF ⟨(by show 2 ≤ sizeLine; decide), fun p np => ?_⟩⟩
    exact q _ p _ _ (s1.trans (same_new np)) upd_same (.inl ⟨ha, rfl, rfl⟩)
  · rw [decide_eq_false (by rw [e]; exact fun h => by cases h)]
    refine ⟨true, rfl, iteT ⟨_, h, _, _, 0, nint j, rfl, rfl, .inl (.inl (s1 _ _ hD)), by rw [e]; exact atI_nat (xs := (j :: rest).map nint) (j := 0) rfl, ?_⟩⟩
    refine ⟨(by show 2 ≤ sizeLine; decide), fun p np => ?_⟩
    exact q _ p _ _ (s1.trans (same_new np)) upd_same (.inr ⟨j, hb, rfl, rfl⟩)
theorem sh_val : SeqAt.shaped (.tuple [.str (Str.ofString "value"), .none]) = true := by decide +kernel
theorem sh_il : SeqAt.shaped (.tuple [.str (Str.ofString "InvalidLetters"), .none]) = true := by decide +kernel
theorem eq_two {z : Str} (h : SeqAt.shaped (.tuple [.str z, .none]) = true) : PyData.eqv (.tuple [.str z, .none]) (.tuple [.str z, .none]) = true := SeqAt.eqv_refl _ (SeqAt.canLay_of_shaped h)
end Own

namespace Own
open PySem PySem.Spec PyProof.Rows L2 SX
/-! ### three texts zipped -/
def n3 (x y z : Str) : Nat := min (min x.cps.size y.cps.size) z.cps.size
def It3 (x y z : Str) : It :=
  ⟨fun i _ => i < n3 x y z,
   fun i H v H' => ∃ T c d e, v = .ref T ∧ H T = none ∧ x.cps[i]? = some c ∧ y.cps[i]? = some d ∧ z.cps[i]? = some e ∧
     H' = upd H T (.tup [.str ⟨#[c]⟩, .str ⟨#[d]⟩, .str ⟨#[e]⟩]),
   fun i _ => i = n3 x y z⟩
theorem turn3 {P : Program} {w : World} {K : PySem.W.Frag} {elts : List Expr} {kk : Nat} {tpos : Pos} (x y z : Str) (tx ty tz : Tok) {I TI TO i1 i2 i3 : Addr} (S : ZipSep3 I TI TO i1 i2 i3 [i1] [i2] [i3]) :
    Turn P w K (.Tuple elts kk tpos) (It3 x y z) (I :: TI :: TO :: ([i1] ++ [i2] ++ [i3])) I
      (fun i h => IsZip h I TI TO .none ∧ IsTupOf3 h TI (.ref i1) (.ref i2) (.ref i3) ∧ (∃ a1 a2 a3, IsTupOf3 h TO a1 a2 a3) ∧ h.IsStrIter i1 (strIterType x) x tx i ∧ h.IsStrIter i2 (strIterType y) y ty i ∧ h.IsStrIter i3 (strIterType z) z tz i) := by
  have it_ok : ∀ {h : Heap} {a : Addr} {c : String} {u : Str} {t : Tok} {i : Nat}, h.IsStrIter a c u t i → ∃ o, h.get? a = some o ∧ ∀ v, o.data ≠ .cell v :=
    fun ⟨o, e, _, d⟩ => ⟨o, e, fun v q => by rw [d] at q; cases q⟩
  refine turn_tuples (R := fun i vs => ∃ c d e, x.cps[i]? = some c ∧ y.cps[i]? = some d ∧ z.cps[i]? = some e ∧ vs = [.str ⟨#[c]⟩, .str ⟨#[d]⟩, .str ⟨#[e]⟩])
    (fun A hh => GoesN.zip3 (elts := elts) (x1 := kk) (pos := tpos) S (Draws.text (prog := P) (w := w) (A := A.in1) hh i1 x tx)
      (Draws.text (prog := P) (w := w) (A := A.in1) hh i2 y ty) (Draws.text (prog := P) (w := w) (A := A.in1) hh i3 z tz))
    ?_ List.mem_cons_self ?_ (fun A i s Q E st h => wpAny_pyIter_zip st.1 h) (fun _ _ h => h) (fun _ _ h => h) ?_
  · rintro i h0 u h ⟨T, _, _, _, rfl, young, ⟨c, _, hc, rfl⟩, ⟨d, _, hd, rfl⟩, ⟨e, _, he, rfl⟩, tup⟩
    exact ⟨T, _, [_, _, _], rfl, young, by show 3 ≤ sizeLine; decide, ⟨c, d, e, hc, hd, he, rfl⟩, .cons ⟨_, rfl⟩ (.cons ⟨_, rfl⟩ (.cons ⟨_, rfl⟩ .nil)), tup⟩
  · rintro i h ⟨a, b, ⟨_, _, _, c⟩, p, q, r⟩
    simp only [List.cons_append, List.nil_append, List.forall_mem_cons]
    exact ⟨⟨_, a, fun v => nofun⟩, ⟨_, b, fun v => nofun⟩, ⟨_, c, fun v => nofun⟩, it_ok p, it_ok q, it_ok r, fun _ q => nomatch q⟩
  · rintro i H T vs free ⟨c, d, e, hc, hd, he, rfl⟩
    exact ⟨T, c, d, e, rfl, free, hc, hd, he, rfl⟩
def iZip3 (ta : TA) : TI := fun σ H R => ta σ H fun vs H1 => ∃ x y z, vs = [.str x, .str y, .str z] ∧ R (It3 x y z) H1
theorem pi_zip3 {X : Cx} {e e2 e3 : Expr} {ta : TA} {p pos tpos : Pos} {elts : List Expr} {kk : Nat} (hg : Gl X "zip") (hm : X.mg "zip" = none) (ha : PA X [e, e2, e3] ta)
    (hs : starEach [e, e2, e3] X.env = (false, eval e X.env) :: starEach [e2, e3] X.env := by rfl) (hpl : (backTo pos (starEach [e2, e3] X.env)).any (·.1) = false := by rfl) :
    PI X (.Tuple elts kk tpos) (.Call (.Name "zip" p) [e, e2, e3] [] pos) (iZip3 ta) := by
  constructor
  intro pins s σ H R I h
  refine Call_ (ld_blt I hg hm PyProof.Rows.boot_zip (PyProof.Rows.callWith_type1 (thn (ha.run pos pins s σ H _ I h) ?_) hs hpl))
  rintro us s1 ⟨vs, H1, I1, r1, x, y, z, rfl, q⟩
  rcases r1 with _ | ⟨⟨t1, rfl⟩, r1⟩
  obtain ⟨_, _, rfl, ⟨t2, rfl⟩, ⟨t3, rfl⟩⟩ := vals2 r1
  refine zip_begins3 (begins_text x t1) (begins_text y t2) (begins_text z t3) trivial trivial trivial fun h' hz hTI hTO h1 h2 h3 _ hk => wpAny_pyIter_zip hz ?_
  refine ⟨s1.heap.objs.size + 5, _, _, _, H1, rfl, I1.kept hk, turn3 x y z t1 t2 t3 (zip_sep3 (N := s1.heap.objs.size) (fp1 := []) (fp2 := []) (fp3 := []) (fun _ q => nomatch q) (fun _ q => nomatch q) fun _ q => nomatch q),
    ⟨hz, hTI, ⟨_, _, _, hTO⟩, ⟨_, h1, rfl, rfl⟩, ⟨_, h2, rfl, rfl⟩, ⟨_, h3, rfl, rfl⟩⟩, ?_, q⟩
  have young : ∀ k : Nat, FpOk X pins H1 (s1.heap.objs.size + k) := fun k => I1.fpOk (Nat.le_add_right _ _) (I1.hok.fresh (Nat.le_add_right _ _))
  simp only [List.cons_append, List.nil_append, List.forall_mem_cons]
  exact ⟨young 5, young 3, young 4, young 0, young 1, young 2, fun _ q => nomatch q⟩
theorem walk3 {x y z : Str} : Walk (It3 x y z) (n3 x y z) (fun _ => True)
    (fun i H v H' => ∃ T c d e, v = .ref T ∧ H T = none ∧ x.cps[i]? = some c ∧ y.cps[i]? = some d ∧ z.cps[i]? = some e ∧ H' = upd H T (.tup [.str ⟨#[c]⟩, .str ⟨#[d]⟩, .str ⟨#[e]⟩])) :=
  ⟨fun _ _ h _ => h, fun _ _ => rfl, fun _ _ _ _ _ _ h => h⟩
end Own

namespace Own
open PySem PySem.Spec PyProof.Rows L2 SX
/-! ### sorted(text) -/
theorem strs_of {xs : List Str} : ∀ {us : List Value}, us.length = xs.length → (∀ (j : Nat) (v : Value), us[j]? = some v → ∃ y t, xs[j]? = some y ∧ v = .str y t) → StrsAre us xs := by
  induction xs with
  | nil =>
    intro us hl _
    cases us with
    | nil => exact .nil
    | cons _ _ => cases hl
  | cons x r ih =>
    intro us hl h
    cases us with
    | nil => cases hl
    | cons u us =>
      obtain ⟨y, t, e1, rfl⟩ := h 0 u rfl
      cases e1
      exact .cons _ _ (ih (Nat.succ.inj hl) fun j v e => h (j + 1) v e)
section
variable {X : Cx}
theorem call_sortedTx (hcalm : X.calm = true) : CallR X (.builtin "sorted") (fun xs H Q => ∃ (z : Str), xs = [.str z] ∧ z.cps.size < 64 ∧
    ∀ ys p, ys.Perm (z.cps.toList.map fun c => (⟨#[c]⟩ : Str)) → sortedS ys = true → H p = none → Q (.ref p) (upd H p (.lst (ys.map V.str)))) := by
  rintro pins s σ H _ us Q I r ⟨z, rfl, few, q⟩
  obtain ⟨_, rfl, t, rfl⟩ := vals1 r
  have line : z.cps.size ≤ sizeLine := Nat.le_trans (Nat.le_of_lt few) (by rw [sizeLine_eq]; decide)
  have body := Calls.call_function_entry (prog := X.prog) (w := X.w) (A := X.A) (E := X.xe) (s := s) (Q := EP X pins σ Q) kind_sorted plain_sorted entry_sorted (args_sorted1 (.str z t))
  refine body ?_
  rw [Builtin.«sorted»]
  refine wpAny_bind (m := checkCount "sorted" 1 1 _) (wpAny_pure (wpAny_bind (wpAny_collect_str (A := X.A.in1) (I.ok.hd hcalm) z t ?_ line)))
  rintro ⟨g, gens, drawn, tk, os⟩ acc keep (rfl : gens = s.gens) (rfl : drawn = s.drawn) (rfl : os = s.os) ⟨size, signs⟩
  -- the signs, one by one, in a list of their own
  have many : acc.toList.length = z.cps.size := by simpa using size
  have tx1 : StrsAre acc.toList (z.cps.toList.map fun c => (⟨#[c]⟩ : Str)) := by
    refine strs_of (by simpa using size) fun j v e => ?_
    obtain ⟨c, u, at_, rfl⟩ := signs j v (by simpa using e)
    exact ⟨_, u, by simp [at_], rfl⟩
  have made : (g.push (seqObj "list" acc.toList.toArray 0)).get? g.objs.size = some (seqObj "list" acc.toList.toArray 0) := Heap.get?_push_size _ rfl
  refine wpAny_bind (wpAny_newList (wpAny_bind (wpAny_holding (wpAny_call_entry slot_list_sort ⟨_, made, rfl⟩ entry_list_sort (list_sort_treeK strKind_oneLt
    (s := { s with heap := g.push (seqObj "list" acc.toList.toArray 0), toks := tk }) made tx1.keysOf (fun _ _ _ e => keyKind_strs (e ▸ tx1)) (many ▸ few) ?_) (args_list_sort _)))) (many ▸ line))
  intro st perm srt
  refine ⟨_, rfl, ?_⟩
  obtain ⟨ys, out, same, inOrder⟩ := sorted_out_str tx1 perm srt
  obtain ⟨n, lies⟩ := sortedHeap_at (vs := acc.toList) (out := (arrOf st).map (·.2)) made
  have I1 : Inv X pins σ H { s with heap := g, toks := tk } := I.kept keep
  refine wpAny_pure ⟨_, rfl, .ref g.objs.size, upd H g.objs.size (.lst (ys.map V.str)), I1.laid (t' := tk) (fun b o e => ?_) (Nat.le_refl _) ?_, rfl, q ys _ same inOrder (I1.hok.fresh (Nat.le_refl _))⟩
  · have lt := Heap.lt_size e
    exact (sortedHeap_old (Nat.ne_of_lt lt) (by rw [size_push']; exact Nat.lt_add_right 1 lt)).trans (Heap.get?_push_of_some _ e)
  · have short : (ys.map V.str).length ≤ sizeLine := by simpa [same.length_eq] using line
    exact (show ObjOk X.prog X.w _ _ _ (.lst (ys.map V.str)) from ⟨short, _, n, vals_of_strs out, lies.trans (by rw [Array.toArray_toList])⟩)
end
/-! ### count of one sign -/
theorem cnt_run (a : List Nat) (c lim : Nat) : ∀ (n lo : Nat) (st : Array Nat × Nat), lo + n = a.length + 1 → st.2 ≤ lo → st.1.size + n ≤ lim →
    (forIn (List.range' lo n) st (StrLaws.occBody (S a) (S [c]) a.length lim)).run.fst.size = st.1.size + (a.drop lo).count c := by
  intro n
  induction n with
  | zero =>
    intro lo st h1 _ _
    rw [List.drop_eq_nil_of_le (by omega)]
    rfl
  | succ n ih =>
    intro lo st h1 h2 h3
    rw [List.range'_succ, List.forIn_cons]
    unfold StrLaws.occBody
    by_cases hc : a[lo]? = some c
    · have hsub := (StrLaws.subAt_one (S a) c lo).mpr hc
      have hlt : lo < a.length := (List.getElem?_eq_some_iff.mp hc).1
      have e : a.drop lo = c :: a.drop (lo + 1) := by
        rw [List.drop_eq_getElem_cons hlt]
        rw [(List.getElem?_eq_some_iff.mp hc).2]
      rw [if_pos ⟨⟨⟨by omega, h2⟩, hsub.1⟩, hsub.2⟩]
      have := ih (lo + 1) (st.1.push lo, lo + 1) (by omega) (Nat.le_refl _) (by simp only [Array.size_push]; omega)
      refine this.trans ?_
      rw [e, List.count_cons_self, Array.size_push]
      omega
    · rw [if_neg fun h => hc ((StrLaws.subAt_one (S a) c lo).mp ⟨h.1.2, h.2⟩)]
      have := ih (lo + 1) (st.1, st.2) (by omega) (by show st.2 ≤ _; omega) (by show st.1.size + _ ≤ _; omega)
      refine this.trans ?_
      by_cases hlt : lo < a.length
      · have e : a.drop lo = a[lo] :: a.drop (lo + 1) := List.drop_eq_getElem_cons hlt
        rw [e, List.count_cons_of_ne (fun e => hc (by rw [List.getElem?_eq_getElem hlt, e]))]
      · rw [List.drop_eq_nil_of_le (by omega), List.drop_eq_nil_of_le (by omega)]
theorem count_S (a : List Nat) (c : Nat) : Txt.count (S a) (S [c]) = ((a.count c : Nat) : Int) := by
  unfold Txt.count
  rw [StrLaws.occ_eq, Array.length_toList]
  have := cnt_run a c (a.length + 1) (a.length + 1) 0 (#[], 0) (by omega) (Nat.le_refl _) (by show 0 + _ ≤ _; omega)
  rw [S_len]
  show (((forIn (List.range' 0 (a.length + 1)) (#[], 0) (StrLaws.occBody (S a) (S [c]) a.length (a.length + 1))).run.fst.size : Nat) : Int) = _
  rw [this]
  show ((0 + (a.drop 0).count c : Nat) : Int) = _
  rw [Nat.zero_add, List.drop_zero]
theorem perm_of_counts : ∀ (gs t : List Nat), gs.Nodup → t.length = gs.length → (∀ c ∈ gs, t.count c = 1) → t.Perm gs
  | [], t, _, hl, _ => by
    rw [List.length_eq_zero_iff.mp hl]
  | c :: r, t, nd, hl, h => by
    have hc : c ∈ t := List.count_pos_iff.mp (by rw [h c (List.mem_cons_self ..)]; decide)
    have nd2 := List.nodup_cons.mp nd
    refine (List.perm_cons_erase hc).trans (List.Perm.cons c (perm_of_counts r _ nd2.2 (by rw [List.length_erase_of_mem hc, hl]; rfl) fun d hd => ?_))
    rw [List.count_erase_of_ne (fun e => nd2.1 (by rw [← e]; exact hd))]
    exact h d (List.mem_cons_of_mem _ hd)
theorem right_iff {gs t : List Nat} (nd : gs.Nodup) : (decide (t.length = gs.length) && (gs.map fun c => decide (t.count c = 1)).all id) = decide (t.Perm gs) := by
  rw [Bool.eq_iff_iff, Bool.and_eq_true, decide_eq_true_iff, decide_eq_true_iff, List.all_eq_true]
  constructor
  · rintro ⟨h1, h2⟩
    exact perm_of_counts gs t nd h1 fun c hc => of_decide_eq_true (h2 _ (List.mem_map.mpr ⟨c, hc, rfl⟩))
  · intro p
    refine ⟨p.length_eq, fun x hx => ?_⟩
    obtain ⟨c, hc, rfl⟩ := List.mem_map.mp hx
    exact decide_eq_true (by rw [p.count_eq, nd.count, if_pos hc])
/-! ### sorted signs -/
theorem signs_of {zs : List Nat} {ys : List Str} (hp : ys.Perm (zs.map fun c => (⟨#[c]⟩ : Str))) : ∃ ls : List (List Nat), ys = ls.map S ∧ ls.Perm (zs.map fun c => [c]) := by
  refine ⟨ys.map fun y => y.cps.toList, ?_, ?_⟩
  · rw [List.map_map]
    refine ((List.map_congr_left fun y hy => ?_).trans (List.map_id ys)).symm
    obtain ⟨c, _, rfl⟩ := List.mem_map.mp (hp.mem_iff.mp hy)
    rfl
  · have := hp.map fun y => y.cps.toList
    rw [List.map_map] at this
    exact this
theorem signs_eq {zs ws : List Nat} {ls ms : List (List Nat)} (h1 : ls.Perm (zs.map fun c => [c])) (h2 : ms.Perm (ws.map fun c => [c])) (s1 : sortedS (ls.map S) = true) (s2 : sortedS (ms.map S) = true) :
    decide (ls = ms) = decide (zs.Perm ws) := by
  rw [decide_eq_decide]
  constructor
  · intro e
    subst e
    have := (h1.symm.trans h2).map fun l => l.headD 0
    simp only [List.map_map] at this
    have e1 : zs.map ((fun l : List Nat => l.headD 0) ∘ fun c => [c]) = zs := (List.map_congr_left fun _ _ => rfl).trans (List.map_id zs)
    have e2 : ws.map ((fun l : List Nat => l.headD 0) ∘ fun c => [c]) = ws := (List.map_congr_left fun _ _ => rfl).trans (List.map_id ws)
    rw [e1, e2] at this
    exact this
  · intro p
    refine List.Perm.eq_of_pairwise (le := fun a b => ¬ b < a) (fun a b _ _ h1 h2 => ?_) (sorted_pw _ s1) (sorted_pw _ s2) ((h1.trans (p.map _)).trans h2.symm)
    exact List.le_antisymm (List.not_lt.mp h1) (List.not_lt.mp h2)
theorem eqvAll_tx : ∀ ls ms : List (List Nat), PyData.eqvAll (ls.map fun c => PyData.str (S c)) (ms.map fun c => PyData.str (S c)) = decide (ls = ms)
  | [], [] => rfl
  | [], _ :: _ => by rw [decide_eq_false (fun e => by cases e)]; rfl
  | _ :: _, [] => by rw [decide_eq_false (fun e => by cases e)]; rfl
  | a :: r, b :: s => by
    show (PyData.eqv (.str (S a)) (.str (S b)) && PyData.eqvAll (r.map fun c => PyData.str (S c)) (s.map fun c => PyData.str (S c))) = _
    rw [eqvAll_tx r s]
    have e : PyData.eqv (.str (S a)) (.str (S b)) = decide (a = b) := by
      show (S a == S b) = _
      rw [Bool.eq_iff_iff, beq_iff_eq, decide_eq_true_iff]
      exact ⟨fun h => S_inj h, fun h => by rw [h]⟩
    rw [e, Bool.eq_iff_iff, Bool.and_eq_true, decide_eq_true_iff, decide_eq_true_iff, decide_eq_true_iff, List.cons.injEq]
/-! ### lists of texts as data -/
theorem lay_tx : ∀ (cs : List (List Nat)), (∀ c ∈ cs, ∀ k ∈ c, k < 128) → PyData.canLayAll0 (cs.map fun c => PyData.str (S c)) = true
  | [], _ => rfl
  | c :: r, h => by
    show (PyData.canLay0 (.str (S c)) && PyData.canLayAll0 (r.map fun c => PyData.str (S c))) = true
    rw [lay_tx r fun x hx => h x (List.mem_cons_of_mem _ hx), Bool.and_true]
    have h1 := h c (List.mem_cons_self ..)
    show ((c.toArray).all (fun k => decide (k < 1114112))) = true
    rw [List.all_toArray, List.all_eq_true]
    intro k hk
    have := h1 k hk
    exact decide_eq_true (by omega)
theorem dep_tx : ∀ (cs : List (List Nat)), PyData.depthAll (cs.map fun c => PyData.str (S c)) = 0
  | [] => rfl
  | c :: r => by
    show max (PyData.depth (.str (S c))) (PyData.depthAll (r.map fun c => PyData.str (S c))) = 0
    rw [dep_tx r]
    rfl
theorem shp_tx {cs : List (List Nat)} (h : ∀ c ∈ cs, ∀ k ∈ c, k < 128) : SeqAt.shaped (.list (cs.map fun c => PyData.str (S c))) = true := by
  unfold SeqAt.shaped
  have e : (PyData.list (cs.map fun c => PyData.str (S c))).depth = 1 := by
    show PyData.depthAll (cs.map fun c => PyData.str (S c)) + 1 = 1
    rw [dep_tx]
  rw [e]
  show (PyData.canLayAll0 (cs.map fun c => PyData.str (S c)) && decide (1 ≤ 64)) = true
  rw [lay_tx cs h]
  rfl
theorem dp_all {K : PySem.W.Frag} {H : Hp} : ∀ cs : List (List Nat), DpAll K H ((cs.map S).map V.str) (cs.map fun c => PyData.str (S c))
  | [] => .nil
  | c :: r => .cons (.str _) (dp_all r)
theorem small_of {zs : List Nat} {ls : List (List Nat)} (hp : ls.Perm (zs.map fun c => [c])) (h : ∀ c ∈ zs, c < 128) : ∀ c ∈ ls, ∀ k ∈ c, k < 128 := by
  intro c hc k hk
  obtain ⟨x, hx, rfl⟩ := List.mem_map.mp (hp.mem_iff.mp hc)
  rw [List.mem_singleton.mp hk]
  exact h x hx
theorem same_put {H H' : Hp} {p : Addr} {o : HO} (s : Same H H') (h : H p = none) : Same H (upd H' p o) := fun b u e => by
  rw [upd_ne (ne_of_none e h)]
  exact s _ _ e
theorem tau_get {gs t : List Nat} (nd : gs.Nodup) (hl : t.length = gs.length) {i c d : Nat} (h1 : gs[i]? = some c) (h2 : t[i]? = some d) : tau gs t c = d := by
  have h := tau_at (List.mem_of_getElem? h1) hl
  rw [idx_get nd h1, h2] at h
  exact (Option.some.inj h).symm
def keepL (gs t y : List Nat) (zs : List Nat) : List Nat := zs.filter fun c => decide (tau gs t c = tau gs y c)
theorem keepL_snoc {gs t y zs : List Nat} {c : Nat} : keepL gs t y (zs ++ [c]) = keepL gs t y zs ++ (if tau gs t c = tau gs y c then [c] else []) := by
  unfold keepL
  rw [List.filter_append]
  congr 1
  show (match decide (tau gs t c = tau gs y c) with | true => [c] | false => []) = _
  by_cases h : tau gs t c = tau gs y c
  · rw [if_pos h, decide_eq_true h]
  · rw [if_neg h, decide_eq_false h]
theorem keepL_len {gs t y zs : List Nat} : (keepL gs t y zs).length ≤ zs.length := List.length_filter_le _ _
/-! ### the promises -/
def spIs : Sp := fun vs H Q _ => ∃ gs t : List Nat, vs = [.str (S gs), .str (S t)] ∧ gs.length < 64 ∧ t.length < 64 ∧ (∀ c ∈ gs, c < 128) ∧ (∀ c ∈ t, c < 128) ∧
  ∀ H', Same H H' → Q (.bl (decide (t.Perm gs))) H'
def spKp : Sp := fun vs H Q _ => ∃ gs t y : List Nat, vs = [.str (S gs), .str (S t), .str (S y)] ∧ gs.Nodup ∧ gs.length ≤ 1000 ∧ t.length = gs.length ∧ y.length = gs.length ∧
  ∀ H', Same H H' → Q (.str (S (keepL gs t y gs))) H'
def spTX (C : Addr) : Sp := fun vs H _ E => ∃ (gs t xs : List Nat) (i : Nat), vs = [.str (S gs), .str (S t), .str (S xs)] ∧ Bad gs xs i ∧ ∀ H' d, Same H H' →
  H' d = some (.xd [("position", .int (i : Nat)), ("code", .str "UnknownLetter")]) → E (.ref C) (some d) H'
section
variable {K : PySem.W.Frag} {mg : Str → Option Value} {T : List (Addr × Str)} {CF CM C : Addr} {H : Hp} {σ : L2.St} {Q : VK} {x : Str} {ta : TA}
theorem lam_TX {gs t xs : List Nat} {i : Nat} (EC : ErrC K mg x C) (hx : PySem.W.exmAny K (.ref C) [.ref CF, .ref CM] = some true) (hT : LamX.Tabs T H)
    (ha : ∀ H1 (k : List V → Hp → Prop), k [.str (S gs), .str (S t), .str (S xs)] H1 → ta σ H1 k) (hb : Bad gs xs i)
    (q : ∀ H' p, LamX.ExtN H H' → LamX.Tabs T H' → H' p = some (.tup [.str (Str.ofString "UnknownLetter"), .int (i : Nat)]) → Q (.ref p) H') :
    LamX.tLam T (TTry K CF CM) (fun E => tCall (spTX C) [] E ta) σ H Q := by
  refine ⟨hT, fun H1 e1 t1 => ?_⟩
  refine ha H1 _ ⟨gs, t, xs, i, rfl, hb, fun H2 d s2 hd => ⟨hx, _, _, err_ul EC hd, fun H3 p s3 nt => ?_⟩⟩
  exact q _ p (e1.trans (Same.extN ((s2.trans s3).trans (same_new nt)))) (tabs_same t1 ((s2.trans s3).trans (same_new nt))) upd_same
end
/-- three keywords, the second and the third changed about -/
def swp3 {α : Type} : List α → List α → List α
  | [], [a, b, c] => [a, c, b]
  | _, _ => []
theorem swp3_rel {vs : List V} {us : List Value} {zs : List V} {ws : List Value} (r : Vals vs us) (z : Vals zs ws) : Vals (swp3 vs zs) (swp3 us ws) := by
  cases r with
  | cons _ _ => exact .nil
  | nil =>
    cases z with
    | nil => exact .nil
    | cons a z =>
      cases z with
      | nil => exact .nil
      | cons b z =>
        cases z with
        | nil => exact .nil
        | cons c z =>
          cases z with
          | nil => exact .cons a (.cons c (.cons b .nil))
          | cons _ _ => exact .nil
end Own

namespace Own
open PySem PySem.Spec PyProof.Rows L2 SX
/-! ### a list or a tuple walked -/
def SqA (K : PySem.W.Frag) (H : Hp) (a : Addr) (xs : List V) : Prop := SqL K H a xs ∨ SqT K H a xs
theorem SqA.same {K : PySem.W.Frag} {H H' : Hp} {a : Addr} {xs : List V} (h : SqA K H a xs) (s : Same H H') : SqA K H' a xs := h.imp (fun h => s.seq h) (fun h => same_t s h)
theorem pi_or {X : Cx} {tg l : Expr} {w1 w2 : TI} (h1 : PI X tg l w1) (h2 : PI X tg l w2) : PI X tg l (fun σ H R => w1 σ H R ∨ w2 σ H R) :=
  ⟨fun pins s σ H R I h => h.elim (fun h => h1.run pins s σ H R I h) (fun h => h2.run pins s σ H R I h)⟩
def iAny (K : PySem.W.Frag) (tl : TE) : TI := fun σ H R => iList K tl σ H R ∨ iTup K tl σ H R
theorem pi_any {X : Cx} {tg l : Expr} {tl : TE} (h : PE X l tl) : PI X tg l (iAny X.K tl) := pi_or (pi_list h) (pi_tup h)
theorem it_any {K : PySem.W.Frag} {σ : L2.St} {H H0 : Hp} {R : It → Hp → Prop} {a : Addr} {xs : List V} {tl : TE} (h : ∀ k : VK, k (.ref a) H → tl σ H k) (hs : SqA K H0 a xs) (s0 : Same H0 H)
    (hR : ∀ J : It, Walk J xs.length (fun H' => Same H0 H') (fun i H1 x H2 => H2 = H1 ∧ xs[i]? = some x) → R J H) : iAny K tl σ H R := by
  rcases hs with hs | hs
  · refine .inl (h _ ⟨a, rfl, ⟨xs, s0.seq hs⟩, hR _ ?_⟩)
    exact ⟨fun i H' hi s => (walk_list (K := K) (a := a) (xs := xs)).goes i H' hi (s.seq hs), fun H' s => (walk_list (K := K) (a := a) (xs := xs)).stops H' (s.seq hs), fun i H' x H'' hi s y => (walk_list (K := K) (a := a) (xs := xs)).yields i H' x H'' hi (s.seq hs) y⟩
  · refine .inr (h _ ⟨a, rfl, ⟨xs, same_t s0 hs⟩, hR _ ?_⟩)
    exact ⟨fun i H' hi s => (walk_tup (K := K) (a := a) (xs := xs)).goes i H' hi (same_t s hs), fun H' s => (walk_tup (K := K) (a := a) (xs := xs)).stops H' (same_t s hs), fun i H' x H'' hi s y => (walk_tup (K := K) (a := a) (xs := xs)).yields i H' x H'' hi (same_t s hs) y⟩
/-! ### items of templates -/
abbrev tx (c : List Nat) : V := .str (S c)
/-- letters that may be: 2 to 4 different ones -/
def Row (gs : List Nat) (its : List (List Nat)) : Prop := ∀ x ∈ its, (∃ c, c ∈ gs ∧ x = [c]) ∨ x.Perm gs
def iTx (gs x : List Nat) : List Nat := if 1 < x.length then (if x = gs then [123, 125] else [123] ++ x ++ [125]) else x
def rTx (gs : List Nat) (its : List (List Nat)) : List Nat := if its = [] then [45] else (its.map (iTx gs)).flatten
theorem iTx_len {gs x : List Nat} : (iTx gs x).length ≤ x.length + 2 := by
  unfold iTx
  split
  · split
    · show 2 ≤ _
      omega
    · rw [List.length_append, List.length_append]
      show 1 + _ + 1 ≤ _
      omega
  · omega
theorem flat_len {f : List Nat → List Nat} {m : Nat} : ∀ {its : List (List Nat)}, (∀ x ∈ its, (f x).length ≤ m) → (its.map f).flatten.length ≤ its.length * m
  | [], _ => by simp
  | x :: r, h => by
    have h1 := h x (List.mem_cons_self ..)
    have h2 := flat_len (its := r) fun y hy => h y (List.mem_cons_of_mem _ hy)
    show (f x ++ (r.map f).flatten).length ≤ (r.length + 1) * m
    rw [List.length_append, Nat.add_mul]
    omega
theorem sum_len : ∀ ts : List (List Nat), ((ts.map S).map (·.length)).sum = ts.flatten.length
  | [] => rfl
  | x :: r => by
    show (S x).length + ((r.map S).map (·.length)).sum = (x ++ r.flatten).length
    rw [sum_len r, S_len, List.length_append]
/-! ### promises -/
def spBk : Sp := fun vs H Q _ => ∃ x : List Nat, vs = [tx x] ∧ x.length ≤ 1000 ∧ ∀ H', Same H H' → Q (.bl (decide (1 < x.length))) H'
def spIt : Sp := fun vs H Q _ => ∃ gs x : List Nat, vs = [tx gs, tx x] ∧ gs.length ≤ 1000 ∧ x.length ≤ 1000 ∧ ∀ H', Same H H' → Q (tx (iTx gs x)) H'
def spRt (K : PySem.W.Frag) : Sp := fun vs H Q _ => ∃ (gs : List Nat) (a : Addr) (its : List (List Nat)), vs = [tx gs, .ref a] ∧ gs.length ≤ 1000 ∧ SqA K H a (its.map tx) ∧ its.length ≤ 900 ∧ (∀ x ∈ its, x.length ≤ 900) ∧
  ∀ H', Same H H' → Q (tx (rTx gs its)) H'
/-- each item turned -/
def spTr (K : PySem.W.Frag) : Sp := fun vs H Q _ => ∃ (gs t : List Nat) (a : Addr) (its : List (List Nat)), vs = [tx gs, tx t, .ref a] ∧ gs.Nodup ∧ gs.length ≤ 1000 ∧ t.length = gs.length ∧ SqA K H a (its.map tx) ∧ its.length ≤ 900 ∧
  (∀ x ∈ its, x.length ≤ 1000 ∧ ∀ c ∈ x, c ∈ gs) ∧ ∀ H' p, Same H H' → H p = none → H' p = some (.lst ((its.map fun x => x.map (tau gs t)).map tx)) → Q (.ref p) H'
/-- the inner items in the place of each blank -/
def putL (gs : List Nat) (its inn : List (List Nat)) : List (List Nat) := (its.map fun x => if 1 < x.length then inn.map fun y => y.map (tau gs x) else [x]).flatten
def spPut (K : PySem.W.Frag) : Sp := fun vs H Q _ => ∃ (gs : List Nat) (a b : Addr) (its inn : List (List Nat)), vs = [tx gs, .ref a, .ref b] ∧ gs.Nodup ∧ gs.length ≤ 1000 ∧ Row gs its ∧ SqA K H a (its.map tx) ∧ its.length ≤ 900 ∧
  SqA K H b (inn.map tx) ∧ inn.length ≤ 900 ∧ (∀ x ∈ inn, x.length ≤ 1000 ∧ ∀ c ∈ x, c ∈ gs) ∧ ∀ H' p, Same H H' → H p = none → H' p = some (.lst ((putL gs its inn).map tx)) → Q (.ref p) H'
theorem get_tx {cs : List (List Nat)} {i : Nat} {y : V} (h : (cs.map tx)[i]? = some y) : ∃ c, cs[i]? = some c ∧ y = tx c := by
  rw [List.getElem?_map] at h
  cases e : cs[i]? with
  | none => rw [e] at h; cases h
  | some c => rw [e] at h; exact ⟨c, rfl, (Option.some.inj h).symm⟩
end Own

namespace Own
open PySem PySem.Spec PyProof.Rows L2 SX
theorem slice_mid {a : List Nat} {i j : Nat} : Txt.slice (S a) (some (i : Int)) (some (j : Int)) = S ((a.take j).drop i) := by
  rw [← C8.cutS_slice]
  unfold cutS
  show (⟨_⟩ : Str) = _
  congr 1
  rw [HT.sIx_nat, HT.sIx_nat, S_len]
  congr 1
  show (a.drop (min i a.length)).take (min j a.length - min i a.length) = (a.take j).drop i
  rw [List.drop_take]
  by_cases hi : i ≤ a.length
  · rw [Nat.min_eq_left hi]
    by_cases hj : j ≤ a.length
    · rw [Nat.min_eq_left hj]
    · rw [Nat.min_eq_right (by omega), List.take_of_length_le (by rw [List.length_drop]; omega), List.take_of_length_le (by rw [List.length_drop]; omega)]
  · have e : min i a.length = a.length := Nat.min_eq_right (by omega)
    rw [e, List.drop_eq_nil_of_le (Nat.le_refl _), List.drop_eq_nil_of_le (show a.length ≤ i by omega), List.take_nil, List.take_nil]
theorem mid_app {p z q : List Nat} {i j : Int} (h1 : i = (p.length : Int)) (h2 : j = ((p.length + z.length : Nat) : Int)) : Txt.slice (S (p ++ z ++ q)) (some i) (some j) = S z := by
  subst h1
  subst h2
  rw [slice_mid, List.take_append_of_le_length (by rw [List.length_append]; exact Nat.le_refl _), List.take_of_length_le (by rw [List.length_append]; exact Nat.le_refl _), List.drop_left]
/-! ### forms of items -/
inductive Form (gs : List Nat) : List Nat → List Nat → Prop
  | one {c : Nat} : c ∈ gs → Form gs [c] [c]
  | turn {x : List Nat} : x.Perm gs → Form gs x ([123] ++ x ++ [125])
  | plain : Form gs gs [123, 125]
inductive Forms (gs : List Nat) : List (List Nat) → List (List Nat) → Prop
  | nil : Forms gs [] []
  | cons {x z : List Nat} {its zs : List (List Nat)} : Form gs x z → Forms gs its zs → Forms gs (x :: its) (z :: zs)
/-- a text of the items -/
def Rd (gs : List Nat) (its : List (List Nat)) (t : List Nat) : Prop := (its = [] ∧ t = [45]) ∨ (its ≠ [] ∧ ∃ zs, Forms gs its zs ∧ t = zs.flatten)
theorem form_i {gs x : List Nat} (hg : 2 ≤ gs.length) (h : (∃ c, c ∈ gs ∧ x = [c]) ∨ x.Perm gs) : Form gs x (iTx gs x) := by
  rcases h with ⟨c, hc, rfl⟩ | p
  · have e : iTx gs [c] = [c] := by unfold iTx; rw [if_neg (by show ¬ 1 < 1; omega)]
    rw [e]
    exact .one hc
  · have hl : 1 < x.length := by rw [p.length_eq]; omega
    unfold iTx
    rw [if_pos hl]
    split
    · rename_i e
      rw [e]
      exact .plain
    · exact .turn p
theorem forms_r {gs : List Nat} (hg : 2 ≤ gs.length) : ∀ {its : List (List Nat)}, Row gs its → Forms gs its (its.map (iTx gs))
  | [], _ => .nil
  | x :: r, h => .cons (form_i hg (h x (List.mem_cons_self ..))) (forms_r hg fun y hy => h y (List.mem_cons_of_mem _ hy))
theorem rd_r {gs : List Nat} (hg : 2 ≤ gs.length) {its : List (List Nat)} (h : Row gs its) : Rd gs its (rTx gs its) := by
  unfold rTx
  by_cases e : its = []
  · rw [if_pos e]
    exact .inl ⟨e, rfl⟩
  · rw [if_neg e]
    exact .inr ⟨e, _, forms_r hg h, rfl⟩
theorem form_ne {gs x z : List Nat} (h : Form gs x z) : z ≠ [] := by
  cases h <;> simp
theorem form_head {gs x z : List Nat} (hg : Good gs) (h : Form gs x z) : ∃ c r, z = c :: r ∧ c ≠ 45 := by
  cases h with
  | one hc => exact ⟨_, _, rfl, by have := hg.az _ hc; omega⟩
  | turn p => exact ⟨123, _, rfl, by decide⟩
  | plain => exact ⟨123, _, rfl, by decide⟩
/-! ### promises -/
def spBw : Sp := fun vs H Q _ => ∃ (gs pre post x z : List Nat), vs = [tx gs, tx (pre ++ z ++ post), .int (pre.length : Int)] ∧ Good gs ∧ (pre ++ z ++ post).length ≤ 1000 ∧
  ((z = [123, 125] ∧ ∀ H', Same H H' → Q (.int 2) H') ∨ (x.Perm gs ∧ z = [123] ++ x ++ [125] ∧ ∀ H', Same H H' → Q (.int ((gs.length : Int) + 2)) H'))
def spRd : Sp := fun vs H Q _ => ∃ (gs t : List Nat) (its : List (List Nat)), vs = [tx gs, tx t] ∧ Good gs ∧ t.length ≤ 1000 ∧ Rd gs its t ∧
  ∀ H' p, Same H H' → H p = none → H' p = some (.lst (its.map tx)) → Q (.ref p) H'
def spCLn : Sp := fun vs H Q _ => ∃ gs : List Nat, vs = [tx gs] ∧ Good gs ∧ ∀ H', Same H H' → Q .non H'
/-! ### templates as they lie -/
/-- the template at a: its letters and its items -/
def Tm (C : Addr) (H : Hp) (a : Addr) (gs : List Nat) (its : List (List Nat)) : Prop :=
  ∃ dx p, H a = some (.ins C dx [(Str.ofString "alphabet", tx gs), (Str.ofString "places", V.ref p)]) ∧ H p = some (.tup (its.map tx))
theorem Tm.same {C : Addr} {H H' : Hp} {a : Addr} {gs : List Nat} {its : List (List Nat)} (t : Tm C H a gs its) (s : Same H H') : Tm C H' a gs its := by
  obtain ⟨dx, p, h1, h4⟩ := t
  exact ⟨dx, p, s _ _ h1, s _ _ h4⟩
theorem Tm.go {C : Addr} {H H' : Hp} {a r : Addr} {gs : List Nat} {its : List (List Nat)} (t : Tm C H a gs its) (g : Go r H H') : Tm C H' a gs its := by
  obtain ⟨dx, p, h1, h4⟩ := t
  obtain ⟨xs, er⟩ := g.rng0.ex
  exact ⟨dx, p, g.1 _ _ (ne_of h1 er fun e => by cases e) h1, g.1 _ _ (ne_of h4 er fun e => by cases e) h4⟩
/-- the class -/
structure TmC (K : PySem.W.Frag) (C : Addr) : Prop where
  cls : Cls K C
  na : NoAttr K C "alphabet"
  np : NoAttr K C "places"
/-- __init__: the new instance x gets its two fields -/
def spTi (C : Addr) : Sp := fun vs H Q _ => ∃ (x dx : Addr) (gs t : List Nat) (its : List (List Nat)), vs = [.ref x, tx gs, tx t] ∧ H x = some (.ins C dx []) ∧ Good gs ∧ t.length ≤ 1000 ∧ Rd gs its t ∧
  ∀ H', (∀ b o, b ≠ x → H b = some o → H' b = some o) → Tm C H' x gs its → Q .non H'
def spRow (C : Addr) : Sp := fun vs H Q _ => ∃ (a : Addr) (gs : List Nat) (its : List (List Nat)), vs = [.ref a] ∧ Tm C H a gs its ∧ ∀ H' p, Same H H' → H p = none → H' p = some (.lst (its.map tx)) → Q (.ref p) H'
def spText (C : Addr) : Sp := fun vs H Q _ => ∃ (a : Addr) (gs : List Nat) (its : List (List Nat)), vs = [.ref a] ∧ Tm C H a gs its ∧ gs.length ≤ 1000 ∧ its.length ≤ 900 ∧ (∀ x ∈ its, x.length ≤ 900) ∧ ∀ H', Same H H' → Q (tx (rTx gs its)) H'
def fillL (gs : List Nat) (its : List (List Nat)) (xs : List Nat) : List Nat := (putL gs its [xs]).flatten
def spFi (C : Addr) : Sp := fun vs H Q _ => ∃ (a : Addr) (gs : List Nat) (its : List (List Nat)) (xs : List Nat), vs = [.ref a, tx xs] ∧ Tm C H a gs its ∧ Good gs ∧ Row gs its ∧ its.length ≤ 900 ∧ xs.length ≤ 1000 ∧ (∀ c ∈ xs, c ∈ gs) ∧
  ∀ H', Same H H' → Q (tx (fillL gs its xs)) H'
def spWr (K : PySem.W.Frag) (C : Addr) : Sp := fun vs H Q _ => ∃ (a b : Addr) (gs : List Nat) (its0 its : List (List Nat)), vs = [.ref a, .ref b] ∧ Tm C H a gs its0 ∧ Good gs ∧ Row gs its ∧ SqA K H b (its.map tx) ∧ its.length ≤ 160 ∧
  ∀ H' p, Same H H' → H p = none → Tm C H' p gs its → Q (.ref p) H'
def spTt (C : Addr) : Sp := fun vs H Q _ => ∃ (a : Addr) (gs t : List Nat) (its : List (List Nat)), vs = [.ref a, tx t] ∧ Tm C H a gs its ∧ Good gs ∧ t.Perm gs ∧ Row gs its ∧ its.length ≤ 160 ∧
  ∀ H' p, Same H H' → H p = none → Tm C H' p gs (its.map fun x => x.map (tau gs t)) → Q (.ref p) H'
theorem row_len {gs : List Nat} (hg : Good gs) {its : List (List Nat)} (h : Row gs its) : ∀ x ∈ its, x.length ≤ 4 := by
  intro x hx
  have := hg.hi
  rcases h x hx with ⟨c, _, rfl⟩ | p
  · show 1 ≤ 4; omega
  · rw [p.length_eq]; exact hg.hi
theorem row_mem {gs : List Nat} {its : List (List Nat)} (h : Row gs its) : ∀ x ∈ its, ∀ c ∈ x, c ∈ gs := by
  intro x hx c hc
  rcases h x hx with ⟨d, hd, rfl⟩ | p
  · rw [List.mem_singleton.mp hc]; exact hd
  · exact p.mem_iff.mp hc
theorem rTx_len {gs : List Nat} (hg : Good gs) {its : List (List Nat)} (h : Row gs its) (hl : its.length ≤ 160) : (rTx gs its).length ≤ 1000 := by
  unfold rTx
  split
  · show 1 ≤ 1000; omega
  · have := flat_len (f := iTx gs) (m := 6) (its := its) fun x hx => Nat.le_trans iTx_len (by have := row_len hg h x hx; omega)
    omega
theorem row_tau {gs t : List Nat} (hg : Good gs) (ht : t.Perm gs) {its : List (List Nat)} (h : Row gs its) : Row gs (its.map fun x => x.map (tau gs t)) := by
  intro y hy
  obtain ⟨x, hx, rfl⟩ := List.mem_map.mp hy
  rcases h x hx with ⟨c, hc, rfl⟩ | p
  · exact .inl ⟨tau gs t c, ht.mem_iff.mp (tau_mem hc ht.length_eq), rfl⟩
  · exact .inr (mul_perm hg.nd p ht)
theorem put_len {gs : List Nat} {its inn : List (List Nat)} {m : Nat} (hm : 1 ≤ m) (h : inn.length ≤ m) : (putL gs its inn).length ≤ its.length * m := by
  unfold putL
  induction its with
  | nil => exact Nat.zero_le _
  | cons x r ih =>
    rw [List.map_cons, List.flatten_cons, List.length_append, List.length_cons, Nat.add_mul]
    have : (if 1 < x.length then inn.map fun y => y.map (tau gs x) else [x]).length ≤ m := by
      split
      · rw [List.length_map]; exact h
      · exact hm
    omega
end Own

namespace Own
open PySem PySem.Spec PyProof.Rows L2 SX
/-- o.m(k = v, ..) -/
def tMethK (C : Addr) (m : Str) (sp : Sp) (gV : List V → List V → List V) (E : XK) (ta : TE) (tk : TA) : TE := fun σ H Q => ta σ H fun x H1 => ∃ a dx fs, x = .ref a ∧ H1 a = some (.ins C dx fs) ∧ fs.lookup m = none ∧
  tk σ H1 fun zs H2 => sp (gV [.ref a] zs) H2 Q E
theorem pe_mkw {X : Cx} {CX : CXT} {k : Nat} {C f : Addr} {fd : FuncData} {ps ks : List Str} {sp : Sp} {m : Str} {apos pos : Pos} {o : Expr} {kws : List Keyword} {ta : TE} {tk : TA} {E : XK} {g : List Value → List Value → List Value} {gV : List V → List V → List V} {pl : Sem Bool}
    (he : PE X o ta) (c : Cls X.K C) (hm : Meth X.K C m f) (F : FnOk X.prog X.w X.K X.mg X.base CX k f fd ps sp) (hr : Room k X.A) (hb : KBinds X.K fd ps ks g gV) (hx : Passes CX X E) (hkw : PK X kws tk)
    (hall : (backToKw pos (keywordEach kws X.env)).all (·.1.isSome) = true := by rfl)
    (hks : (backToKw pos (keywordEach kws X.env)).filterMap (·.1) = ks := by rfl)
    (hpl : ((backTo pos (starEach [] X.env)).any (·.1) || (backToKw pos (keywordEach kws X.env)).any (·.1.isNone)) = false := by rfl)
    (ht : eval (.Call (.Attribute o m apos) [] kws pos) X.env = (do
      let ov ← eval o X.env
      standAt apos.atName
      let (f, first) ← holding [ov] (getMethod ov m pl)
      callWith pos f first (backTo pos (starEach [] X.env)) (backToKw pos (keywordEach kws X.env))) := by rfl) :
    PE X (.Call (.Attribute o m apos) [] kws pos) (tMethK C m sp gV E ta tk) := by
  constructor
  intro pins s σ H Q I h
  refine PySem.W.methodCall_KW (pl := pl) (thn (he.run pins s σ H _ I h) ?_) ht
  rintro u s1 ⟨_, H1, I1, rx, a, dx, fs, rfl, lies, free, q⟩
  have eu : u = .ref a := rx
  subst eu
  refine getmeth_ok I1 lies c hm free (PySem.W.callWith_KW0 (first := [.ref a]) (h₀ := X.base) I.ok.mod.kin hm.kp hall (thn (hkw.run pos pins s1 σ H1 _ I1 q) ?_) hpl)
  rintro ws s2 ⟨zs, H2, I2, rz, asks⟩
  refine ⟨I2.kIn, ?_⟩
  rw [hks]
  exact run_fnk (us := [.ref a]) (vs := [.ref a]) F hr hb hx I2 (.cons rfl .nil) rz asks
/-- one positional, one keyword -/
def cat2 {α : Type} : List α → List α → List α
  | [a], [b] => [a, b]
  | _, _ => []
theorem cat2_rel {vs : List V} {us : List Value} {zs : List V} {ws : List Value} (r : Vals vs us) (z : Vals zs ws) : Vals (cat2 vs zs) (cat2 us ws) := by
  cases r with
  | nil => exact .nil
  | cons a r =>
    cases r with
    | cons _ _ => exact .nil
    | nil =>
      cases z with
      | nil => exact .nil
      | cons b z =>
        cases z with
        | nil => exact .cons a (.cons b .nil)
        | cons _ _ => exact .nil
/-! ### promises of the laws' own helpers -/
def spItems : Sp := fun vs H Q _ => ∃ (r : Addr) (gs : List Nat) (m : Int), vs = [.ref r, tx gs, .int m] ∧ Good gs ∧ 0 ≤ m ∧ m ≤ 100 ∧ Rng H r ∧
  ∀ H' p its, Go r H H' → H p = none → H' p = some (.lst (its.map tx)) → Row gs its → (its.length : Int) ≤ m → Q (.ref p) H'
def spLx (K : PySem.W.Frag) : Sp := fun vs H Q _ => ∃ (gs : List Nat) (a : Addr) (its : List (List Nat)), vs = [tx gs, .ref a] ∧ Good gs ∧ Row gs its ∧ its.length ≤ 100 ∧ SqL K H a (its.map tx) ∧ ∀ H', Same H H' → Q (tx (rTx gs its)) H'
def spLf (K : PySem.W.Frag) : Sp := fun vs H Q _ => ∃ (gs : List Nat) (a : Addr) (its : List (List Nat)) (xs : List Nat), vs = [tx gs, .ref a, tx xs] ∧ Good gs ∧ Row gs its ∧ its.length ≤ 100 ∧ SqL K H a (its.map tx) ∧ xs.length ≤ 1000 ∧ (∀ c ∈ xs, c ∈ gs) ∧
  ∀ H', Same H H' → Q (tx (fillL gs its xs)) H'
def spLt (K : PySem.W.Frag) (C : Addr) : Sp := fun vs H Q _ => ∃ (gs : List Nat) (a : Addr) (its : List (List Nat)), vs = [tx gs, .ref a] ∧ Good gs ∧ Row gs its ∧ its.length ≤ 100 ∧ SqL K H a (its.map tx) ∧ ∀ H' p, Same H H' → H p = none → Tm C H' p gs its → Q (.ref p) H'
def blL (l : List (List Nat)) : List (List Nat) := l.filter fun x => decide (1 < x.length)
def ltL (l : List (List Nat)) : List (List Nat) := l.filter fun x => !decide (1 < x.length)
def nBl (its : List (List Nat)) : Nat := (blL its).length
def nLt (its : List (List Nat)) : Nat := (ltL its).length
theorem blL_len {l : List (List Nat)} : (blL l).length ≤ l.length := List.length_filter_le _ _
theorem ltL_len {l : List (List Nat)} : (ltL l).length ≤ l.length := List.length_filter_le _ _
theorem blL_snoc {l : List (List Nat)} {x : List Nat} : blL (l ++ [x]) = blL l ++ (if 1 < x.length then [x] else []) := by
  unfold blL
  rw [List.filter_append]
  congr 1
  show (match decide (1 < x.length) with | true => [x] | false => []) = _
  by_cases h : 1 < x.length
  · rw [if_pos h, decide_eq_true h]
  · rw [if_neg h, decide_eq_false h]
theorem ltL_snoc {l : List (List Nat)} {x : List Nat} : ltL (l ++ [x]) = ltL l ++ (if 1 < x.length then [] else [x]) := by
  unfold ltL
  rw [List.filter_append]
  congr 1
  show (match !decide (1 < x.length) with | true => [x] | false => []) = _
  by_cases h : 1 < x.length
  · rw [if_pos h, decide_eq_true h]; rfl
  · rw [if_neg h, decide_eq_false h]; rfl
theorem bl_lt : ∀ its : List (List Nat), nBl its + nLt its = its.length
  | [] => rfl
  | x :: r => by
    have ih := bl_lt r
    unfold nBl nLt blL ltL at ih ⊢
    rw [List.filter_cons, List.filter_cons, List.length_cons]
    by_cases h : 1 < x.length
    · rw [if_pos (decide_eq_true h), if_neg (by rw [decide_eq_true h]; decide), List.length_cons]
      omega
    · rw [if_neg (by rw [decide_eq_false h]; decide), if_pos (by rw [decide_eq_false h]; rfl), List.length_cons]
      omega
def spPb (C : Addr) : Sp := fun vs H Q _ => ∃ (a : Addr) (gs : List Nat) (its : List (List Nat)), vs = [.ref a] ∧ Tm C H a gs its ∧ its.length ≤ 900 ∧ (∀ x ∈ its, x.length ≤ 900) ∧ ∀ H', Same H H' → Q (.int (nBl its : Nat)) H'
def spPs (C : Addr) : Sp := fun vs H Q _ => ∃ (a : Addr) (gs : List Nat) (its : List (List Nat)), vs = [.ref a] ∧ Tm C H a gs its ∧ its.length ≤ 900 ∧ (∀ x ∈ its, x.length ≤ 900) ∧ ∀ H', Same H H' → Q (.int (nLt its : Nat)) H'
def spLn (C : Addr) : Sp := fun vs H Q _ => ∃ (a : Addr) (gs : List Nat) (its : List (List Nat)) (n : Int), vs = [.ref a, .int n] ∧ Tm C H a gs its ∧ its.length ≤ 900 ∧ (∀ x ∈ its, x.length ≤ 900) ∧ CMul (nBl its : Nat) n ∧
  ∀ H', Same H H' → Q (.int ((nLt its : Nat) + (nBl its : Nat) * n)) H'
def spFX (C CT : Addr) : Sp := fun vs H _ E => ∃ (a : Addr) (gs : List Nat) (its : List (List Nat)) (xs : List Nat) (i : Nat), vs = [.ref a, tx xs] ∧ Tm C H a gs its ∧ Bad gs xs i ∧ ∀ H' d, Same H H' →
  H' d = some (.xd [("position", .int (i : Nat)), ("code", .str "UnknownLetter")]) → E (.ref CT) (some d) H'
theorem Tm.ext {C : Addr} {H H' : Hp} {a : Addr} {gs : List Nat} {its : List (List Nat)} (t : Tm C H a gs its) (e : LamX.ExtN H H') : Tm C H' a gs its := by
  obtain ⟨dx, p, h1, h4⟩ := t
  exact ⟨dx, p, e _ _ h1 (fun ps h => by cases h), e _ _ h4 (fun ps h => by cases h)⟩
def spLb (K : PySem.W.Frag) : Sp := fun vs H Q _ => ∃ (a : Addr) (its : List (List Nat)), vs = [.ref a] ∧ its.length ≤ 900 ∧ (∀ x ∈ its, 0 < x.length ∧ x.length ≤ 900) ∧ SqL K H a (its.map tx) ∧ ∀ H', Same H H' → Q (.int (nBl its : Nat)) H'
def lf1 (gs : List Nat) (xs x : List Nat) : List Nat := if x.length = 1 then x else xs.map (tau gs x)
theorem lf_eq {gs : List Nat} (hg : Good gs) {its : List (List Nat)} (h : Row gs its) (xs : List Nat) : (its.map (lf1 gs xs)).flatten = fillL gs its xs := by
  unfold fillL putL
  induction its with
  | nil => rfl
  | cons x r ih =>
    have ih := ih fun y hy => h y (List.mem_cons_of_mem _ hy)
    rw [List.map_cons, List.flatten_cons, ih, List.map_cons, List.flatten_cons, List.flatten_append]
    congr 1
    have hx := h x (List.mem_cons_self ..)
    unfold lf1
    rcases hx with ⟨c, _, rfl⟩ | p
    · rw [if_pos (show [c].length = 1 from rfl), if_neg (by show ¬ 1 < 1; omega)]
      simp
    · have := p.length_eq
      have := hg.lo
      rw [if_neg (by omega), if_pos (by omega)]
      simp
theorem row_pos {gs : List Nat} (hg : Good gs) {its : List (List Nat)} (h : Row gs its) : ∀ x ∈ its, 0 < x.length := by
  intro x hx
  rcases h x hx with ⟨c, _, rfl⟩ | p
  · show 0 < 1; omega
  · rw [p.length_eq]; have := hg.lo; omega
theorem fill_len {gs : List Nat} (hg : Good gs) {its : List (List Nat)} (h : Row gs its) (xs : List Nat) : (fillL gs its xs).length = nLt its + nBl its * xs.length := by
  rw [← lf_eq hg h]
  induction its with
  | nil => simp [nLt, nBl, ltL, blL]
  | cons x r ih =>
    have ih := ih fun y hy => h y (List.mem_cons_of_mem _ hy)
    rw [List.map_cons, List.flatten_cons, List.length_append, ih]
    have hx := h x (List.mem_cons_self ..)
    have hl : nLt (x :: r) = (if 1 < x.length then 0 else 1) + nLt r := by
      unfold nLt ltL
      rw [List.filter_cons]
      by_cases h1 : 1 < x.length
      · rw [if_neg (by rw [decide_eq_true h1]; decide), if_pos h1, Nat.zero_add]
      · rw [if_pos (by rw [decide_eq_false h1]; rfl), if_neg h1, List.length_cons]
        omega
    have hb : nBl (x :: r) = (if 1 < x.length then 1 else 0) + nBl r := by
      unfold nBl blL
      rw [List.filter_cons]
      by_cases h1 : 1 < x.length
      · rw [if_pos (decide_eq_true h1), if_pos h1, List.length_cons]
        omega
      · rw [if_neg (by rw [decide_eq_false h1]; decide), if_neg h1, Nat.zero_add]
    rw [hl, hb, Nat.add_mul]
    rcases hx with ⟨c, _, rfl⟩ | p
    · have e : lf1 gs xs [c] = [c] := by unfold lf1; rw [if_pos (show [c].length = 1 from rfl)]
      rw [e, if_neg (by show ¬ 1 < 1; omega), if_neg (by show ¬ 1 < 1; omega)]
      show 1 + _ = _
      omega
    · have hpl := p.length_eq
      have hlo := hg.lo
      have e : lf1 gs xs x = xs.map (tau gs x) := by unfold lf1; rw [if_neg (by omega)]
      rw [e, List.length_map, if_pos (by omega), if_pos (by omega)]
      omega
end Own

namespace Own
open PySem PySem.Spec PyProof.Rows L2 SX
/-! ### x[::-1] of texts and of tuples -/
/-- the slice object that [::-1] makes -/
def BackAt (h : Heap) (a : Addr) (t : Tok) : Prop := h.get? a = some { cls := .type "slice", data := .fields #[.none, .none, .int (-1) t] }
/-- x[::-1], told by what getItem gives of it -/
theorem pe_back {X : Cx} {e : Expr} {te : TE} {k : Nat} {p1 p2 p3 pos : Pos} {G : V → Hp → VK → Prop} (he : PE X e te)
    (hG : ∀ pins s σ H x u a t Q, Inv X pins σ H s → RelV x u → BackAt s.heap a t → G x H Q →
      ∃ T id, typeLookup (.type T) "__getitem__" = pure (some (.builtin id)) ∧ s.TypeIs u T ∧ wpAny (model X.prog X.w) X.A (getItem u (.ref a)) (EP X pins σ Q) X.xe s) :
    PE X (.Subscript e (.Slice none none (some (.UnaryOp .USub (.Constant (.int 1) k p1) p2)) p3) pos) (fun σ H Q => te σ H fun x H1 => G x H1 Q) := by
  constructor
  intro pins s σ H Q I h
  have minus : PO X (some (.UnaryOp .USub (.Constant (.int 1) k p1) p2)) _ := po_some (pe_un un_neg pe_int)
  refine Subscript_ (thn (he.run pins s σ H _ I h) ?_)
  rintro u s1 ⟨x, H1, I1, rx, g⟩
  refine wpAny_Slice ?_
  rw [evalPart_none]
  refine wpAny_pure (wpAny_pure (thn (minus.run pins s1 σ H1 (fun o H2 => o = some (-1) ∧ H2 = H1) I1 ⟨1, rfl, -1, rfl, rfl, rfl⟩) ?_))
  rintro v s2 ⟨_, _, I2, part, rfl, rfl⟩
  cases part with
  | int _ t =>
  have made : BackAt (s2.heap.push { cls := .type "slice", data := .fields #[.none, .none, .int (-1) t] }) s2.heap.objs.size t := Heap.get?_push_size _ rfl
  obtain ⟨T, id, look, ty, run⟩ := hG pins { s2 with heap := s2.heap.push { cls := .type "slice", data := .fields #[.none, .none, .int (-1) t] } } σ _ x u _ t Q (I2.kept (t' := s2.toks) fun _ _ q => Heap.get?_push_of_some _ q) rx made g
  exact tail_any (ops := [u, .ref s2.heap.objs.size]) ty look run (by with_unfolding_all rfl)
theorem back_range (n : Nat) : Builtin.Str.strSliceIndices none none (-1) n = (List.range n).reverse := by
  show sliceRange ((n : Int) - 1) (-1) (-1) = _
  rw [PySem.W.krv_sliceRange, PySem.W.krv_range]
theorem back_list {α : Type} (xs : List α) : ((List.range xs.length).reverse).filterMap (xs[·]?) = xs.reverse := by
  rw [List.filterMap_reverse]
  congr 1
  induction xs with
  | nil => rfl
  | cons x r ih =>
    rw [List.length_cons, List.range_succ_eq_map, List.filterMap_cons]
    show x :: _ = _
    rw [List.filterMap_map]
    congr 1
def gBackS : V → Hp → VK → Prop := fun x H Q => ∃ z : Str, x = .str z ∧ z.cps.size ≤ sizeLine ∧ Q (.str ⟨z.cps.reverse⟩) H
def tBackS (te : TE) : TE := fun σ H Q => te σ H fun x H1 => gBackS x H1 Q
theorem pe_backS {X : Cx} {e : Expr} {te : TE} {k : Nat} {p1 p2 p3 pos : Pos} (he : PE X e te) :
    PE X (.Subscript e (.Slice none none (some (.UnaryOp .USub (.Constant (.int 1) k p1) p2)) p3) pos) (tBackS te) := by
  refine pe_back (G := gBackS) he ?_
  rintro pins s σ H x u a t Q I rx at_ ⟨z, rfl, line, q⟩
  obtain ⟨tk, rfl⟩ := rx
  refine ⟨"str", _, F.slot_str_getitem.lookup, typeIs_str s z tk, ?_⟩
  refine wpAny_getItem_str_slice (l := none) (u := none) (st := some (-1, t)) ⟨_, at_, rfl, rfl⟩ rfl ?_
  have e : sliceMade z tk none none (some (-1, t)) = .str ⟨z.cps.reverse⟩ := by
    unfold sliceMade
    rw [if_neg (by show ¬ (((-1 : Int) == 1) && _) = true; rw [show ((-1 : Int) == 1) = false from rfl, Bool.false_and]; exact Bool.false_ne_true)]
    congr 2
    show ((Builtin.Str.strSliceIndices none none (-1) z.length).filterMap (z.cps[·]?)).toArray = _
    rw [back_range]
    have := back_list z.cps.toList
    simp only [Array.length_toList, Array.getElem?_toList] at this
    show ((List.range z.cps.size).reverse.filterMap (z.cps[·]?)).toArray = _
    rw [this, ← Array.toList_reverse, Array.toArray_toList]
  rw [e]
  exact ⟨by show z.cps.reverse.size ≤ sizeLine; rw [Array.size_reverse]; exact line, .str _, H, I.tok _, ⟨_, rfl⟩, q⟩
def gBackT (K : PySem.W.Frag) : V → Hp → VK → Prop := fun x H Q => ∃ (a : Addr) (xs : List V), x = .ref a ∧ SqT K H a xs ∧ ∀ p, H p = none → Q (.ref p) (upd H p (.tup xs.reverse))
def tBackT (K : PySem.W.Frag) (te : TE) : TE := fun σ H Q => te σ H fun x H1 => gBackT K x H1 Q
/-- the places that [::-1] takes: all, from the last one on -/
theorem back_applied {P : Program} {w : World} {A : Around} {E : Value → Shared → Prop} {s : Shared} {a : Addr} {t : Tok} {n : Nat} {Q : Int × Int × Nat → Shared → Prop} (at_ : BackAt s.heap a t)
    (q : Q ((n : Int) - 1, -1, n) s) : wpAny (model P w) A (Builtin.Slice.sliceApplied (.ref a) (pure (n : Int))) Q E s := by
  unfold Builtin.Slice.sliceApplied Builtin.Slice.sliceFields
  refine wpAny_bind (wpAny_bind (wpAny_field at_ rfl (x := .none) rfl (wpAny_bind (wpAny_field at_ rfl (x := .none) rfl (wpAny_bind (wpAny_field at_ rfl (x := .int (-1) t) rfl (wpAny_pure ?_)))))))
  refine wpAny_bind (HT.slicePart_ (.int (-1) t) ?_)
  rw [if_neg (by decide)]
  refine wpAny_bind (HT.slicePart_ .none (wpAny_bind (HT.slicePart_ .none (wpAny_bind (wpAny_pure ?_)))))
  have places : Builtin.Slice.slicePlaces ((n : Int) - 1) (-1) (-1) = n := by
    unfold Builtin.Slice.slicePlaces
    rw [if_neg (by decide)]
    split
    · rw [show ((n : Int) - 1 - -1 - 1) = (n : Int) - 1 by omega, show -(-1 : Int) = 1 from rfl, Int.ediv_one]
      omega
    · show (0 : Int).toNat = n
      omega
  refine wpAny_pure ?_
  show Q ((n : Int) - 1, -1, Builtin.Slice.slicePlaces ((n : Int) - 1) (-1) (-1)) s
  rw [places]
  exact q
theorem back_items (xs : Array Value) : ((List.range xs.size).filterMap fun (k : Nat) => xs[((xs.size : Int) - 1 + (k : Int) * -1).toNat]?).toArray = xs.reverse := by
  apply Array.toList_inj.mp
  rw [Array.toList_reverse, ← back_list xs.toList]
  have e : (List.range xs.toList.length).reverse = (List.range xs.size).map fun k => xs.size - 1 - k := by
    apply List.ext_getElem
    · simp
    · intro i h1 h2
      simp
  rw [e, List.filterMap_map]
  show List.filterMap _ _ = _
  refine congrArg (fun f => List.filterMap f (List.range xs.size)) ?_
  funext k
  show xs[((xs.size : Int) - 1 + (k : Int) * -1).toNat]? = xs.toList[xs.size - 1 - k]?
  rw [Array.getElem?_toList]
  by_cases h : k < xs.size
  · congr 1
    omega
  · have e1 : ((xs.size : Int) - 1 + (k : Int) * -1).toNat = 0 := by omega
    have e2 : xs.size - 1 - k = 0 := by omega
    rw [e1, e2]
theorem pe_backT {X : Cx} {e : Expr} {te : TE} {k : Nat} {p1 p2 p3 pos : Pos} (he : PE X e te) :
    PE X (.Subscript e (.Slice none none (some (.UnaryOp .USub (.Constant (.int 1) k p1) p2)) p3) pos) (tBackT X.K te) := by
  refine pe_back (G := gBackT X.K) he ?_
  rintro pins s σ H x u a t Q I rx at_ ⟨b, xs, rfl, hx, q⟩
  have eu : u = .ref b := rx
  subst eu
  obtain ⟨its, rel, tup, line⟩ := I.tuple hx
  have size : its.toArray.size ≤ sizeLine := by rw [List.size_toArray, ← rel.length]; exact line
  refine ⟨"tuple", _, PyProof.Rows.slot_tuple_getitem.lookup, tup.typeIs, ?_⟩
  have key : s.TypeIs (.ref a) "slice" := ⟨_, at_, rfl⟩
  have made : EP X pins σ Q (.ref s.heap.objs.size) { s with heap := s.heap.push { cls := .type "tuple", data := .seq its.toArray.reverse } } := by
    refine ⟨.ref s.heap.objs.size, _, I.laid (t' := s.toks) (o := .tup xs.reverse) (fun _ _ q => Heap.get?_push_of_some _ q) (Nat.le_refl _) ?_, rfl, q _ (I.hok.fresh (Nat.le_refl _))⟩
    refine ⟨by rw [List.length_reverse]; exact line, its.reverse, rel.reverse, ?_⟩
    rw [List.reverse_toArray]
    exact IsTup.new _ _
  unfold getItem
  refine wpAny_holding (wpAny_bind (wpAny_sequenceKey tup.typeIs (by decide) (wpAny_bind (wpAny_callSpecial?_slot (name := Str.ofString "__getitem__") tup.typeIs PyProof.Rows.slot_tuple_getitem
    (wpAny_call_entry PyProof.Rows.slot_tuple_getitem tup.typeIs PyProof.Rows.entry_tuple_getitem ?_ (PyProof.Rows.args_tuple_getitem _ _))))))
  refine wpAny_bind (m := Builtin.Tuple.tupleItemsOf (.ref b)) (tupleItemsOf_ tup (wpAny_bind (wpAny_typeOf key ?_)))
  rw [if_pos (by decide)]
  refine wpAny_bind (back_applied at_ ?_)
  have no : ¬ ((((its.toArray.size : Int) - 1 == 0) && ((-1 : Int) == 1) && (its.toArray.size == its.toArray.size)) = true) := by
    rw [show ((-1 : Int) == 1) = false from rfl, Bool.and_false, Bool.false_and]
    exact Bool.false_ne_true
  dsimp only
  rw [if_neg no, back_items]
  refine wpAny_bind (m := Builtin.Tuple.tupleExact its.toArray.reverse) (wpAny_newObj_type (wpAny_pure ⟨_, rfl, wpAny_pure made⟩) ?_)
  show its.toArray.reverse.size ≤ sizeLine
  rw [Array.size_reverse]
  exact size
end Own

namespace Own
open PySem PySem.Spec PyProof.Rows L2 SX
/-! ### a == b, a != b of two instances of one class, by its own __eq__, either answer -/
theorem ne_bind (self : Value) : bindSpecial (.builtin "object.__ne__") self = pure (.builtin "object.__ne__", [self]) :=
  (Slot.of (T := "object") (name := "__ne__") (owner := "object") (n := "__ne__") (by rw [typeLookup_type, builtinLookup_eq_fast]; kernel_rfl) (by decide +kernel) (by decide +kernel) (by decide +kernel)
    (.inl (by decide +kernel)) (by rw [isSubtype_type]; kernel_rfl)).bind self
section
variable {P : Program} {w : World} {A : Around} {E : Value → Shared → Prop} {s : Shared} {K : PySem.W.Frag} {x y C f : Addr} {ox oy : Obj} {dx dy : Option Obj}
/-- the object's own != asks ==, and turns the answer about -/
theorem ne_asks_eq {Q : Value → Shared → Prop} (X : K.In s.heap) (I : PySem.W.InstAt s.heap x ox C dx) (J : PySem.W.InstAt s.heap y oy C dy) (un : A.units + 1 < cLine)
    (ne : PySem.W.findIn K (.ref C) "__ne__" = some (some (.builtin "object.__ne__"))) (ob : PySem.W.mroIn K C (.type "object") = some true)
    (eq : PySem.W.findIn K (.ref C) "__eq__" = some (some (.ref f))) (fn : PySem.W.isFn K (.ref f) = true)
    (h : wpAny (model P w) A.in1 (call (.ref f) [.ref x, .ref y]) (fun v s' => ∃ b, v = .bool b ∧ Q (.bool (!b)) s') E s) :
    wpAny (model P w) A (richCompare .NotEq (.ref x) (.ref y)) Q E s := by
  have LX := I.type (M := model P w)
  have LY := J.type (M := model P w)
  have LN := PySem.W.looks_findIn (M := model P w) X ne
  have LB : PySem.W.Looks (model P w) s.heap (bindSpecial (.builtin "object.__ne__") (.ref x)) (.builtin "object.__ne__", [.ref x]) := PySem.W.Looks.of_pure (ne_bind _)
  have LI : PySem.W.Looks (model P w) s.heap (isInstance (.ref x) (.type "object")) true := by
    unfold isInstance
    exact LX.andThen (PySem.W.looks_mroIn X ob)
  have body : wpAny (model P w) A (call (.builtin "object.__ne__") [.ref x, .ref y]) (fun v s' => ∃ b, v = .bool b ∧ Q v s') E s := by
    refine wpAny_call (codeAny_call_builtin (by decide +kernel) F.cmpEntry_ne (PySem.W.check_slot F.cmpKind_ne F.cmpSplit_ne LI (F.cmpArgs_ne _ _) ?_))
    show wpAny (model P w) A.in1 (cRoomFor "comparison" [.ref x, .ref y] >>= _) _ _ _
    refine wpAny_bind (wpAny_cRoomFor un (wpAny_bind (PySem.W.ifBound_K X I eq fn (wpAny_mono h ?_ fun _ _ e => e))))
    rintro v s' ⟨b, rfl, q⟩
    exact wpAny_bind (wpAny_truthy_bool (wpAny_pure ⟨_, rfl, q⟩))
  have once : wpAny (model P w) A (tryCompare (.ref x) "__ne__" (.ref y)) (fun r s' => ∃ v, r = some v ∧ Q v s') E s := by
    unfold tryCompare
    simp only [callSpecialIfBound?, bindSpecialIfBound?]
    have ask : wpAny (model P w) A (call (.builtin "object.__ne__") ([.ref x] ++ [.ref y]) >>= fun v => pure (some v)) (fun r s' => ∃ b, r = some (.bool b) ∧ Q (.bool b) s') E s :=
      wpAny_bind (wpAny_mono body (fun v s' ⟨b, e, q⟩ => wpAny_pure ⟨b, by rw [e], e ▸ q⟩) fun _ _ e => e)
    refine wpAny_bind (wpAny_holding (wpAny_bind (wpAny_bind (wpAny_bind (LX.here (LN.here (wpAny_bind (wpAny_askSetting ?_))))))))
    split
    · exact wpAny_bind (LB.here (wpAny_pure (by exact wpAny_mono ask (fun r s' ⟨b, e, q⟩ => by subst e; exact wpAny_pure ⟨_, rfl, q⟩) fun _ _ e => e)))
    · exact wpAny_tryCatch (wpAny_bind (LB.here (wpAny_pure (by exact wpAny_mono ask (fun r s' ⟨b, e, q⟩ => by subst e; exact wpAny_pure ⟨_, rfl, q⟩) fun _ _ e => e))))
  unfold richCompare
  simp only [oneThing_ref]
  refine wpAny_holding (wpAny_bind (wpAny_cRoomFor (by omega) (wpAny_bind (LX.here (wpAny_bind (LY.here ?_))))))
  rw [show (Value.ref C != Value.ref C) = false by simp]
  refine wpAny_bind (wpAny_pure (wpAny_bind (wpAny_mono once ?_ fun _ _ e => e)))
  rintro _ s' ⟨v, rfl, q⟩
  exact wpAny_pure q
end
section
variable {X : Cx} {CX : CXT} {n : Nat} {C f : Addr} {fd : FuncData} {ps : List Str} {sp : Sp} {E : XK}
/-- the class's own ==, as it stands -/
structure EqOf (K : PySem.W.Frag) (C f : Addr) : Prop where
  eq : PySem.W.findIn K (.ref C) "__eq__" = some (some (.ref f))
  fn : PySem.W.isFn K (.ref f) = true
  ne : PySem.W.findIn K (.ref C) "__ne__" = some (some (.builtin "object.__ne__"))
  ob : PySem.W.mroIn K C (.type "object") = some true
/-- f(a, b) from inside of a built-in -/
theorem call_two {A : Around} {pins : List (Addr × Obj)} {s : Shared} {σ : L2.St} {H : Hp} {a b : Addr} {Q : VK} (F : FnOk X.prog X.w X.K X.mg X.base CX n f fd ps sp) (hb : Binds X.K fd ps []) (hx : Passes CX X E)
    (room : Room n A) (fr : A.frames = X.A.frames) (I : Inv X pins σ H s) (asks : sp [.ref a, .ref b] H Q E) :
    wpAny (model X.prog X.w) A (call (.ref f) [.ref a, .ref b]) (EP X pins σ Q) X.xe s := by
  have rel : Vals [V.ref a, V.ref b] [Value.ref a, Value.ref b] := .cons rfl (.cons rfl .nil)
  have bound : BindsTo s fd ⟨[.ref a, .ref b], []⟩ (ps.zip [.ref a, .ref b]) := by simpa using hb s [.ref a, .ref b] I.kIn (by simpa using F.len _ _ _ _ asks)
  have around : Env0 X.prog X.w X.K X.mg X.base A X.stack s H := { I.env0 with frames := fr.trans I.env0.frames }
  refine wpAny_call (codeAny_mono (F.run A X.stack s H ⟨[.ref a, .ref b], []⟩ [.ref a, .ref b] _ Q E room around bound rel asks) ?_)
  rintro (er | fl) s' out
  · exact hx pins σ H s er s' I out
  · cases fl with
    | ret u => exact I.after out
    | _ => exact out.elim
def rNeO (C : Addr) (sp : Sp) (E : XK) : R2 := fun x y H Q => ∃ a b dx dy fs gs, x = .ref a ∧ y = .ref b ∧ H a = some (.ins C dx fs) ∧ H b = some (.ins C dy gs) ∧
  sp [.ref a, .ref b] H (fun v H' => ∃ c, v = .bl c ∧ Q (.bl (!c)) H') E
theorem op_neO (F : FnOk X.prog X.w X.K X.mg X.base CX n f fd ps sp) (O : EqOf X.K C f) (hb : Binds X.K fd ps []) (hx : Passes CX X E) (hr : Room (n + 1) X.A) : OpR X (compareOp .NotEq) (rNeO C sp E) := by
  rintro pins s σ H _ _ v u Q I rx ry ⟨a, b, dx, dy, fs, gs, rfl, rfl, ha, hb', asks⟩
  cases rx
  cases ry
  obtain ⟨_, JA, _⟩ := ins_get I.hok ha
  obtain ⟨_, JB, _⟩ := ins_get I.hok hb'
  obtain ⟨_, JA, _⟩ := JA.look
  obtain ⟨_, JB, _⟩ := JB.look
  refine ne_asks_eq I.kIn JA JB (by have := hr.units; omega) O.ne O.ob O.eq O.fn (wpAny_mono (call_two F hb hx hr.in1 rfl I asks) ?_ fun _ _ e => e)
  rintro _ s' ⟨_, H', I', rz, c, rfl, q⟩
  cases rz
  exact ⟨c, rfl, .bl (!c), H', I', rfl, q⟩
def rEqO (C : Addr) (sp : Sp) (E : XK) : R2 := fun x y H Q => ∃ a b dx dy fs gs, x = .ref a ∧ y = .ref b ∧ H a = some (.ins C dx fs) ∧ H b = some (.ins C dy gs) ∧
  sp [.ref a, .ref b] H (fun v H' => ∃ c, v = .bl c ∧ Q (.bl c) H') E
theorem op_eqO (F : FnOk X.prog X.w X.K X.mg X.base CX n f fd ps sp) (O : EqOf X.K C f) (hb : Binds X.K fd ps []) (hx : Passes CX X E) (hr : Room n X.A) : OpR X (compareOp .Eq) (rEqO C sp E) := by
  rintro pins s σ H _ _ v u Q I rx ry ⟨a, b, dx, dy, fs, gs, rfl, rfl, ha, hb', asks⟩
  cases rx
  cases ry
  obtain ⟨_, JA, _⟩ := ins_get I.hok ha
  obtain ⟨_, JB, _⟩ := ins_get I.hok hb'
  obtain ⟨_, JA, _⟩ := JA.look
  obtain ⟨_, JB, _⟩ := JB.look
  obtain ⟨m, hF⟩ := I.fr
  refine PySem.W.cmp_K (op := .Eq) (tb := .ref C) (by have := hr.units; omega) hF I.ok.mod.kin JA JB.type (by simp [PySem.W.notFirst]) O.eq O.fn (wpAny_mono (call_two F hb hx hr rfl I asks) ?_ fun _ _ e => e)
  rintro _ s' ⟨_, H', I', rz, c, rfl, q⟩
  cases rz
  exact ⟨.bl c, H', I', rfl, q⟩
end
end Own

namespace Own
open PySem PySem.Spec PyProof.Rows L2 SX
/-! ### templates compared, mirrored; promises -/
theorem shp_tt {cs : List (List Nat)} (h : ∀ c ∈ cs, ∀ k ∈ c, k < 128) : SeqAt.shaped (.tuple (cs.map fun c => PyData.str (S c))) = true := by
  unfold SeqAt.shaped
  have e : (PyData.tuple (cs.map fun c => PyData.str (S c))).depth = 1 := by
    show PyData.depthAll (cs.map fun c => PyData.str (S c)) + 1 = 1
    rw [dep_tx]
  rw [e]
  show (PyData.canLayAll0 (cs.map fun c => PyData.str (S c)) && decide (1 ≤ 64)) = true
  rw [lay_tx cs h]
  rfl
def spMi (C : Addr) : Sp := fun vs H Q _ => ∃ (a : Addr) (gs : List Nat) (its : List (List Nat)), vs = [.ref a] ∧ Tm C H a gs its ∧ Good gs ∧ Row gs its ∧ its.length ≤ 160 ∧
  ∀ H' p, Same H H' → H p = none → Tm C H' p gs its.reverse → Q (.ref p) H'
/-- texts of plain signs -/
def Plain (its : List (List Nat)) : Prop := ∀ x ∈ its, ∀ k ∈ x, k < 128
def spTe (C : Addr) : Sp := fun vs H Q _ => ∃ (a b : Addr) (gs hs : List Nat) (its jts : List (List Nat)), vs = [.ref a, .ref b] ∧ Tm C H a gs its ∧ Tm C H b hs jts ∧ Plain its ∧ Plain jts ∧
  ∀ H', Same H H' → Q (.bl (decide (gs = hs) && decide (its = jts))) H'
theorem row_rev {gs : List Nat} {its : List (List Nat)} (h : Row gs its) : Row gs its.reverse := fun x hx => h x (List.mem_reverse.mp hx)
theorem row_plain {gs : List Nat} (hg : Good gs) {its : List (List Nat)} (h : Row gs its) : Plain its := fun x hx k hk => by
  have := hg.az k (row_mem h x hx k hk)
  omega
theorem dp_allT {K : PySem.W.Frag} {H : Hp} (its : List (List Nat)) : DpAll K H (its.map tx) (its.map fun c => PyData.str (S c)) := by
  have := dp_all (K := K) (H := H) its
  rw [List.map_map] at this
  exact this
/-- filled with the text read backwards, the items from the end: the filled text read backwards -/
theorem fill_rev {gs : List Nat} (hg : Good gs) {its : List (List Nat)} (h : Row gs its) (xs : List Nat) : fillL gs its.reverse xs.reverse = (fillL gs its xs).reverse := by
  rw [← lf_eq hg (row_rev h), ← lf_eq hg h, List.reverse_flatten, List.map_reverse, List.map_map]
  congr 2
  refine List.map_congr_left fun x hx => ?_
  show lf1 gs xs.reverse x = (lf1 gs xs x).reverse
  unfold lf1
  rcases h x hx with ⟨c, _, rfl⟩ | p
  · rw [if_pos (show [c].length = 1 from rfl), if_pos (show [c].length = 1 from rfl)]
    rfl
  · have := p.length_eq
    have := hg.lo
    rw [if_neg (by omega), if_neg (by omega), List.map_reverse]
/-- the items turned give the turned text -/
theorem fill_tau {gs t : List Nat} (hg : Good gs) (ht : t.Perm gs) {its : List (List Nat)} (h : Row gs its) {xs : List Nat} (hx : ∀ c ∈ xs, c ∈ gs) :
    fillL gs (its.map fun x => x.map (tau gs t)) xs = (fillL gs its xs).map (tau gs t) := by
  rw [← lf_eq hg (row_tau hg ht h), ← lf_eq hg h, List.map_flatten, List.map_map, List.map_map]
  congr 1
  refine List.map_congr_left fun x hi => ?_
  show lf1 gs xs (x.map (tau gs t)) = (lf1 gs xs x).map (tau gs t)
  unfold lf1
  rw [List.length_map]
  by_cases h1 : x.length = 1
  · rw [if_pos h1, if_pos h1]
  · rw [if_neg h1, if_neg h1, List.map_map]
    refine List.map_congr_left fun c hc => ?_
    have hl : x.length = gs.length := by
      rcases h x hi with ⟨c, _, rfl⟩ | p
      · exact absurd rfl h1
      · exact p.length_eq
    show tau gs (x.map (tau gs t)) c = tau gs t (tau gs x c)
    exact tau_map _ (hx c hc) hl
theorem fill_mem {gs : List Nat} (hg : Good gs) {its : List (List Nat)} (h : Row gs its) {xs : List Nat} (hx : ∀ c ∈ xs, c ∈ gs) : ∀ c ∈ fillL gs its xs, c ∈ gs := by
  rw [← lf_eq hg h]
  intro c hc
  obtain ⟨l, hl, hcl⟩ := List.mem_flatten.mp hc
  obtain ⟨x, hxi, rfl⟩ := List.mem_map.mp hl
  unfold lf1 at hcl
  split at hcl
  · exact row_mem h x hxi c hcl
  · rename_i h1
    obtain ⟨d, hd, rfl⟩ := List.mem_map.mp hcl
    have hl : x.length = gs.length := by
      rcases h x hxi with ⟨c, _, rfl⟩ | p
      · exact absurd rfl h1
      · exact p.length_eq
    exact row_mem h x hxi _ (tau_mem (hx d hd) hl)
theorem flat_tx (its : List (List Nat)) : ∀ x ∈ its.map tx, Flat x := by
  intro x hx
  obtain ⟨c, _, rfl⟩ := List.mem_map.mp hx
  trivial
theorem rev_S (xs : List Nat) : (⟨(S xs).cps.reverse⟩ : Str) = S xs.reverse := by
  show (⟨xs.toArray.reverse⟩ : Str) = ⟨xs.reverse.toArray⟩
  rw [List.reverse_toArray]
/-- two lists of two -/
theorem eqd_two {K : PySem.W.Frag} {H : Hp} {n : Nat} {a b : Addr} {x1 x2 y1 y2 : V} (h1 : H a = some (.lst [x1, x2])) (h2 : H b = some (.lst [y1, y2])) (e1 : Eqd K H (n + 1) x1 y1) (e2 : Eqd K H (n + 1) x2 y2) : Eqd K H (n + 2) (.ref a) (.ref b) := by
  refine Or.inr ⟨a, b, _, _, rfl, rfl, .inl ⟨.inl (.inl h1), .inl (.inl h2)⟩, (by show 2 ≤ 1000; decide), rfl, fun i u v hu hv => ?_⟩
  match i with
  | 0 =>
    cases hu
    cases hv
    exact e1
  | 1 =>
    cases hu
    cases hv
    exact e2
  | i + 2 => simp at hu
theorem und_perm {gs t : List Nat} (hg : Good gs) (ht : t.Perm gs) : (und gs t).Perm gs := by
  have nd : t.Nodup := ht.nodup_iff.mpr hg.nd
  have inj : ∀ c ∈ gs, tau gs t (tau t gs c) = c := fun c hc => tau_back hg.nd ht.length_eq.symm (ht.mem_iff.mpr hc)
  have und_nd : (und gs t).Nodup := by
    unfold und
    refine List.pairwise_map.mpr (List.Pairwise.imp_of_mem (fun {a b} ha hb hab e => hab ?_) hg.nd)
    rw [← inj a ha, ← inj b hb, e]
  refine perm_of_counts gs _ hg.nd (by unfold und; rw [List.length_map]) fun c hc => ?_
  have mem : c ∈ und gs t := List.mem_map.mpr ⟨tau gs t c, ht.mem_iff.mp (tau_mem hc ht.length_eq), tau_back nd ht.length_eq hc⟩
  rw [und_nd.count, if_pos mem]
theorem turned_back {gs t : List Nat} (hg : Good gs) (ht : t.Perm gs) {its : List (List Nat)} (h : Row gs its) :
    ((its.map fun x => x.map (tau gs t)).map fun x => x.map (tau gs (und gs t))) = its := by
  rw [List.map_map]
  refine (List.map_congr_left fun x hx => ?_).trans (List.map_id its)
  show (x.map (tau gs t)).map (tau gs (und gs t)) = x
  rw [List.map_map]
  refine (List.map_congr_left fun c hc => ?_).trans (List.map_id x)
  exact und_back (ht.nodup_iff.mpr hg.nd) ht.length_eq (fun c hc => ht.mem_iff.mp hc) (row_mem h x hx c hc)
/-- isinstance facts of the class -/
structure InsC (K : PySem.W.Frag) (C : Addr) : Prop where
  cls : Cls K C
  ha : PySem.W.findIn K (.ref C) "__class__" = some (some (.builtin "object.__class__"))
  hn : PySem.W.specialIn K (.builtin "object.__class__") "__get__" = some (some (.builtin "getset_descriptor.__get__"))
  tk : PySem.W.takesIn K (.builtin "object.__class__") = some true
  ob : PySem.W.mroIn K C (.type "object") = some true
  kit : PySem.W.kitOne K (.ref C) (.ref C) = some true
theorem InsC.ty {K : PySem.W.Frag} {C a dx : Addr} {H : Hp} {fs : List (Str × V)} (i : InsC K C) (e : H a = some (.ins C dx fs)) : TyX K H (.ref a) (.ref C) := .base (.ins e i.cls i.ha i.hn i.tk i.ob)
def spItT (K : PySem.W.Frag) : Sp := fun vs H Q _ => ∃ (gs t : List Nat) (a : Addr) (its : List (List Nat)), vs = [tx gs, tx t, .ref a] ∧ Good gs ∧ t.Perm gs ∧ Row gs its ∧ its.length ≤ 100 ∧ SqL K H a (its.map tx) ∧
  ∀ H' p, Same H H' → H p = none → H' p = some (.lst ((its.map fun x => x.map (tau gs t)).map tx)) → Q (.ref p) H'
end Own

namespace Own
open PySem PySem.Spec PyProof.Rows L2 SX
/-! ### templates put into one another -/
theorem none_of {H H' : Hp} (s : Same H H') {p : Addr} (h : H' p = none) : H p = none := by
  cases e : H p with
  | none => rfl
  | some o => rw [s _ _ e] at h; cases h
/-- what becomes of one item -/
def put1 (gs : List Nat) (inn : List (List Nat)) (x : List Nat) : List (List Nat) := if 1 < x.length then inn.map fun y => y.map (tau gs x) else [x]
theorem putL_eq (gs : List Nat) (its inn : List (List Nat)) : putL gs its inn = (its.map (put1 gs inn)).flatten := rfl
theorem putL_snoc {gs : List Nat} {its inn : List (List Nat)} {i : Nat} {x : List Nat} (h : its[i]? = some x) : putL gs (its.take (i + 1)) inn = putL gs (its.take i) inn ++ put1 gs inn x := by
  rw [putL_eq, putL_eq, List.take_add_one, h]
  simp
theorem row_put {gs : List Nat} (hg : Good gs) {its inn : List (List Nat)} (h : Row gs its) (hi : Row gs inn) : Row gs (putL gs its inn) := by
  intro y hy
  rw [putL_eq] at hy
  obtain ⟨l, hl, hyl⟩ := List.mem_flatten.mp hy
  obtain ⟨x, hx, rfl⟩ := List.mem_map.mp hl
  unfold put1 at hyl
  rcases h x hx with ⟨c, hc, rfl⟩ | p
  · rw [if_neg (by show ¬ 1 < 1; omega)] at hyl
    rw [List.mem_singleton.mp hyl]
    exact .inl ⟨c, hc, rfl⟩
  · have := hg.lo
    have := p.length_eq
    rw [if_pos (by omega)] at hyl
    exact row_tau hg p hi y hyl
theorem putL_len {gs : List Nat} {its inn : List (List Nat)} {n m : Nat} (h : its.length ≤ n) (h' : inn.length ≤ m) (hm : 1 ≤ m) : (putL gs its inn).length ≤ n * m :=
  Nat.le_trans (put_len hm h') (Nat.mul_le_mul_right _ h)
/-- filled after put: put in one after the other -/
theorem fill_put {gs : List Nat} (hg : Good gs) {its inn : List (List Nat)} (h : Row gs its) (hi : Row gs inn) {xs : List Nat} (hx : ∀ c ∈ xs, c ∈ gs) :
    fillL gs (putL gs its inn) xs = fillL gs its (fillL gs inn xs) := by
  rw [← lf_eq hg h, ← lf_eq hg (row_put hg h hi), putL_eq, List.map_flatten, List.flatten_flatten, List.map_map, List.map_map]
  congr 1
  refine List.map_congr_left fun x hxi => ?_
  show ((put1 gs inn x).map (lf1 gs xs)).flatten = lf1 gs (fillL gs inn xs) x
  rcases h x hxi with ⟨c, hc, rfl⟩ | p
  · unfold put1 lf1
    rw [if_neg (by show ¬ 1 < 1; omega), if_pos (show [c].length = 1 from rfl)]
    show ([(if [c].length = 1 then [c] else xs.map (tau gs [c]))] : List (List Nat)).flatten = [c]
    rw [if_pos (show [c].length = 1 from rfl)]
    rfl
  · have hlo := hg.lo
    have hpl := p.length_eq
    have e : lf1 gs (fillL gs inn xs) x = (fillL gs inn xs).map (tau gs x) := by unfold lf1; rw [if_neg (by omega)]
    rw [e, ← fill_tau hg p hi hx]
    unfold put1
    rw [if_pos (by omega), ← lf_eq hg (row_tau hg p hi)]
/-- one letter's way through two turns -/
theorem tau_tau {gs x y : List Nat} {c : Nat} (hy : y.length = gs.length) (hc : c ∈ gs) : tau gs (y.map (tau gs x)) c = tau gs x (tau gs y c) := tau_map _ hc hy
theorem put_put {gs : List Nat} (hg : Good gs) {its inn jts : List (List Nat)} (h : Row gs its) (hi : Row gs inn) (hj : Row gs jts) :
    putL gs (putL gs its inn) jts = putL gs its (putL gs inn jts) := by
  rw [putL_eq gs (putL gs its inn), putL_eq gs its inn, putL_eq gs its (putL gs inn jts), List.map_flatten, List.flatten_flatten, List.map_map, List.map_map]
  congr 1
  refine List.map_congr_left fun x hx => ?_
  show ((put1 gs inn x).map (put1 gs jts)).flatten = put1 gs (putL gs inn jts) x
  have hlo := hg.lo
  rcases h x hx with ⟨c, hc, rfl⟩ | p
  · have e : ∀ l, put1 gs l [c] = [[c]] := fun l => by unfold put1; rw [if_neg (by show ¬ 1 < 1; omega)]
    rw [e, e, List.map_singleton, e]
    rfl
  · have hpl := p.length_eq
    have e : ∀ l : List (List Nat), put1 gs l x = l.map fun y => y.map (tau gs x) := fun l => by unfold put1; rw [if_pos (by omega)]
    rw [e, e, putL_eq, List.map_flatten, List.map_map, List.map_map]
    congr 1
    refine List.map_congr_left fun y hy => ?_
    show put1 gs jts (y.map (tau gs x)) = (put1 gs jts y).map fun z => z.map (tau gs x)
    rcases hi y hy with ⟨d, hd, rfl⟩ | py
    · unfold put1
      rw [if_neg (by show ¬ 1 < 1; omega), if_neg (by show ¬ 1 < 1; omega)]
      rfl
    · have hyl := py.length_eq
      unfold put1
      rw [List.length_map, if_pos (by omega), if_pos (by omega), List.map_map]
      refine List.map_congr_left fun z hz => ?_
      show z.map (tau gs (y.map (tau gs x))) = (z.map (tau gs y)).map (tau gs x)
      rw [List.map_map]
      exact List.map_congr_left fun c hc => tau_tau hyl (row_mem hj z hz c hc)
/-- a template stays where a list is written -/
theorem Tm.put {C : Addr} {H : Hp} {a D : Addr} {gs : List Nat} {its : List (List Nat)} {xs ys : List V} (t : Tm C H a gs its) (hD : H D = some (.lst xs)) : Tm C (upd H D (.lst ys)) a gs its := by
  obtain ⟨dx, p, h1, h4⟩ := t
  exact ⟨dx, p, by rw [upd_ne (ne_of h1 hD fun e => by cases e)]; exact h1, by rw [upd_ne (ne_of h4 hD fun e => by cases e)]; exact h4⟩
/-! ### promises -/
def spCS : Sp := fun vs H Q _ => ∃ gs : List Nat, vs = [tx gs, tx gs] ∧ Q .non H
def spCSX (C : Addr) : Sp := fun vs H _ E => ∃ gs hs : List Nat, vs = [tx gs, tx hs] ∧ gs ≠ hs ∧ ∀ H' d, Same H H' → H' d = some (.xd [("code", .str "LettersDiffer")]) → E (.ref C) (some d) H'
def spPt (C : Addr) : Sp := fun vs H Q _ => ∃ (a b : Addr) (gs : List Nat) (its inn : List (List Nat)), vs = [.ref a, .ref b] ∧ Tm C H a gs its ∧ Tm C H b gs inn ∧ Good gs ∧ Row gs its ∧ Row gs inn ∧ its.length ≤ 160 ∧ inn.length ≤ 160 ∧
  (putL gs its inn).length ≤ 160 ∧ ∀ H' p, Same H H' → H p = none → Tm C H' p gs (putL gs its inn) → Q (.ref p) H'
def spPX (C CD : Addr) : Sp := fun vs H _ E => ∃ (a b : Addr) (gs hs : List Nat) (its inn : List (List Nat)), vs = [.ref a, .ref b] ∧ Tm C H a gs its ∧ Tm C H b hs inn ∧ gs ≠ hs ∧ ∀ H' d, Same H H' →
  H' d = some (.xd [("code", .str "LettersDiffer")]) → E (.ref CD) (some d) H'
def spLp (K : PySem.W.Frag) : Sp := fun vs H Q _ => ∃ (gs : List Nat) (a b : Addr) (its inn : List (List Nat)), vs = [tx gs, .ref a, .ref b] ∧ Good gs ∧ Row gs its ∧ Row gs inn ∧ its.length ≤ 20 ∧ inn.length ≤ 20 ∧ SqL K H a (its.map tx) ∧ SqL K H b (inn.map tx) ∧
  ∀ H' p, Same H H' → H p = none → H' p = some (.lst ((putL gs its inn).map tx)) → Q (.ref p) H'
def spLo : Sp := fun vs H Q _ => ∃ gs : List Nat, vs = [tx gs] ∧ ((gs ≠ [120, 121] → Q (tx [120, 121]) H) ∧ (gs = [120, 121] → Q (tx [121, 120]) H))
theorem err_ld {K : PySem.W.Frag} {mg : Str → Option Value} {x : Str} {C d : Addr} {H : Hp} (T : ErrC K mg x C) (h : H d = some (.xd [("code", .str "LettersDiffer")])) :
    ErrAt K (.ref C) (some d) H "LettersDiffer" .non := ⟨C, d, _, rfl, rfl, h, T.xf, T.nc, rfl, .inr ⟨.inr rfl, rfl⟩⟩
theorem sh_ld : SeqAt.shaped (.tuple [.str (Str.ofString "LettersDiffer"), .none]) = true := by decide +kernel
end Own

namespace Own
open PySem PySem.Spec PyProof.Rows L2 SX
/-! ### a == v, a + b by an own class -/
section
variable {X : Cx} {CX : CXT} {n : Nat} {C f : Addr} {fd : FuncData} {ps : List Str} {sp : Sp} {E : XK}
/-- f(a, y) from inside of an operation -/
theorem call_with {A : Around} {pins : List (Addr × Obj)} {s : Shared} {σ : L2.St} {H : Hp} {a : Addr} {y : V} {u : Value} {Q : VK} (F : FnOk X.prog X.w X.K X.mg X.base CX n f fd ps sp) (hb : Binds X.K fd ps []) (hx : Passes CX X E)
    (room : Room n A) (fr : A.frames = X.A.frames) (I : Inv X pins σ H s) (ry : RelV y u) (asks : sp [.ref a, y] H Q E) :
    wpAny (model X.prog X.w) A (call (.ref f) [.ref a, u]) (EP X pins σ Q) X.xe s := by
  have rel : Vals [V.ref a, y] [Value.ref a, u] := .cons rfl (.cons ry .nil)
  have bound : BindsTo s fd ⟨[.ref a, u], []⟩ (ps.zip [.ref a, u]) := by simpa using hb s [.ref a, u] I.kIn (by simpa using F.len _ _ _ _ asks)
  have around : Env0 X.prog X.w X.K X.mg X.base A X.stack s H := { I.env0 with frames := fr.trans I.env0.frames }
  refine wpAny_call (codeAny_mono (F.run A X.stack s H ⟨[.ref a, u], []⟩ [.ref a, u] _ Q E room around bound rel asks) ?_)
  rintro (er | fl) s' out
  · exact hx pins σ H s er s' I out
  · cases fl with
    | ret u => exact I.after out
    | _ => exact out.elim
def rEqX (K : PySem.W.Frag) (C : Addr) (sp : Sp) (E : XK) : R2 := fun x y H Q => ∃ a dx fs t, x = .ref a ∧ H a = some (.ins C dx fs) ∧ TyX K H y t ∧ PySem.W.notFirst K C t = true ∧
  sp [.ref a, y] H (fun v H' => ∃ c, v = .bl c ∧ Q (.bl c) H') E
theorem op_eqX (F : FnOk X.prog X.w X.K X.mg X.base CX n f fd ps sp) (O : EqOf X.K C f) (hb : Binds X.K fd ps []) (hx : Passes CX X E) (hr : Room n X.A) : OpR X (compareOp .Eq) (rEqX X.K C sp E) := by
  rintro pins s σ H _ y v u Q I rx ry ⟨a, dx, fs, t, rfl, ha, ty, nf, asks⟩
  cases rx
  obtain ⟨_, JA, _⟩ := ins_get I.hok ha
  obtain ⟨_, JA, _⟩ := JA.look
  obtain ⟨m, hF⟩ := I.fr
  obtain ⟨Z, kit, holds, _⟩ := kit_of I ry ty
  refine PySem.W.cmp_K (op := .Eq) (tb := t) (by have := hr.units; omega) hF I.ok.mod.kin JA (kit.ty _ _ I.kIn holds) nf O.eq O.fn (wpAny_mono (call_with F hb hx hr rfl I ry asks) ?_ fun _ _ e => e)
  rintro _ s' ⟨_, H', I', rz, c, rfl, q⟩
  cases rz
  exact ⟨.bl c, H', I', rfl, q⟩
/-- a + b of two instances of one class, by its own __add__, which hands back an object -/
structure AddOf (K : PySem.W.Frag) (C f : Addr) : Prop where
  add : PySem.W.findIn K (.ref C) "__add__" = some (some (.ref f))
  fn : PySem.W.isFn K (.ref f) = true
  first : PySem.W.selfFirst K C = true
def rAddO (C : Addr) (sp : Sp) (E : XK) : R2 := fun x y H Q => ∃ a b dx dy fs gs, x = .ref a ∧ y = .ref b ∧ H a = some (.ins C dx fs) ∧ H b = some (.ins C dy gs) ∧
  sp [.ref a, .ref b] H (fun v H' => ∃ p, v = .ref p ∧ Q (.ref p) H') E
theorem op_addO (F : FnOk X.prog X.w X.K X.mg X.base CX n f fd ps sp) (O : AddOf X.K C f) (hb : Binds X.K fd ps []) (hx : Passes CX X E) (hr : Room n X.A) : OpR X (binaryOp .Add) (rAddO C sp E) := by
  rintro pins s σ H _ _ v u Q I rx ry ⟨a, b, dx, dy, fs, gs, rfl, rfl, ha, hb', asks⟩
  cases rx
  cases ry
  obtain ⟨_, JA, _⟩ := ins_get I.hok ha
  obtain ⟨_, JB, _⟩ := ins_get I.hok hb'
  obtain ⟨_, JA, _⟩ := JA.look
  obtain ⟨_, JB, _⟩ := JB.look
  obtain ⟨m, hF⟩ := I.fr
  refine PySem.W.binop_K (op := .Add) hF I.ok.mod.kin JA JB.type O.first O.add O.fn (wpAny_mono (call_with F hb hx hr rfl I (show RelV (V.ref b) (Value.ref b) from rfl) asks) ?_ fun _ _ e => e)
  rintro _ s' ⟨_, H', I', rz, p, rfl, q⟩
  cases rz
  exact ⟨.ref p, H', I', rfl, q⟩
end
/-! ### lists cut -/
theorem cut_all (xs : List V) : cutV xs none none = xs := by
  unfold cutV
  rw [HT.sIx_none, HT.sIx_none, List.drop_zero, Nat.sub_zero, List.take_length]
theorem cut_to {xs : List V} {k : Nat} (h : k ≤ xs.length) : cutV xs none (some (k : Int)) = xs.take k := by
  unfold cutV
  rw [HT.sIx_none, HT.sIx_nat, List.drop_zero, Nat.sub_zero, Nat.min_eq_left h]
theorem cut_from {xs : List V} {k : Nat} (h : k ≤ xs.length) : cutV xs (some (k : Int)) none = xs.drop k := by
  unfold cutV
  rw [HT.sIx_none, HT.sIx_nat, Nat.min_eq_left h, List.take_of_length_le (by rw [List.length_drop]; exact Nat.le_refl _)]
theorem row_app {gs : List Nat} {a b : List (List Nat)} (h : Row gs a) (h' : Row gs b) : Row gs (a ++ b) := fun x hx => (List.mem_append.mp hx).elim (h x) (h' x)
theorem row_take {gs : List Nat} {a : List (List Nat)} (h : Row gs a) (k : Nat) : Row gs (a.take k) := fun x hx => h x (List.mem_of_mem_take hx)
theorem row_drop {gs : List Nat} {a : List (List Nat)} (h : Row gs a) (k : Nat) : Row gs (a.drop k) := fun x hx => h x (List.mem_of_mem_drop hx)
theorem good_rev {gs : List Nat} (h : Good gs) : Good gs.reverse := ⟨by rw [List.length_reverse]; exact h.lo, by rw [List.length_reverse]; exact h.hi, (List.reverse_perm gs).nodup_iff.mpr h.nd, fun c hc => h.az c (List.mem_reverse.mp hc)⟩
theorem rev_ne {gs : List Nat} (h : Good gs) : gs.reverse ≠ gs := by
  intro e
  have lo := h.lo
  have hi := h.hi
  have nd := h.nd
  match gs, lo, hi, nd, e with
  | [a, b], _, _, nd, e => simp at e nd; exact nd e.1.symm
  | [a, b, c], _, _, nd, e => simp at e nd; exact nd.1.2 e.1.symm
  | [a, b, c, d], _, _, nd, e => simp at e nd; exact nd.1.2.2 e.1.symm
/-! ### promises -/
/-- == with something that is no template -/
def spTeN (K : PySem.W.Frag) (C : Addr) : Sp := fun vs H Q _ => ∃ (a : Addr) (y : V) (t : Value), vs = [.ref a, y] ∧ TyX K H y t ∧ PySem.W.kitOne K t (.ref C) = some false ∧ Q (.bl false) H
def spAd (C : Addr) : Sp := fun vs H Q _ => ∃ (a b : Addr) (gs : List Nat) (its jts : List (List Nat)), vs = [.ref a, .ref b] ∧ Tm C H a gs its ∧ Tm C H b gs jts ∧ Good gs ∧ Row gs its ∧ Row gs jts ∧ (its ++ jts).length ≤ 160 ∧
  ∀ H' p, Same H H' → H p = none → Tm C H' p gs (its ++ jts) → Q (.ref p) H'
def spAX (C CD : Addr) : Sp := fun vs H _ E => ∃ (a b : Addr) (gs hs : List Nat) (its jts : List (List Nat)), vs = [.ref a, .ref b] ∧ Tm C H a gs its ∧ Tm C H b hs jts ∧ gs ≠ hs ∧ ∀ H' d, Same H H' →
  H' d = some (.xd [("code", .str "LettersDiffer")]) → E (.ref CD) (some d) H'
theorem eqd_three {K : PySem.W.Frag} {H : Hp} {n : Nat} {a b : Addr} {x1 x2 x3 y1 y2 y3 : V} (h1 : H a = some (.lst [x1, x2, x3])) (h2 : H b = some (.lst [y1, y2, y3])) (e1 : Eqd K H (n + 1) x1 y1) (e2 : Eqd K H (n + 1) x2 y2) (e3 : Eqd K H (n + 1) x3 y3) :
    Eqd K H (n + 2) (.ref a) (.ref b) := by
  refine Or.inr ⟨a, b, _, _, rfl, rfl, .inl ⟨.inl (.inl h1), .inl (.inl h2)⟩, (by show 3 ≤ 1000; decide), rfl, fun i u v hu hv => ?_⟩
  match i with
  | 0 => cases hu; cases hv; exact e1
  | 1 => cases hu; cases hv; exact e2
  | 2 => cases hu; cases hv; exact e3
  | i + 3 => simp at hu
end Own

namespace Own
open PySem PySem.Spec PyProof.Rows L2 SX
/-! ### len(o), str(o), repr(o) by an own class -/
section
variable {X : Cx} {CX : CXT} {n : Nat} {C f : Addr} {fd : FuncData} {ps : List Str} {sp : Sp} {E : XK}
/-- f(a) from inside of a built-in -/
theorem call_alone {A : Around} {pins : List (Addr × Obj)} {s : Shared} {σ : L2.St} {H : Hp} {a : Addr} {Q : VK} (F : FnOk X.prog X.w X.K X.mg X.base CX n f fd ps sp) (hb : Binds X.K fd ps []) (hx : Passes CX X E)
    (room : Room n A) (fr : A.frames = X.A.frames) (I : Inv X pins σ H s) (asks : sp [.ref a] H Q E) :
    wpAny (model X.prog X.w) A (call (.ref f) [.ref a]) (EP X pins σ Q) X.xe s := by
  have rel : Vals [V.ref a] [Value.ref a] := .cons rfl .nil
  have bound : BindsTo s fd ⟨[.ref a], []⟩ (ps.zip [.ref a]) := by simpa using hb s [.ref a] I.kIn (by simpa using F.len _ _ _ _ asks)
  have around : Env0 X.prog X.w X.K X.mg X.base A X.stack s H := { I.env0 with frames := fr.trans I.env0.frames }
  refine wpAny_call (codeAny_mono (F.run A X.stack s H ⟨[.ref a], []⟩ [.ref a] _ Q E room around bound rel asks) ?_)
  rintro (er | fl) s' out
  · exact hx pins σ H s er s' I out
  · cases fl with
    | ret u => exact I.after out
    | _ => exact out.elim
/-- a method of the class that a built-in asks for -/
structure DunOf (K : PySem.W.Frag) (C : Addr) (m : Str) (f : Addr) : Prop where
  at_ : PySem.W.findIn K (.ref C) m = some (some (.ref f))
  fn : PySem.W.isFn K (.ref f) = true
theorem call_lenO (F : FnOk X.prog X.w X.K X.mg X.base CX n f fd ps sp) (O : DunOf X.K C "__len__" f) (hb : Binds X.K fd ps []) (hx : Passes CX X E) (hr : Room (n + 1) X.A) :
    CallR X (.builtin "len") (fun xs H Q => ∃ a dx fs, xs = [.ref a] ∧ H a = some (.ins C dx fs) ∧ sp [.ref a] H (fun v H' => ∃ k : Nat, v = .int (k : Int) ∧ k < 1000000 ∧ Q (.int (k : Int)) H') E) := by
  rintro pins s σ H _ us Q I r ⟨a, dx, fs, rfl, ha, asks⟩
  obtain ⟨_, rfl, e⟩ := vals1 r
  cases (show _ = Value.ref a from e)
  obtain ⟨_, JA, _⟩ := ins_get I.hok ha
  obtain ⟨_, JA, _⟩ := JA.look
  obtain ⟨m, hF⟩ := I.fr
  refine PySem.W.len_K hF I.ok.mod.kin JA O.at_ O.fn (wpAny_mono (call_alone F hb hx hr.in1 rfl I asks) ?_ fun _ _ e => e)
  rintro _ s' ⟨_, H', I', rz, k, rfl, lt, q⟩
  obtain ⟨t, rfl⟩ := rz
  exact ⟨⟨by omega, by omega⟩, .int (k : Int), H', I'.tok _, ⟨_, rfl⟩, q⟩
theorem call_reprO (F : FnOk X.prog X.w X.K X.mg X.base CX n f fd ps sp) (O : DunOf X.K C "__repr__" f) (hb : Binds X.K fd ps []) (hx : Passes CX X E) (hr : Room (n + 1) X.A) :
    CallR X (.builtin "repr") (fun xs H Q => ∃ a dx fs, xs = [.ref a] ∧ H a = some (.ins C dx fs) ∧ sp [.ref a] H (fun v H' => ∃ z : Str, v = .str z ∧ Q (.str z) H') E) := by
  rintro pins s σ H _ us Q I r ⟨a, dx, fs, rfl, ha, asks⟩
  obtain ⟨_, rfl, e⟩ := vals1 r
  cases (show _ = Value.ref a from e)
  obtain ⟨_, JA, _⟩ := ins_get I.hok ha
  obtain ⟨_, JA, _⟩ := JA.look
  obtain ⟨m, hF⟩ := I.fr
  refine PySem.W.repr_K (by have := hr.un; show _ + 1 < _; omega) hF I.ok.mod.kin JA O.at_ O.fn (wpAny_mono (call_alone F hb hx hr.in1 rfl I asks) ?_ fun _ _ e => e)
  rintro _ s' ⟨_, H', I', rz, z, rfl, q⟩
  obtain ⟨t, rfl⟩ := rz
  exact ⟨.str z, H', I', ⟨_, rfl⟩, q⟩
theorem call_strO (F : FnOk X.prog X.w X.K X.mg X.base CX n f fd ps sp) (O : DunOf X.K C "__str__" f) (hb : Binds X.K fd ps []) (hx : Passes CX X E) (hr : Room (n + 2) X.A) :
    CallR X (.type "str") (fun xs H Q => ∃ a dx fs, xs = [.ref a] ∧ H a = some (.ins C dx fs) ∧ sp [.ref a] H (fun v H' => ∃ z : Str, v = .str z ∧ Q (.str z) H') E) := by
  rintro pins s σ H _ us Q I r ⟨a, dx, fs, rfl, ha, asks⟩
  obtain ⟨_, rfl, e⟩ := vals1 r
  cases (show _ = Value.ref a from e)
  obtain ⟨_, JA, _⟩ := ins_get I.hok ha
  obtain ⟨_, JA, _⟩ := JA.look
  refine PySem.W.kso_call (by have := hr.un; show _ + 1 + 1 < _; omega) I.kIn JA O.at_ O.fn (wpAny_mono (call_alone F hb hx hr.in1.in1 rfl I asks) ?_ fun _ _ e => e)
  rintro _ s' ⟨_, H', I', rz, z, rfl, q⟩
  obtain ⟨t, rfl⟩ := rz
  exact ⟨.str z, H', I', ⟨_, rfl⟩, q⟩
end
/-! ### for i, x in enumerate(t), t a tuple -/
set_option maxHeartbeats 1000000 in
theorem enum_makes {v : Value} {o : Obj} {G : Heap → Prop} (B : Begins v o G) : Meets (Builtin.«enumerate.__new__» ⟨[.type "enumerate", v], []⟩) (fun _ R s => G s.heap ∧
    R (.ok (.ret (.ref (s.heap.push o).objs.size))) { s with heap := (s.heap.push o).push { cls := .type "enumerate", data := .fields #[.none, .bool false, .ref s.heap.objs.size, rawInt 0, .none, .none] } }) := by
  refine .of_wp ?_
  rintro prog w A R ⟨hp, g, d, tk, os⟩ ⟨h1, h⟩
  have sub := sub_enumerate
  have start : ∀ {A' : Around} {E : Value → Shared → Prop} {Q : Value → Shared → Prop}, Q (.ref hp.objs.size) ⟨hp.push o, g, d, tk, os⟩ → wpAny (model prog w) A' (pyIter v) Q E ⟨hp, g, d, tk, os⟩ :=
    fun q => B.iter prog w _ _ _ _ h1 q
  wp_walk using start
  refine wpAny_stack_any fun st => wpAny_pure ?_
  split
  all_goals try (rename_i c _ _ _ _ _; cases (c == Value.type "enumerate"))
  all_goals (wp_walk using start; exact ⟨_, rfl, h⟩)
def ItET (K : PySem.W.Frag) (a : Addr) (xs : List V) : It :=
  ⟨fun i H => SqT K H a xs ∧ i < xs.length,
   fun i H v H' => ∃ T x, v = .ref T ∧ H T = none ∧ xs[i]? = some x ∧ H' = upd H T (.tup [.int (i : Nat), x]),
   fun i H => SqT K H a xs ∧ i = xs.length⟩
theorem turnET {P : Program} {w : World} {K : PySem.W.Frag} {elts : List Expr} {kk : Nat} {tpos : Pos} {xs : List V} (a e it : Addr) (ne : e ≠ it) :
    Turn P w K (.Tuple elts kk tpos) (ItET K a xs) [e, it] e (fun i h => (∃ old, IsEnum h e it (0 + (i : Int)) old) ∧ h.IsTupleIter it a i) := by
  have apart : ∀ {h : Heap} {i : Nat} {its : Array Value}, h.IsTupleIter it a i → h.IsTuple a its → a ≠ it := by
    rintro h i its ⟨o, e1, c1, _⟩ ⟨o', e2, c2, _⟩ rfl
    rw [e1] at e2
    cases e2
    rw [c1] at c2
    injection c2 with c2
    exact absurd c2 (by decide)
  refine ⟨List.mem_cons_self, ?_, ?_, ?_, ?_, ?_⟩
  · rintro i h ⟨⟨old, he⟩, ⟨o, ho, _, hd⟩⟩
    simp only [List.forall_mem_cons]
    exact ⟨⟨_, he, fun v => nofun⟩, ⟨o, ho, fun v q => by rw [hd] at q; cases q⟩, fun _ q => nomatch q⟩
  · rintro i h h' ⟨⟨old, he⟩, ⟨o, ho, r⟩⟩ k
    exact ⟨⟨old, k e (by simp) _ he⟩, ⟨o, k it (by simp) _ ho, r⟩⟩
  · rintro X rfl rfl rfl calm i pins s σ H E I0 off ⟨⟨old, he⟩, hit⟩ ⟨hx, hlt⟩
    obtain ⟨its, rel, tup, line⟩ := I0.tuple hx
    have na := apart hit tup
    have nea : e ≠ a := by
      rintro rfl
      obtain ⟨o', e2, c2, _⟩ := tup
      rw [he] at e2
      cases e2
      injection c2 with c2
      exact absurd c2 (by decide)
    have G := GoesN.enumFrom (elts := elts) (x1 := kk) (pos := tpos) 0 (Draws.tuple (prog := X.prog) (w := X.w) (A := X.A.in1) (I0.ok.hd calm) it a na its.toArray) e ne (by simp [ne, nea]) (by simp)
    have lt : i < its.toArray.size := by
      rw [List.size_toArray, ← rel.length]
      exact hlt
    refine G.goes i s (fun u s2 => ∃ x H', Inv X pins σ H' s2 ∧ RelV x u ∧ (ItET X.K a xs).yld i H x H' ∧ ((∃ old, IsEnum s2.heap e it (0 + ((i + 1 : Nat) : Int)) old) ∧ s2.heap.IsTupleIter it a (i + 1)) ∧ ∀ b ∈ [e, it], H' b = none) E lt ⟨⟨old, he⟩, hit, tup⟩ fun u h tk y st' rest _ => ?_
    obtain ⟨T, t, z, rfl, young, hz, tT⟩ := y
    have hz' : its[i]? = some z := by rw [← List.getElem?_toArray]; exact hz
    obtain ⟨x, hxi, rx⟩ : ∃ x, xs[i]? = some x ∧ RelV x z := by
      have hxi := List.getElem?_eq_getElem hlt
      obtain ⟨u', hu', ru⟩ := rel.get hxi
      rw [hz'] at hu'
      cases hu'
      exact ⟨_, hxi, ru⟩
    have wrs : ∀ b o, b ∉ [e, it] → s.heap.get? b = some o → h.get? b = some o := rest
    rw [Int.zero_add] at tT
    refine ⟨.ref T, upd H T (.tup [.int (i : Nat), x]), I0.turnedNew (t' := tk) (ch := [e, it]) wrs off young ?_, rfl, ⟨T, x, rfl, I0.hok.fresh young, hxi, rfl⟩, ⟨st'.1, st'.2.1⟩, fun b hb => ?_⟩
    · obtain ⟨o, e1, e2, e3⟩ := tT
      exact ⟨by show 2 ≤ sizeLine; decide, [_, _], .cons ⟨_, rfl⟩ (.cons rx .nil), o, e1, e2, e3⟩
    · have lb : b < s.heap.objs.size := by
        rcases List.mem_cons.mp hb with rfl | hb
        · exact Heap.lt_size he
        · obtain ⟨_, e1, _⟩ := hit
          rw [List.mem_singleton.mp hb]
          exact Heap.lt_size e1
      rw [upd_ne (Nat.ne_of_lt (Nat.lt_of_lt_of_le lb young))]
      exact (off b hb).1
  · rintro X rfl rfl rfl calm i pins s σ H E I0 off ⟨⟨old, he⟩, hit⟩ ⟨hx, rfl⟩
    obtain ⟨its, rel, tup, line⟩ := I0.tuple hx
    have na := apart hit tup
    have nea : e ≠ a := by
      rintro rfl
      obtain ⟨o', e2, c2, _⟩ := tup
      rw [he] at e2
      cases e2
      injection c2 with c2
      exact absurd c2 (by decide)
    have G := GoesN.enumFrom (elts := elts) (x1 := kk) (pos := tpos) 0 (Draws.tuple (prog := X.prog) (w := X.w) (A := X.A.in1) (I0.ok.hd calm) it a na its.toArray) e ne (by simp [ne, nea]) (by simp)
    have ex : xs.length = its.toArray.size := by rw [List.size_toArray, ← rel.length]
    rw [ex] at he hit
    exact G.stops s (fun s1 => Inv X pins σ H s1) E ⟨⟨old, he⟩, hit, tup⟩ fun h tk rest _ => I0.turnedL (t' := tk) (ch := [e, it]) (fun b o nb q => rest b o nb q) off
  · rintro A i s Q E ⟨⟨_, he⟩, _⟩ h
    exact wpAny_pyIter_enum he h
def iEnT (K : PySem.W.Frag) (ta : TA) : TI := fun σ H R => ta σ H fun vs H1 => ∃ a xs, vs = [.ref a] ∧ SqT K H1 a xs ∧ R (ItET K a xs) H1
theorem pi_enT {X : Cx} {e : Expr} {ta : TA} {p pos tpos : Pos} {elts : List Expr} {kk : Nat} (hg : Gl X "enumerate") (hm : X.mg "enumerate" = none) (ha : PA X [e] ta)
    (hs : starEach [e] X.env = [(false, eval e X.env)] := by rfl) : PI X (.Tuple elts kk tpos) (.Call (.Name "enumerate" p) [e] [] pos) (iEnT X.K ta) := by
  constructor
  intro pins s σ H R I h
  refine Call_ (ld_blt I hg hm boot_enumerate (PyProof.Rows.callWith_type1 (thn (ha.run pos pins s σ H _ I h) ?_) hs rfl))
  rintro us s1 ⟨vs, H1, I1, r1, a, xs, rfl, hx, q⟩
  obtain ⟨u, rfl, e⟩ := vals1 r1
  cases (show u = Value.ref a from e)
  obtain ⟨its, rel, tup, line⟩ := I1.tuple hx
  refine callType_new F.called_enumerate (by decide) (F.typeCall_enumerate_1 _) (F.newCall_enumerate_1 _) (fun obj => F.args_object_init_2 obj _) F.entry_enumerate_new (enum_makes (begins_tuple a its.toArray)) ⟨tup, ?_⟩
  have size : (s1.heap.push { cls := .type "tuple_iterator", data := .fields #[.ref a, .int 0 0] }).objs.size = s1.heap.objs.size + 1 := Heap.size_push ..
  have made : IsEnum ((s1.heap.push { cls := .type "tuple_iterator", data := .fields #[.ref a, .int 0 0] }).push { cls := .type "enumerate", data := .fields #[.none, .bool false, .ref s1.heap.objs.size, rawInt 0, .none, .none] }) (s1.heap.objs.size + 1) s1.heap.objs.size (0 + ((0 : Nat) : Int)) .none := by
    rw [← size]
    exact Heap.get?_push_size _ rfl
  have iter : ((s1.heap.push { cls := .type "tuple_iterator", data := .fields #[.ref a, .int 0 0] }).push { cls := .type "enumerate", data := .fields #[.none, .bool false, .ref s1.heap.objs.size, rawInt 0, .none, .none] }).IsTupleIter s1.heap.objs.size a 0 :=
    ⟨_, Heap.get?_push_of_some _ (Heap.get?_push_size _ rfl), rfl, rfl⟩
  show _ ∧ _
  rw [size]
  refine ⟨⟨_, made, rfl⟩, wpAny_pyIter_enum made ⟨s1.heap.objs.size + 1, _, _, _, H1, rfl, I1.kept (t' := s1.toks) (fun b o x => Heap.get?_push_of_some _ (Heap.get?_push_of_some _ x)), turnET a _ _ (Nat.succ_ne_self _), ⟨⟨.none, made⟩, iter⟩, ?_, q⟩⟩
  have young : ∀ k : Nat, FpOk X pins H1 (s1.heap.objs.size + k) := fun k => I1.fpOk (Nat.le_add_right _ _) (I1.hok.fresh (Nat.le_add_right _ _))
  simp only [List.forall_mem_cons]
  exact ⟨young 1, young 0, fun _ q => nomatch q⟩
theorem walkET {K : PySem.W.Frag} {a : Addr} {xs : List V} : Walk (ItET K a xs) xs.length (fun H => SqT K H a xs) (fun i H v H' => ∃ T x, v = .ref T ∧ H T = none ∧ xs[i]? = some x ∧ H' = upd H T (.tup [.int (i : Nat), x])) :=
  ⟨fun _ _ h q => ⟨q, h⟩, fun _ q => ⟨q, rfl⟩, fun _ _ _ _ _ _ h => h⟩
end Own

namespace Own
open PySem PySem.Spec PyProof.Rows L2 SX
/-! ### parts: (true, turn) for a blank, (false, text) for fixed letters side by side -/
abbrev Part := Bool × List Nat
def pstep (F : List Part) (x : List Nat) : List Part :=
  if 1 < x.length then F ++ [(true, x)] else
    match F.getLast? with
    | some (false, t) => F.dropLast ++ [(false, t ++ x)]
    | _ => F ++ [(false, x)]
def pL (its : List (List Nat)) : List Part := its.foldl pstep []
def tp (l : List (List Nat)) : List Part := if l = [] then [] else [(false, l.flatten)]
def NoTx (F : List Part) : Prop := ∀ t, F.getLast? ≠ some (false, t)
theorem pstep_blank {F : List Part} {x : List Nat} (h : 1 < x.length) : pstep F x = F ++ [(true, x)] := by unfold pstep; rw [if_pos h]
theorem pstep_on {F : List Part} {t x : List Nat} (h : ¬ 1 < x.length) : pstep (F ++ [(false, t)]) x = F ++ [(false, t ++ x)] := by
  unfold pstep
  rw [if_neg h, List.getLast?_concat]
  simp
theorem pstep_new {F : List Part} {x : List Nat} (h : ¬ 1 < x.length) (n : NoTx F) : pstep F x = F ++ [(false, x)] := by
  unfold pstep
  rw [if_neg h]
  split
  · rename_i t e
    exact absurd e (n t)
  · rfl
theorem fold_on {F : List Part} : ∀ (l : List (List Nat)) (t : List Nat), (∀ x ∈ l, ¬ 1 < x.length) → l.foldl pstep (F ++ [(false, t)]) = F ++ [(false, t ++ l.flatten)]
  | [], t, _ => by simp
  | x :: r, t, h => by
    rw [List.foldl_cons, pstep_on (h x (List.mem_cons_self ..)), fold_on r _ fun y hy => h y (List.mem_cons_of_mem _ hy)]
    simp
theorem fold_let {F : List Part} {l : List (List Nat)} (h : ∀ x ∈ l, ¬ 1 < x.length) (n : NoTx F) : l.foldl pstep F = F ++ tp l := by
  cases l with
  | nil => simp [tp]
  | cons x r =>
    rw [List.foldl_cons, pstep_new (h x (List.mem_cons_self ..)) n, fold_on r x fun y hy => h y (List.mem_cons_of_mem _ hy)]
    unfold tp
    rw [if_neg (by simp)]
    simp
theorem pL_snoc {its : List (List Nat)} {i : Nat} {x : List Nat} (h : its[i]? = some x) : pL (its.take (i + 1)) = pstep (pL (its.take i)) x := by
  unfold pL
  rw [List.take_add_one, h, List.foldl_append]
  rfl
/-- the items before place i are those before start and, from there on, letters -/
theorem pL_mid {its : List (List Nat)} {st i : Nat} (hs : st ≤ i) (n : NoTx (pL (its.take st))) (h : ∀ x ∈ (its.take i).drop st, ¬ 1 < x.length) : pL (its.take i) = pL (its.take st) ++ tp ((its.take i).drop st) := by
  rw [← fold_let h n]
  unfold pL
  rw [← List.foldl_append]
  congr 1
  have : its.take st = (its.take i).take st := by rw [List.take_take, Nat.min_eq_left hs]
  rw [this, List.take_append_drop]
theorem noTx_nil : NoTx [] := fun t h => by simp at h
theorem noTx_blank {F : List Part} {x : List Nat} : NoTx (F ++ [(true, x)]) := fun t h => by
  rw [List.getLast?_concat] at h
  cases h
theorem pL_len (its : List (List Nat)) : (pL its).length ≤ its.length := by
  unfold pL
  suffices ∀ (l : List (List Nat)) (F : List Part), (l.foldl pstep F).length ≤ F.length + l.length by simpa using this its []
  intro l
  induction l with
  | nil => intro F; simp
  | cons x r ih =>
    intro F
    refine Nat.le_trans (ih (pstep F x)) ?_
    have : (pstep F x).length ≤ F.length + 1 := by
      unfold pstep
      split
      · simp
      · split
        · rename_i t e
          have : F ≠ [] := fun h => by rw [h] at e; simp at e
          have := List.length_pos_iff.mpr this
          simp only [List.length_append, List.length_dropLast, List.length_singleton]
          omega
        · simp
    rw [List.length_cons]
    omega
/-! ### parts as they lie -/
def kd (b : Bool) : V := .str (Str.ofString (if b then "blank" else "text"))
inductive PsA (H : Hp) : List Addr → List Part → Prop
  | nil : PsA H [] []
  | cons {a : Addr} {p : Part} {as : List Addr} {ps : List Part} : H a = some (.tup [kd p.1, tx p.2]) → PsA H as ps → PsA H (a :: as) (p :: ps)
theorem PsA.same {H H' : Hp} (s : Same H H') {as : List Addr} {ps : List Part} (h : PsA H as ps) : PsA H' as ps := by
  induction h with
  | nil => exact .nil
  | cons h _ ih => exact .cons (s _ _ h) ih
theorem PsA.put {H : Hp} {D : Addr} {xs ys : List V} (hD : H D = some (.lst xs)) {as : List Addr} {ps : List Part} (h : PsA H as ps) : PsA (upd H D (.lst ys)) as ps := by
  induction h with
  | nil => exact .nil
  | cons h _ ih => exact .cons (by rw [upd_ne (ne_of h hD fun e => by cases e)]; exact h) ih
theorem PsA.app {H : Hp} {as bs : List Addr} {ps qs : List Part} (h : PsA H as ps) (h' : PsA H bs qs) : PsA H (as ++ bs) (ps ++ qs) := by
  induction h with
  | nil => exact h'
  | cons h _ ih => exact .cons h ih
theorem PsA.len {H : Hp} {as : List Addr} {ps : List Part} (h : PsA H as ps) : as.length = ps.length := by
  induction h with
  | nil => rfl
  | cons _ _ ih => rw [List.length_cons, List.length_cons, ih]
theorem PsA.one {H : Hp} {a : Addr} {p : Part} (h : H a = some (.tup [kd p.1, tx p.2])) : PsA H [a] [p] := .cons h .nil
theorem PsA.get {H : Hp} {as : List Addr} {ps : List Part} (h : PsA H as ps) : ∀ (i : Nat) (a : Addr) (p : Part), as[i]? = some a → ps[i]? = some p → H a = some (.tup [kd p.1, tx p.2]) := by
  induction h with
  | nil => intro i a p h; simp at h
  | cons h _ ih =>
    intro i a p ha hp
    cases i with
    | zero => cases ha; cases hp; exact h
    | succ i => exact ih i a p ha hp
/-- the last one apart -/
theorem PsA.last {H : Hp} {as : List Addr} {F : List Part} {p : Part} (h : PsA H as (F ++ [p])) : ∃ bs a, as = bs ++ [a] ∧ PsA H bs F ∧ H a = some (.tup [kd p.1, tx p.2]) := by
  induction F generalizing as with
  | nil =>
    cases h with
    | cons h r =>
      cases r
      exact ⟨[], _, rfl, .nil, h⟩
  | cons q F ih =>
    cases h with
    | cons h r =>
      obtain ⟨bs, a, rfl, h1, h2⟩ := ih r
      exact ⟨_ :: bs, a, rfl, .cons h h1, h2⟩
/-- a list of parts at l -/
def PsL (H : Hp) (l : Addr) (ps : List Part) : Prop := ∃ as, H l = some (.lst (as.map V.ref)) ∧ PsA H as ps
theorem PsL.same {H H' : Hp} {l : Addr} {ps : List Part} (h : PsL H l ps) (s : Same H H') : PsL H' l ps := let ⟨as, h1, h2⟩ := h; ⟨as, s _ _ h1, h2.same s⟩
/-- two lists of the same parts are the same data -/
theorem PsL.eqd {K : PySem.W.Frag} {H : Hp} {n : Nat} {l l' : Addr} {ps : List Part} (h : PsL H l ps) (h' : PsL H l' ps) (hl : ps.length ≤ 1000) : Eqd K H (n + 3) (.ref l) (.ref l') := by
  obtain ⟨as, h1, h2⟩ := h
  obtain ⟨bs, h3, h4⟩ := h'
  refine Or.inr ⟨l, l', _, _, rfl, rfl, .inl ⟨.inl (.inl h1), .inl (.inl h3)⟩, by rw [List.length_map, h2.len]; exact hl, by rw [List.length_map, List.length_map, h2.len, h4.len], fun i u v hu hv => ?_⟩
  rw [List.getElem?_map] at hu hv
  obtain ⟨a, ha, rfl⟩ := Option.map_eq_some_iff.mp hu
  obtain ⟨b, hb, rfl⟩ := Option.map_eq_some_iff.mp hv
  have hi : i < ps.length := by rw [← h2.len]; exact (List.getElem?_eq_some_iff.mp ha).1
  have hp := List.getElem?_eq_getElem hi
  exact Eqd.tup (n := n) (h2.get i a _ ha hp) (h4.get i b _ hb hp) (by show 2 ≤ 1000; decide) (by intro x hx; simp only [List.mem_cons, List.not_mem_nil, or_false] at hx; rcases hx with e | e <;> (rw [e]; trivial))
/-! ### parts as data -/
def pd (p : Part) : PyData := .tuple [.str (Str.ofString (if p.1 then "blank" else "text")), .str (S p.2)]
def PlainP (ps : List Part) : Prop := ∀ p ∈ ps, ∀ k ∈ p.2, k < 128
theorem dp_ps {K : PySem.W.Frag} {H : Hp} {as : List Addr} {ps : List Part} (h : PsA H as ps) : DpAll K H (as.map V.ref) (ps.map pd) := by
  induction h with
  | nil => exact .nil
  | cons h _ ih => exact .cons (.tup (.inl (.inl h)) (.cons (.str _) (.cons (.str _) .nil))) ih
theorem lay_str {c : List Nat} (h : ∀ k ∈ c, k < 128) : PyData.canLay0 (.str (S c)) = true := by
  have := lay_tx [c] (fun x hx k hk => by rw [List.mem_singleton.mp hx] at hk; exact h k hk)
  show ((c.toArray).all (fun k => decide (k < 1114112))) = true
  rw [List.all_toArray, List.all_eq_true]
  intro k hk
  have := h k hk
  exact decide_eq_true (show k < 1114112 by omega)
theorem lay_ps : ∀ ps : List Part, PlainP ps → PyData.canLayAll0 (ps.map pd) = true
  | [], _ => rfl
  | p :: r, h => by
    show (PyData.canLay0 (pd p) && PyData.canLayAll0 (r.map pd)) = true
    rw [lay_ps r fun x hx => h x (List.mem_cons_of_mem _ hx), Bool.and_true]
    show ((PyData.canLay0 (.str (Str.ofString (if p.1 then "blank" else "text")))) && (PyData.canLay0 (.str (S p.2)) && true)) = true
    rw [lay_str (h p (List.mem_cons_self ..))]
    cases p.1 <;> decide +kernel
theorem dep_ps : ∀ ps : List Part, PyData.depthAll (ps.map pd) ≤ 1
  | [] => Nat.zero_le _
  | p :: r => by
    show max (PyData.depth (pd p)) (PyData.depthAll (r.map pd)) ≤ 1
    have h1 : PyData.depth (pd p) = 1 := rfl
    have := dep_ps r
    omega
theorem shp_ps {ps : List Part} (h : PlainP ps) : SeqAt.shaped (.list (ps.map pd)) = true := by
  unfold SeqAt.shaped
  show (PyData.canLayAll0 (ps.map pd) && decide (PyData.depthAll (ps.map pd) + 1 ≤ 64)) = true
  rw [lay_ps ps h, decide_eq_true (by have := dep_ps ps; omega)]
  rfl
theorem eqv_ps {ps : List Part} : PyData.eqv (.list (ps.map pd)) (.list []) = decide (ps = []) := by
  cases ps with
  | nil => rfl
  | cons p r =>
    rw [decide_eq_false (fun e => by cases e)]
    rfl
theorem plain_step {F : List Part} {x : List Nat} (h : PlainP F) (hx : ∀ k ∈ x, k < 128) : PlainP (pstep F x) := by
  unfold pstep
  split
  · intro p hp k hk
    rcases List.mem_append.mp hp with e | e
    · exact h p e k hk
    · rw [List.mem_singleton.mp e] at hk
      exact hx k hk
  · split
    · rename_i t e
      intro p hp k hk
      rcases List.mem_append.mp hp with e' | e'
      · exact h p (List.dropLast_subset _ e') k hk
      · rw [List.mem_singleton.mp e'] at hk
        rcases List.mem_append.mp hk with hk | hk
        · exact h (false, t) (List.mem_of_getLast? e) k hk
        · exact hx k hk
    · intro p hp k hk
      rcases List.mem_append.mp hp with e | e
      · exact h p e k hk
      · rw [List.mem_singleton.mp e] at hk
        exact hx k hk
theorem plain_pL {its : List (List Nat)} (h : Plain its) : PlainP (pL its) := by
  unfold pL
  suffices ∀ (l : List (List Nat)) (F : List Part), Plain l → PlainP F → PlainP (l.foldl pstep F) from this its [] h (fun p hp => nomatch hp)
  intro l
  induction l with
  | nil => intro F _ h; exact h
  | cons x r ih => intro F hl hF; exact ih _ (fun y hy => hl y (List.mem_cons_of_mem _ hy)) (plain_step hF (hl x (List.mem_cons_self ..)))
/-- how long a text part may be -/
def ShortP (n : Nat) (ps : List Part) : Prop := ∀ p ∈ ps, p.2.length ≤ n
theorem short_step {F : List Part} {x : List Nat} {n m : Nat} (h : ShortP n F) (hx : x.length ≤ m) : ShortP (n + m) (pstep F x) := by
  unfold pstep
  split
  · intro p hp
    rcases List.mem_append.mp hp with e | e
    · have := h p e; omega
    · rw [List.mem_singleton.mp e]; show x.length ≤ _; omega
  · split
    · rename_i t e
      intro p hp
      rcases List.mem_append.mp hp with e' | e'
      · have := h p (List.dropLast_subset _ e'); omega
      · rw [List.mem_singleton.mp e']
        have := h (false, t) (List.mem_of_getLast? e)
        show (t ++ x).length ≤ _
        rw [List.length_append]
        have : t.length ≤ n := this
        omega
    · intro p hp
      rcases List.mem_append.mp hp with e | e
      · have := h p e; omega
      · rw [List.mem_singleton.mp e]; show x.length ≤ _; omega
theorem ix_last {n : Nat} : ixN (n + 1) (-1) = some n := by
  unfold ixN
  simp
  omega
theorem small_log {n : Nat} (h : n < 101) : ((n : Nat) : Int).natAbs.log2 < 1920 := by
  rw [Int.natAbs_natCast]
  by_cases h0 : n = 0
  · rw [h0]; decide
  · exact (Nat.log2_lt h0).mpr (Nat.lt_of_lt_of_le h (by decide))
theorem len_app (a b : Str) : (a ++ b).length = a.length + b.length := Array.size_append
theorem app_app (a b c : Str) : a ++ b ++ c = a ++ (b ++ c) := by
  show (⟨a.cps ++ b.cps ++ c.cps⟩ : Str) = ⟨a.cps ++ (b.cps ++ c.cps)⟩
  rw [Array.append_assoc]
theorem emp_app (a : Str) : Str.empty ++ a = a := by
  show (⟨#[] ++ a.cps⟩ : Str) = a
  rw [Array.empty_append]
theorem tos_all : ∀ n ∈ List.range 101, (toString ((n : Nat) : Int) : Str).length ≤ 3 := by decide +kernel
theorem tos_len {n : Nat} (h : n < 101) : (toString ((n : Nat) : Int) : Str).length ≤ 3 := tos_all n (List.mem_range.mpr h)
/-! ### promises -/
def spTp (K : PySem.W.Frag) : Sp := fun vs H Q _ => ∃ (a : Addr) (its : List (List Nat)), vs = [.ref a] ∧ SqT K H a (its.map tx) ∧ its.length ≤ 900 ∧ (∀ x ∈ its, x.length ≤ 900) ∧ ∀ H' l, Same H H' → H l = none → PsL H' l (tp its) → Q (.ref l) H'
def spRp (K : PySem.W.Frag) : Sp := fun vs H Q _ => ∃ (a : Addr) (its : List (List Nat)), vs = [.ref a] ∧ SqT K H a (its.map tx) ∧ its.length ≤ 900 ∧ (∀ x ∈ its, x.length ≤ 900) ∧ ∀ H' l, Same H H' → H l = none → PsL H' l (pL its) → Q (.ref l) H'
def spPa (C : Addr) : Sp := fun vs H Q _ => ∃ (a : Addr) (gs : List Nat) (its : List (List Nat)), vs = [.ref a] ∧ Tm C H a gs its ∧ its.length ≤ 900 ∧ (∀ x ∈ its, x.length ≤ 900) ∧ ∀ H' l, Same H H' → H l = none → PsL H' l (pL its) → Q (.ref l) H'
def spLe (C : Addr) : Sp := fun vs H Q _ => ∃ (a : Addr) (gs : List Nat) (its : List (List Nat)), vs = [.ref a] ∧ Tm C H a gs its ∧ its.length ≤ 900 ∧ (∀ x ∈ its, x.length ≤ 900) ∧ ∀ H', Same H H' → Q (.int ((pL its).length : Nat)) H'
def spLr (C : Addr) : Sp := fun vs H Q _ => ∃ (a : Addr) (gs : List Nat) (its : List (List Nat)), vs = [.ref a] ∧ Tm C H a gs its ∧ Q (tx gs) H
/-- what repr tells -/
def repS (b n : Nat) : Str := Str.empty ++ Str.ofString "Template(" ++ toString ((b : Nat) : Int) ++ Str.ofString " blanks, " ++ toString ((n : Nat) : Int) ++ Str.ofString " letters)"
def spRe (C : Addr) : Sp := fun vs H Q _ => ∃ (a : Addr) (gs : List Nat) (its : List (List Nat)), vs = [.ref a] ∧ Tm C H a gs its ∧ its.length ≤ 100 ∧ (∀ x ∈ its, x.length ≤ 900) ∧ ∀ H', Same H H' → Q (.str (repS (nBl its) (nLt its))) H'
def spLpa (K : PySem.W.Frag) : Sp := fun vs H Q _ => ∃ (a : Addr) (its : List (List Nat)), vs = [.ref a] ∧ SqL K H a (its.map tx) ∧ its.length ≤ 100 ∧ (∀ x ∈ its, 0 < x.length ∧ x.length ≤ 4) ∧ Plain its ∧ ∀ H' l, Same H H' → H l = none → PsL H' l (pL its) → Q (.ref l) H'
end Own

namespace Own
open PySem PySem.Spec PyProof.Rows L2 SX
/-! ### texts of templates that cannot be read -/
/-- neither a letter nor a whole blank begins here -/
def Stuck (gs rest : List Nat) : Prop := rest ≠ [] ∧ (∀ c r, rest = c :: r → c ∉ gs) ∧ (∀ post, rest ≠ [123, 125] ++ post) ∧ ∀ x post, rest = [123] ++ x ++ [125] ++ post → ¬ x.Perm gs
/-- the first character that cannot stand there -/
def Fault (gs t : List Nat) (n : Nat) : Prop := t ≠ [45] ∧ ((t = [] ∧ n = 0) ∨ ∃ its zs rest, Forms gs its zs ∧ t = zs.flatten ++ rest ∧ Stuck gs rest ∧ n = zs.flatten.length)
theorem forms_snoc {gs : List Nat} {its zs : List (List Nat)} {x z : List Nat} (h : Forms gs its zs) (hx : Form gs x z) : Forms gs (its ++ [x]) (zs ++ [z]) := by
  induction h with
  | nil => exact .cons hx .nil
  | cons h _ ih => exact .cons h ih
theorem flat_snoc (zs : List (List Nat)) (z : List Nat) : (zs ++ [z]).flatten = zs.flatten ++ z := by simp
/-- what begins at a place -/
theorem begins (gs rest : List Nat) : rest = [] ∨ (∃ c r, rest = c :: r ∧ c ∈ gs) ∨ ((∀ c r, rest = c :: r → c ∉ gs) ∧ ∃ post, rest = [123, 125] ++ post) ∨
    ((∀ c r, rest = c :: r → c ∉ gs) ∧ ∃ x post, rest = [123] ++ x ++ [125] ++ post ∧ x.Perm gs) ∨ Stuck gs rest := by
  by_cases h0 : rest = []
  · exact .inl h0
  by_cases h1 : ∃ c r, rest = c :: r ∧ c ∈ gs
  · exact .inr (.inl h1)
  have n1 : ∀ c r, rest = c :: r → c ∉ gs := fun c r e h => h1 ⟨c, r, e, h⟩
  by_cases h2 : ∃ post, rest = [123, 125] ++ post
  · exact .inr (.inr (.inl ⟨n1, h2⟩))
  by_cases h3 : ∃ x post, rest = [123] ++ x ++ [125] ++ post ∧ x.Perm gs
  · exact .inr (.inr (.inr (.inl ⟨n1, h3⟩)))
  exact .inr (.inr (.inr (.inr ⟨h0, n1, fun post e => h2 ⟨post, e⟩, fun x post e p => h3 ⟨x, post, e, p⟩⟩)))
/-- a text is read to its end, or up to a fault -/
theorem parse (gs : List Nat) : ∀ (n : Nat) (t : List Nat), t.length ≤ n → ∃ its zs rest, Forms gs its zs ∧ t = zs.flatten ++ rest ∧ (rest = [] ∨ Stuck gs rest) := by
  intro n
  induction n with
  | zero =>
    intro t h
    exact ⟨[], [], [], .nil, List.length_eq_zero_iff.mp (Nat.le_zero.mp h), .inl rfl⟩
  | succ n ih =>
    intro t h
    have go : ∀ (x z post : List Nat), t = z ++ post → 0 < z.length → Form gs x z → ∃ its zs rest, Forms gs its zs ∧ t = zs.flatten ++ rest ∧ (rest = [] ∨ Stuck gs rest) := by
      intro x z post e hz hf
      rw [e, List.length_append] at h
      obtain ⟨its, zs, rest, h1, h2, h3⟩ := ih post (by omega)
      exact ⟨x :: its, z :: zs, rest, .cons hf h1, by rw [e, h2]; simp, h3⟩
    rcases begins gs t with e | ⟨c, r, e, hc⟩ | ⟨_, post, e⟩ | ⟨_, x, post, e, hp⟩ | hs
    · exact ⟨[], [], [], .nil, e, .inl rfl⟩
    · exact go [c] [c] r e Nat.one_pos (.one hc)
    · exact go gs [123, 125] post e (by decide) .plain
    · exact go x ([123] ++ x ++ [125]) post e (by simp) (.turn hp)
    · exact ⟨[], [], t, .nil, rfl, .inr hs⟩
theorem reads (gs t : List Nat) : (∃ its, Rd gs its t) ∨ ∃ n, Fault gs t n := by
  by_cases h0 : t = [45]
  · exact .inl ⟨[], .inl ⟨rfl, h0⟩⟩
  by_cases h1 : t = []
  · exact .inr ⟨0, h0, .inl ⟨h1, rfl⟩⟩
  obtain ⟨its, zs, rest, h2, h3, h4⟩ := parse gs t.length t (Nat.le_refl _)
  rcases h4 with e | hs
  · rw [e, List.append_nil] at h3
    refine .inl ⟨its, .inr ⟨fun e => ?_, zs, h2, h3⟩⟩
    subst e
    cases h2
    exact h1 h3
  · exact .inr ⟨_, h0, .inr ⟨its, zs, rest, h2, h3, hs, rfl⟩⟩
theorem cut_rest {pre rest : List Nat} {i j : Int} {a b : Nat} (h1 : i = ((pre.length + a : Nat) : Int)) (h2 : j = ((pre.length + b : Nat) : Int)) : Txt.slice (S (pre ++ rest)) (some i) (some j) = S ((rest.take b).drop a) := by
  rw [h1, h2, slice_mid, List.take_length_add_append, List.drop_length_add_append]
theorem good_valid {gs : List Nat} (v : Valid gs) : Good gs := ⟨v.lo, v.hi, v.nd, v.az⟩
theorem valid_good {gs : List Nat} (v : Good gs) : Valid gs := ⟨v.lo, v.hi, v.az, v.nd⟩
/-- up to the first closing brace -/
theorem cut125 : ∀ r : List Nat, 125 ∉ r ∨ ∃ body post, r = body ++ 125 :: post ∧ 125 ∉ body
  | [] => .inl (fun h => nomatch h)
  | c :: r => by
    by_cases hc : c = 125
    · exact .inr ⟨[], r, by rw [hc]; rfl, fun h => nomatch h⟩
    · rcases cut125 r with h | ⟨body, post, e, h⟩
      · exact .inl (fun m => (List.mem_cons.mp m).elim (fun e => hc e.symm) h)
      · exact .inr ⟨c :: body, post, by rw [e]; rfl, fun m => (List.mem_cons.mp m).elim (fun e => hc e.symm) h⟩
theorem cut_one {a b p q : List Nat} (ha : 125 ∉ a) (hb : 125 ∉ b) (e : a ++ 125 :: p = b ++ 125 :: q) : a = b := by
  induction a generalizing b with
  | nil =>
    cases b with
    | nil => rfl
    | cons y b => exact absurd (List.cons.inj e).1 (fun h => hb (h ▸ List.mem_cons_self ..))
  | cons x a ih =>
    cases b with
    | nil => exact absurd (List.cons.inj e).1 (fun h => ha (h ▸ List.mem_cons_self ..))
    | cons y b =>
      obtain ⟨e1, e2⟩ := List.cons.inj e
      rw [e1, ih (fun m => ha (List.mem_cons_of_mem _ m)) (fun m => hb (List.mem_cons_of_mem _ m)) e2]
theorem stuck_by {gs : List Nat} (hg : Good gs) {c : Nat} {r : List Nat} (hc : c ∉ gs) (h : c ≠ 123 ∨ 125 ∉ r ∨ ∃ body post, r = body ++ 125 :: post ∧ 125 ∉ body ∧ body ≠ [] ∧ ¬ body.Perm gs) : Stuck gs (c :: r) := by
  have n125 : 125 ∉ gs := fun h => by have := hg.az _ h; omega
  refine ⟨List.cons_ne_nil _ _, (fun c' r' e => (List.cons.inj e).1 ▸ hc), fun post e => ?_, fun x post e p => ?_⟩
  · obtain ⟨e1, e2⟩ := List.cons.inj (show c :: r = 123 :: 125 :: post from e)
    rcases h with h | h | ⟨body, post', er, hb, hne, _⟩
    · exact h e1
    · exact h (by rw [e2]; exact List.mem_cons_self ..)
    · exact hne (cut_one hb (fun h => nomatch h) (p := post') (q := post) (by rw [← er, e2]; rfl))
  · obtain ⟨e1, e2⟩ := List.cons.inj (show c :: r = 123 :: (x ++ [125] ++ post) by rw [e]; simp)
    have nx : 125 ∉ x := fun m => n125 (p.mem_iff.mp m)
    rcases h with h | h | ⟨body, post', er, hb, _, hn⟩
    · exact h e1
    · exact h (by rw [e2]; simp)
    · have := cut_one hb nx (p := post') (q := post) (by rw [← er, e2]; simp)
      exact hn (this ▸ p)
/-- a fault is one place -/
theorem forms_cut {gs : List Nat} (hg : Good gs) : ∀ {its zs : List (List Nat)} {jts ys : List (List Nat)} {rest rest' : List Nat}, Forms gs its zs → Forms gs jts ys → zs.flatten ++ rest = ys.flatten ++ rest' → (rest = [] ∨ Stuck gs rest) → (rest' = [] ∨ Stuck gs rest') → zs.flatten = ys.flatten := by
  have n123 : 123 ∉ gs := fun h => by have := hg.az _ h; omega
  have n125 : 125 ∉ gs := fun h => by have := hg.az _ h; omega
  -- a form at the beginning is no stuck place
  have no : ∀ {x z r rest : List Nat}, Form gs x z → rest = z ++ r → (rest = [] ∨ Stuck gs rest) → False := by
    intro x z r rest hf e h
    rcases h with h | ⟨_, h1, h2, h3⟩
    · rw [h] at e
      exact form_ne hf (List.append_eq_nil_iff.mp e.symm).1
    · cases hf with
      | one hc => exact h1 _ _ e hc
      | turn p => exact h3 x r (by rw [e]) p
      | plain => exact h2 r e
  have len : ∀ {x z x' z' r r' : List Nat}, Form gs x z → Form gs x' z' → z ++ r = z' ++ r' → z = z' := by
    intro x z x' z' r r' h h' e
    cases h with
    | one hc =>
      cases h' with
      | one hc' => rw [(List.cons.inj (show _ :: _ = _ :: _ from e)).1]
      | turn p => exact absurd ((List.cons.inj (show _ :: r = 123 :: _ from e)).1 ▸ hc) n123
      | plain => exact absurd ((List.cons.inj (show _ :: r = 123 :: _ from e)).1 ▸ hc) n123
    | turn p =>
      have nx : 125 ∉ x := fun m => n125 (p.mem_iff.mp m)
      cases h' with
      | one hc' => exact absurd ((List.cons.inj (show 123 :: _ = _ :: r' from e)).1 ▸ hc') n123
      | turn p' =>
        have nx' : 125 ∉ x' := fun m => n125 (p'.mem_iff.mp m)
        have e2 : x ++ 125 :: r = x' ++ 125 :: r' := by simpa using e
        rw [cut_one nx nx' e2]
      | plain =>
        have e2 : x ++ 125 :: r = [] ++ 125 :: r' := by simpa using e
        have := cut_one nx List.not_mem_nil e2
        rw [this]
        rfl
    | plain =>
      cases h' with
      | one hc' => exact absurd ((List.cons.inj (show 123 :: _ = _ :: r' from e)).1 ▸ hc') n123
      | turn p' =>
        have nx' : 125 ∉ x' := fun m => n125 (p'.mem_iff.mp m)
        have e2 : [] ++ 125 :: r = x' ++ 125 :: r' := by simpa using e
        have := cut_one List.not_mem_nil nx' e2
        rw [← this]
        rfl
      | plain => rfl
  intro its zs jts ys rest rest' h
  induction h generalizing jts ys with
  | nil =>
    intro h' e hr hr'
    cases h' with
    | nil => rfl
    | cons a b => exact (no a (by rw [show rest = [] ++ rest from rfl]; simpa using e) hr).elim
  | cons a b ih =>
    intro h' e hr hr'
    cases h' with
    | nil => exact (no a (by simpa using e.symm) hr').elim
    | cons a' b' =>
      rw [List.flatten_cons, List.flatten_cons, List.append_assoc, List.append_assoc] at e
      have ez := len a a' e
      subst ez
      rw [List.flatten_cons, List.flatten_cons, ih b' (List.append_cancel_left e) hr hr']
theorem fault_one {gs t : List Nat} (hg : Good gs) {n m : Nat} (h : Fault gs t n) (h' : Fault gs t m) : n = m := by
  obtain ⟨_, ⟨e, rfl⟩ | ⟨its, zs, rest, h1, h2, h3, rfl⟩⟩ := h
  · obtain ⟨_, ⟨_, rfl⟩ | ⟨its, zs, rest, h1, h2, h3, rfl⟩⟩ := h'
    · rfl
    · rw [e] at h2
      exact absurd (List.append_eq_nil_iff.mp h2.symm).2 h3.1
  · obtain ⟨_, ⟨e, rfl⟩ | ⟨its', zs', rest', k1, k2, k3, rfl⟩⟩ := h'
    · rw [e] at h2
      exact absurd (List.append_eq_nil_iff.mp h2.symm).2 h3.1
    · rw [forms_cut hg h1 k1 (h2.symm.trans k2) (.inr h3) (.inr k3)]
theorem no_both {gs t : List Nat} (hg : Good gs) {its : List (List Nat)} {n : Nat} (h : Rd gs its t) (h' : Fault gs t n) : False := by
  obtain ⟨nt, h'⟩ := h'
  rcases h with ⟨_, e⟩ | ⟨hne, zs, hf, e⟩
  · exact nt e
  · rcases h' with ⟨e', _⟩ | ⟨its', zs', rest, h1, h2, h3, _⟩
    · cases hf with
      | nil => exact hne rfl
      | cons a _ =>
        rw [e', List.flatten_cons] at e
        exact form_ne a (List.append_eq_nil_iff.mp e.symm).1
    · have e2 := forms_cut hg hf h1 (rest := []) (by rw [List.append_nil, ← e, h2]) (.inl rfl) (.inr h3)
      rw [e, e2] at h2
      have : rest = [] := by
        have := congrArg List.length h2
        rw [List.length_append] at this
        exact List.length_eq_zero_iff.mp (by omega)
      exact h3.1 this
/-! ### promises -/
def spLfa : Sp := fun vs H Q _ => ∃ (gs t : List Nat), vs = [tx gs, tx t] ∧ Good gs ∧ t.length ≤ 1000 ∧ ((∃ its, Rd gs its t) → ∀ H', Same H H' → Q (.int (-1)) H') ∧ ∀ n, Fault gs t n → ∀ H', Same H H' → Q (.int (n : Nat)) H'
def spBw0 : Sp := fun vs H Q _ => ∃ (gs pre rest : List Nat), vs = [tx gs, tx (pre ++ rest), .int (pre.length : Int)] ∧ Good gs ∧ (pre ++ rest).length ≤ 1000 ∧ (∀ c ∈ rest, c < 128) ∧ Stuck gs rest ∧ ∀ H', Same H H' → Q (.int 0) H'
def spRdX (C : Addr) : Sp := fun vs H Q E => ∃ (gs t : List Nat), vs = [tx gs, tx t] ∧ Good gs ∧ t.length ≤ 1000 ∧ (∀ c ∈ t, c < 128) ∧
  (∀ its, Rd gs its t → ∀ H' p, Same H H' → H p = none → H' p = some (.lst (its.map tx)) → Q (.ref p) H') ∧
  ∀ n, Fault gs t n → ∀ H' d, Same H H' → H' d = some (.xd [("position", .int (n : Nat)), ("code", .str "ParseError")]) → E (.ref C) (some d) H'
def spTiX (C CP CI : Addr) : Sp := fun vs H Q E => ∃ (x dx : Addr) (gs t : List Nat), vs = [.ref x, tx gs, tx t] ∧ H x = some (.ins C dx []) ∧ gs.length ≤ 1000 ∧ t.length ≤ 1000 ∧ (∀ c ∈ t, c < 128) ∧
  (Good gs → ∀ its, Rd gs its t → ∀ H', (∀ b o, b ≠ x → H b = some o → H' b = some o) → Tm C H' x gs its → Q .non H') ∧
  (Good gs → ∀ n, Fault gs t n → ∀ H' d, (∀ b o, b ≠ x → H b = some o → H' b = some o) → H' d = some (.xd [("position", .int (n : Nat)), ("code", .str "ParseError")]) → E (.ref CP) (some d) H') ∧
  (¬ Valid gs → ∀ H' d, (∀ b o, b ≠ x → H b = some o → H' b = some o) → H' d = some (.xd [("code", .str "InvalidLetters")]) → E (.ref CI) (some d) H')
theorem part_of (r : List Nat) : ∃ b e q, Txt.partition (S r) (S [125]) = (S b, S e, S q) ∧ b.length ≤ r.length ∧ ((125 ∉ r ∧ e = []) ∨ (r = b ++ 125 :: q ∧ 125 ∉ b ∧ e = [125])) := by
  rcases cut125 r with h | ⟨b, q, e, h⟩
  · exact ⟨r, [], [], TL.partition_none (s := 125) (S := []) rfl h, Nat.le_refl _, .inl ⟨h, rfl⟩⟩
  · refine ⟨b, [125], q, ?_, by rw [e, List.length_append]; omega, .inr ⟨e, h, rfl⟩⟩
    have e2 : S r = S b ++ S [125] ++ S q := by
      rw [show S b ++ S [125] = S (b ++ [125]) from S_cat _ _, show S (b ++ [125]) ++ S q = S (b ++ [125] ++ q) from S_cat _ _, e]
      simp
    rw [e2]
    exact TL.partition_app (s := 125) (S := []) rfl h
theorem both {t1 t3 : TE} {σ : L2.St} {H : Hp} {Q : VK} {b1 b3 : Bool} (h1 : ∀ k : VK, k (.bl b1) H → t1 σ H k)
    (h3 : ∀ k : VK, (∀ H', Same H H' → k (.bl b3) H') → t3 σ H k) (q : ∀ H', Same H H' → Q (.bl (b1 && b3)) H') : tAndV t1 t3 σ H Q := by
  refine h1 _ ⟨b1, rfl, ?_⟩
  cases b1 with
  | false => exact iteF (q _ (Same.refl _))
  | true => exact iteT (h3 _ fun H' s => q _ s)
theorem pe_or {X : Cx} {e : Expr} {t1 t2 : TE} (h1 : PE X e t1) (h2 : PE X e t2) : PE X e (fun σ H Q => t1 σ H Q ∨ t2 σ H Q) :=
  ⟨fun pins s σ H Q I h => h.elim (h1.run pins s σ H Q I) (h2.run pins s σ H Q I)⟩
end Own

namespace Own
open PySem PySem.Spec PyProof.Rows L2 SX PySem.StrLaws
/-! ### t.replace("{" + letters + "}", "{}") of a text that can be read is the text in its shortest form -/
abbrev wide1 (gs : List Nat) : List Nat := 123 :: (gs ++ [125])
theorem repl_skip {gs z : List Nat} : ∀ (x r : List Nat), 123 ∉ x → replL (wide1 gs) z (x ++ r) = x ++ replL (wide1 gs) z r
  | [], r, _ => rfl
  | c :: x, r, h => by
    rw [List.cons_append, replL_miss (fun e => h ?_), repl_skip x r (fun m => h (List.mem_cons_of_mem _ m))]
    · rfl
    · have : c = 123 := (List.cons.inj (show c :: _ = 123 :: _ from e)).1
      rw [this]
      exact List.mem_cons_self ..
theorem repl_form {gs x f : List Nat} (hg : Good gs) (h : Form gs x f) (r : List Nat) : replL (wide1 gs) [123, 125] (f ++ r) = iTx gs x ++ replL (wide1 gs) [123, 125] r := by
  have n123 : 123 ∉ gs := fun h => by have := hg.az _ h; omega
  have n125 : 125 ∉ gs := fun h => by have := hg.az _ h; omega
  have hlo := hg.lo
  have e1 : 1 < gs.length := by omega
  cases h with
  | @one c hc =>
    have e : iTx gs [c] = [c] := by unfold iTx; rw [if_neg (by show ¬ 1 < 1; omega)]
    rw [e]
    exact repl_skip [c] r (fun m => n123 (by rw [List.mem_singleton.mp m]; exact hc))
  | plain =>
    have e : iTx gs gs = [123, 125] := by unfold iTx; rw [if_pos e1, if_pos rfl]
    obtain ⟨g, gr, eg⟩ := List.exists_cons_of_ne_nil (List.length_pos_iff.mp (show 0 < gs.length by omega))
    rw [e, show [123, 125] ++ r = 123 :: (125 :: r) from rfl, replL_miss (fun e => ?_), show (125 :: r : List Nat) = [125] ++ r from rfl, repl_skip [125] r (by decide)]
    · rfl
    · rw [eg] at e
      have := (List.cons.inj (List.cons.inj (show 123 :: 125 :: _ = 123 :: g :: _ from e)).2).1
      exact n125 (by rw [eg, this]; exact List.mem_cons_self ..)
  | turn p =>
    have hxl := p.length_eq
    have hx : 1 < x.length := by omega
    have nx : 123 ∉ x := fun m => n123 (p.mem_iff.mp m)
    have ef : [123] ++ x ++ [125] ++ r = 123 :: (x ++ [125] ++ r) := by simp
    have et : (123 :: (x ++ [125] ++ r)).take (wide1 gs).length = 123 :: (x ++ [125]) := by
      have el : (gs ++ [125]).length = (x ++ [125]).length := by rw [List.length_append, List.length_append, hxl]
      have e2 : (x ++ [125] ++ r).take (gs ++ [125]).length = x ++ [125] := by
        rw [el]
        exact List.take_left' rfl
      show 123 :: (x ++ [125] ++ r).take (gs ++ [125]).length = _
      rw [e2]
    by_cases e : x = gs
    · have ei : iTx gs x = [123, 125] := by unfold iTx; rw [if_pos hx, if_pos e]
      rw [ei, ef, replL_hit (List.cons_ne_nil _ _) (by rw [et, e])]
      congr 2
      show (x ++ [125] ++ r).drop (gs ++ [125]).length = r
      rw [← e]; exact List.drop_left' rfl
    · have ei : iTx gs x = [123] ++ x ++ [125] := by unfold iTx; rw [if_pos hx, if_neg e]
      rw [ei, ef, replL_miss (fun h => e ?_), repl_skip (x ++ [125]) r (fun m => (List.mem_append.mp m).elim nx (by decide))]
      · simp
      · rw [et] at h
        exact List.append_cancel_right (List.cons.inj h).2
theorem repl_forms {gs : List Nat} (hg : Good gs) {its zs : List (List Nat)} (h : Forms gs its zs) : replL (wide1 gs) [123, 125] zs.flatten = (its.map (iTx gs)).flatten := by
  induction h with
  | nil => exact replL_nil
  | cons h1 _ ih => rw [List.flatten_cons, List.map_cons, List.flatten_cons, repl_form hg h1, ih]
theorem repl_rd {gs t : List Nat} (hg : Good gs) {its : List (List Nat)} (h : Rd gs its t) : Txt.replace (S t) (S (wide1 gs)) (S [123, 125]) = S (rTx gs its) := by
  have e : replL (wide1 gs) [123, 125] t = rTx gs its := by
    rcases h with ⟨rfl, rfl⟩ | ⟨hne, zs, hf, rfl⟩
    · have := repl_skip (gs := gs) (z := [123, 125]) [45] [] (by decide)
      rw [replL_nil] at this
      exact this
    · rw [repl_forms hg hf]
      unfold rTx
      rw [if_neg hne]
  refine TL.ext_tl ?_
  show (Txt.replace (S t) (S (wide1 gs)) (S [123, 125])).cps.toList = rTx gs its
  rw [replace_list (by rw [S_len]; show 1 ≤ _ + 1; omega), ← e]
end Own

namespace Own
open PySem PySem.Spec PyProof.Rows L2 SX
/-- o.replace("c" + m + "d", "z"): the sought text is made here, so it is no other object's -/
def tReplB (to tm : TE) (c d z : Str) : TE := fun σ H Q => to σ H fun v H1 => ∃ x : Str, v = .str x ∧ tm σ H1 fun g H2 => ∃ y : Str, g = .str y ∧ 0 < c.length ∧ 0 < d.length ∧ 0 < y.length ∧ c.length + y.length + d.length ≤ 1000 ∧
  (c ++ y ++ d == z) = false ∧ x.length + (x.length + 1) * z.length ≤ 16777216 ∧ Q (.str (Txt.replace x (c ++ y ++ d) z)) H2
theorem pe_replB {X : Cx} {o m : Expr} {to tm : TE} {c d z : Str} {j1 j2 j3 : Nat} {p1 p2 p3 q1 q2 apos pos : Pos} (ho : PE X o to) (hm : PE X m tm)
    (hst : starEach [.BinOp (.BinOp (.Constant (.str c) j1 p1) .Add m q1) .Add (.Constant (.str d) j2 p2) q2, .Constant (.str z) j3 p3] X.env = [(false, eval (.BinOp (.BinOp (.Constant (.str c) j1 p1) .Add m q1) .Add (.Constant (.str d) j2 p2) q2) X.env), (false, eval (.Constant (.str z) j3 p3) X.env)] := by rfl)
    (hbase : attributeBase o "replace" X.env (eval o X.env) = eval o X.env := by rfl) (hline : (apos.endLine == pos.line) = true := by rfl) :
    PE X (.Call (.Attribute o "replace" apos) [.BinOp (.BinOp (.Constant (.str c) j1 p1) .Add m q1) .Add (.Constant (.str d) j2 p2) q2, .Constant (.str z) j3 p3] [] pos) (tReplB to tm c d z) := by
  refine ⟨fun pins s σ H Q I asks => PySem.Call_method2 hbase hst hline (thn (ho.run pins s σ H _ I asks) fun v s1 ⟨v', H1, I1, r1, x, ex, asks1⟩ => ?_)⟩
  subst ex
  obtain ⟨t1, rfl⟩ := r1
  refine ⟨"str", _, PySem.F.plainAttrs_str, PySem.F.slot_str_replace, PySem.F.type_str_replace, typeIs_str _ _ _, (fun _ e => nomatch e), Calls.callWith_builtin rfl (Calls.evalArgs_plain (Calls.spliced_cons ?_))⟩
  refine wpAny_BinOp (wpAny_BinOp (Calls.Constant_str ?_))
  have I2 := I1.tok (s1.toks + 1)
  refine wpAny_mono (PySem.wpAny_toks (hm.run pins { s1 with toks := s1.toks + 1 } σ H1 _ I2 asks1)) (fun g s2 q => ?_) fun _ _ e => e.2
  obtain ⟨more, g', H2, I3, r2, y, ey, hc, hd, hy, hlen, hyz, hb, q⟩ := q
  subst ey
  obtain ⟨t2, rfl⟩ := r2
  have more : s1.toks + 1 ≤ s2.toks := more
  have n0 : (c.length == 0) = false := beq_eq_false_iff_ne.mpr (by omega)
  have n1 : (y.length == 0) = false := beq_eq_false_iff_ne.mpr (by omega)
  have n2 : (d.length == 0) = false := beq_eq_false_iff_ne.mpr (by omega)
  have n3 : ((c ++ y).length == 0) = false := beq_eq_false_iff_ne.mpr (by rw [len_app]; omega)
  refine PySem.P.add_str ?_
  rw [n0, n1]
  refine ⟨small (by rw [len_app]; omega), Calls.Constant_str (PySem.P.add_str ?_)⟩
  rw [n3, n2]
  refine ⟨small (by rw [len_app, len_app]; omega), Calls.spliced_cons (Calls.Constant_str (Calls.spliced_nil ?_))⟩
  exact PySem.SC.replace (by show s2.toks + 1 + 1 ≠ 0; omega) (by show s2.toks + 1 + 1 + 1 ≠ 0; omega) (by show s2.toks + 1 + 1 ≠ s2.toks + 1 + 1 + 1; omega) hyz hb fun t' k => ⟨.str (Txt.replace x (c ++ y ++ d) z), H2, I3.tok k, ⟨t', rfl⟩, q⟩
end Own

namespace Own
open PySem PySem.Spec PyProof.Rows L2 SX
theorem small4 {n : Nat} (h : n ≤ 4000) : n ≤ sizeLine := by rw [sizeLine_eq]; omega
theorem small4s {n : Nat} (h : n ≤ 4000) : n < sizeLine := by rw [sizeLine_eq]; omega
/-! ### promises with wider limits -/
def spBwW : Sp := fun vs H Q _ => ∃ (gs pre post x z : List Nat), vs = [tx gs, tx (pre ++ z ++ post), .int (pre.length : Int)] ∧ Good gs ∧ (pre ++ z ++ post).length ≤ 4000 ∧
  ((z = [123, 125] ∧ ∀ H', Same H H' → Q (.int 2) H') ∨ (x.Perm gs ∧ z = [123] ++ x ++ [125] ∧ ∀ H', Same H H' → Q (.int ((gs.length : Int) + 2)) H'))
def spRdW : Sp := fun vs H Q _ => ∃ (gs t : List Nat) (its : List (List Nat)), vs = [tx gs, tx t] ∧ Good gs ∧ t.length ≤ 4000 ∧ Rd gs its t ∧
  ∀ H' p, Same H H' → H p = none → H' p = some (.lst (its.map tx)) → Q (.ref p) H'
def spTiW (C : Addr) : Sp := fun vs H Q _ => ∃ (x dx : Addr) (gs t : List Nat) (its : List (List Nat)), vs = [.ref x, tx gs, tx t] ∧ H x = some (.ins C dx []) ∧ Good gs ∧ t.length ≤ 4000 ∧ Rd gs its t ∧
  ∀ H', (∀ b o, b ≠ x → H b = some o → H' b = some o) → Tm C H' x gs its → Q .non H'
def spWrW (K : PySem.W.Frag) (C : Addr) : Sp := fun vs H Q _ => ∃ (a b : Addr) (gs : List Nat) (its0 its : List (List Nat)), vs = [.ref a, .ref b] ∧ Tm C H a gs its0 ∧ Good gs ∧ Row gs its ∧ SqA K H b (its.map tx) ∧ its.length ≤ 660 ∧
  ∀ H' p, Same H H' → H p = none → Tm C H' p gs its → Q (.ref p) H'
def spPtW (C : Addr) : Sp := fun vs H Q _ => ∃ (a b : Addr) (gs : List Nat) (its inn : List (List Nat)), vs = [.ref a, .ref b] ∧ Tm C H a gs its ∧ Tm C H b gs inn ∧ Good gs ∧ Row gs its ∧ Row gs inn ∧ its.length ≤ 660 ∧ inn.length ≤ 660 ∧
  (putL gs its inn).length ≤ 660 ∧ ∀ H' p, Same H H' → H p = none → Tm C H' p gs (putL gs its inn) → Q (.ref p) H'
theorem rTx_lenW {gs : List Nat} (hg : Good gs) {its : List (List Nat)} (h : Row gs its) (hl : its.length ≤ 660) : (rTx gs its).length ≤ 4000 := by
  unfold rTx
  split
  · show 1 ≤ 4000; omega
  · have := flat_len (f := iTx gs) (m := 6) (its := its) fun x hx => Nat.le_trans iTx_len (by have := row_len hg h x hx; omega)
    omega
/-! ### one text, one template -/
theorem iTx_inj {gs x y a b : List Nat} (hg : Good gs) (hx : (∃ c, c ∈ gs ∧ x = [c]) ∨ x.Perm gs) (hy : (∃ c, c ∈ gs ∧ y = [c]) ∨ y.Perm gs) (e : iTx gs x ++ a = iTx gs y ++ b) : x = y ∧ a = b := by
  have hlo := hg.lo
  have low : ∀ c ∈ gs, c ≠ 123 ∧ c ≠ 125 := fun c hc => by have := hg.az c hc; omega
  have one : ∀ c : Nat, iTx gs [c] = [c] := fun c => by unfold iTx; rw [if_neg (by show ¬ 1 < 1; omega)]
  have big : ∀ z : List Nat, z.Perm gs → iTx gs z = if z = gs then [123, 125] else [123] ++ z ++ [125] := fun z p => by unfold iTx; rw [if_pos (by rw [p.length_eq]; omega)]
  have hd : ∀ z : List Nat, z.Perm gs → ∃ r, iTx gs z = 123 :: r := fun z p => by
    rw [big z p]
    split
    · exact ⟨[125], rfl⟩
    · exact ⟨z ++ [125], rfl⟩
  rcases hx with ⟨c, hc, rfl⟩ | px <;> rcases hy with ⟨d, hd', rfl⟩ | py
  · rw [one, one] at e
    injection e with e1 e2
    subst e1
    exact ⟨rfl, e2⟩
  · obtain ⟨r, er⟩ := hd y py
    rw [one, er] at e
    injection e with e1 _
    exact absurd e1 (low c hc).1
  · obtain ⟨r, er⟩ := hd x px
    rw [one, er] at e
    injection e with e1 _
    exact absurd e1.symm (low d hd').1
  · have nz : ∀ z : List Nat, z.Perm gs → ∀ r s : List Nat, [123, 125] ++ r ≠ [123] ++ z ++ [125] ++ s := by
      intro z p r s h
      cases z with
      | nil => have := p.length_eq; simp at this; omega
      | cons c z =>
        injection h with _ h
        injection h with h _
        exact (low c (p.mem_iff.mp (List.mem_cons_self ..))).2 h.symm
    rw [big x px, big y py] at e
    split at e <;> split at e
    · rename_i h1 h2
      injection e with _ e
      injection e with _ e
      exact ⟨h1.trans h2.symm, e⟩
    · exact absurd e (nz y py _ _)
    · exact absurd e.symm (nz x px _ _)
    · injection e with _ e
      have hl : x.length = y.length := px.length_eq.trans py.length_eq.symm
      have e' : x ++ ([125] ++ a) = y ++ ([125] ++ b) := by
        rw [← List.append_assoc, ← List.append_assoc]
        exact e
      obtain ⟨h1, h2⟩ := List.append_inj e' hl
      injection h2 with _ h2
      exact ⟨h1, h2⟩
theorem flatTx_inj {gs : List Nat} (hg : Good gs) : ∀ {its jts : List (List Nat)}, Row gs its → Row gs jts → (its.map (iTx gs)).flatten = (jts.map (iTx gs)).flatten → its = jts
  | [], [], _, _, _ => rfl
  | [], y :: s, _, hj, e => by
    obtain ⟨c, r, er, _⟩ := form_head hg (form_i hg.lo (hj y (List.mem_cons_self ..)))
    rw [List.map_cons, List.flatten_cons, er] at e
    cases e
  | x :: r, [], hi, _, e => by
    obtain ⟨c, q, er, _⟩ := form_head hg (form_i hg.lo (hi x (List.mem_cons_self ..)))
    rw [List.map_cons, List.flatten_cons, er] at e
    cases e
  | x :: r, y :: s, hi, hj, e => by
    rw [List.map_cons, List.flatten_cons, List.map_cons, List.flatten_cons] at e
    obtain ⟨h1, h2⟩ := iTx_inj hg (hi x (List.mem_cons_self ..)) (hj y (List.mem_cons_self ..)) e
    rw [h1, flatTx_inj hg (fun z hz => hi z (List.mem_cons_of_mem _ hz)) (fun z hz => hj z (List.mem_cons_of_mem _ hz)) h2]
theorem rTx_inj {gs : List Nat} (hg : Good gs) {its jts : List (List Nat)} (hi : Row gs its) (hj : Row gs jts) (e : rTx gs its = rTx gs jts) : its = jts := by
  have hd : ∀ l : List (List Nat), Row gs l → l ≠ [] → (l.map (iTx gs)).flatten ≠ [45] := by
    intro l hl ne h
    cases l with
    | nil => exact ne rfl
    | cons x r =>
      obtain ⟨c, q, er, hc⟩ := form_head hg (form_i hg.lo (hl x (List.mem_cons_self ..)))
      rw [List.map_cons, List.flatten_cons, er] at h
      injection h with h _
      exact hc h
  unfold rTx at e
  split at e <;> split at e
  · rename_i h1 h2
    rw [h1, h2]
  · rename_i h1 h2
    exact absurd e.symm (hd _ hj h2)
  · rename_i h1 h2
    exact absurd e (hd _ hi h1)
  · exact flatTx_inj hg hi hj e
/-- the items of a text, where some of these rows have it -/
noncomputable def unTx (gs : List Nat) (l : List (List (List Nat))) (t : List Nat) : List (List Nat) := by
  classical
  exact if h : ∃ its, its ∈ l ∧ rTx gs its = t then h.choose else []
theorem unTx_eq {gs : List Nat} (hg : Good gs) {l : List (List (List Nat))} (h : ∀ its ∈ l, Row gs its) {its : List (List Nat)} (hi : its ∈ l) : unTx gs l (rTx gs its) = its := by
  classical
  have hx : ∃ jts, jts ∈ l ∧ rTx gs jts = rTx gs its := ⟨its, hi, rfl⟩
  unfold unTx
  rw [dif_pos hx]
  exact rTx_inj hg (h _ hx.choose_spec.1) (h _ hi) hx.choose_spec.2
theorem unTx_map {gs : List Nat} (hg : Good gs) {l : List (List (List Nat))} (h : ∀ its ∈ l, Row gs its) {m : List (List (List Nat))} (hm : ∀ its ∈ m, its ∈ l) : (m.map (rTx gs)).map (unTx gs l) = m := by
  rw [List.map_map]
  conv => rhs; rw [← List.map_id m]
  exact List.map_congr_left fun its hi => unTx_eq hg h (hm its hi)
/-! ### chains -/
def chainL (gs : List Nat) (l : List (List (List Nat))) : List (List Nat) := l.foldl (fun wh its => putL gs its wh) [gs]
def szL (l : List (List (List Nat))) : Nat × Nat := l.foldl (fun p its => (nBl its * p.1, nLt its + nBl its * p.2)) (1, 0)
theorem chainL_snoc {gs : List Nat} {l : List (List (List Nat))} {its : List (List Nat)} : chainL gs (l ++ [its]) = putL gs its (chainL gs l) := by
  unfold chainL
  rw [List.foldl_append]
  rfl
theorem szL_snoc {l : List (List (List Nat))} {its : List (List Nat)} : szL (l ++ [its]) = (nBl its * (szL l).1, nLt its + nBl its * (szL l).2) := by
  unfold szL
  rw [List.foldl_append]
  rfl
theorem row_gs (gs : List Nat) : Row gs [gs] := fun x hx => .inr (by rw [List.mem_singleton.mp hx])
theorem row_fold {gs : List Nat} (hg : Good gs) : ∀ {l : List (List (List Nat))} {inn : List (List Nat)}, (∀ its ∈ l, Row gs its) → Row gs inn → Row gs (l.foldl (fun wh its => putL gs its wh) inn)
  | [], _, _, h => h
  | its :: r, _, hl, h => row_fold (l := r) hg (fun x hx => hl x (List.mem_cons_of_mem _ hx)) (row_put hg (hl its (List.mem_cons_self ..)) h)
theorem row_chain {gs : List Nat} (hg : Good gs) {l : List (List (List Nat))} (h : ∀ its ∈ l, Row gs its) : Row gs (chainL gs l) := row_fold hg h (row_gs gs)
theorem nBl_cons (x : List Nat) (r : List (List Nat)) : nBl (x :: r) = (if 1 < x.length then 1 else 0) + nBl r := by
  unfold nBl blL
  rw [List.filter_cons]
  by_cases h : 1 < x.length
  · rw [if_pos (decide_eq_true h), if_pos h, List.length_cons, Nat.add_comm]
  · rw [if_neg (by rw [decide_eq_false h]; decide), if_neg h, Nat.zero_add]
theorem nLt_cons (x : List Nat) (r : List (List Nat)) : nLt (x :: r) = (if 1 < x.length then 0 else 1) + nLt r := by
  unfold nLt ltL
  rw [List.filter_cons]
  by_cases h : 1 < x.length
  · rw [if_neg (by rw [decide_eq_true h]; decide), if_pos h, Nat.zero_add]
  · rw [if_pos (by rw [decide_eq_false h]; rfl), if_neg h, List.length_cons, Nat.add_comm]
theorem nBl_app (a b : List (List Nat)) : nBl (a ++ b) = nBl a + nBl b := by unfold nBl blL; rw [List.filter_append, List.length_append]
theorem nLt_app (a b : List (List Nat)) : nLt (a ++ b) = nLt a + nLt b := by unfold nLt ltL; rw [List.filter_append, List.length_append]
theorem nBl_tau {gs t : List Nat} : ∀ l : List (List Nat), nBl (l.map fun y => y.map (tau gs t)) = nBl l
  | [] => rfl
  | x :: r => by rw [List.map_cons, nBl_cons, nBl_cons, nBl_tau r, List.length_map]
theorem nLt_tau {gs t : List Nat} : ∀ l : List (List Nat), nLt (l.map fun y => y.map (tau gs t)) = nLt l
  | [] => rfl
  | x :: r => by rw [List.map_cons, nLt_cons, nLt_cons, nLt_tau r, List.length_map]
theorem putL_cons (gs x : List Nat) (r inn : List (List Nat)) : putL gs (x :: r) inn = put1 gs inn x ++ putL gs r inn := rfl
theorem nBl_put {gs : List Nat} {inn : List (List Nat)} : ∀ its : List (List Nat), nBl (putL gs its inn) = nBl its * nBl inn
  | [] => by show 0 = 0 * _; rw [Nat.zero_mul]
  | x :: r => by
    rw [putL_cons, nBl_app, nBl_put r, nBl_cons, Nat.add_mul]
    congr 1
    unfold put1
    split
    · rw [nBl_tau, Nat.one_mul]
    · rename_i h
      rw [nBl_cons, if_neg h]
      show 0 + 0 = _
      rw [Nat.zero_mul]
theorem nLt_put {gs : List Nat} {inn : List (List Nat)} : ∀ its : List (List Nat), nLt (putL gs its inn) = nLt its + nBl its * nLt inn
  | [] => by show 0 = 0 + 0 * _; rw [Nat.zero_mul]
  | x :: r => by
    rw [putL_cons, nLt_app, nLt_put r, nLt_cons, nBl_cons, Nat.add_mul]
    unfold put1
    split
    · rw [nLt_tau]; omega
    · rename_i h
      rw [nLt_cons, if_neg h]
      show 1 + 0 + _ = _
      omega
theorem nBl_gs {gs : List Nat} (hg : Good gs) : nBl [gs] = 1 ∧ nLt [gs] = 0 := by
  have := hg.lo
  constructor
  · rw [nBl_cons, if_pos (by omega)]; rfl
  · rw [nLt_cons, if_pos (by omega)]; rfl
theorem sz_chain {gs : List Nat} (hg : Good gs) (l : List (List (List Nat))) : nBl (chainL gs l) = (szL l).1 ∧ nLt (chainL gs l) = (szL l).2 := by
  have key : ∀ n, nBl (chainL gs (l.take n)) = (szL (l.take n)).1 ∧ nLt (chainL gs (l.take n)) = (szL (l.take n)).2 := by
    intro n
    induction n with
    | zero => exact nBl_gs hg
    | succ n ih =>
      rw [List.take_add_one]
      cases e : l[n]? with
      | none => rw [Option.toList_none, List.append_nil]; exact ih
      | some its =>
        rw [Option.toList_some, chainL_snoc, szL_snoc, nBl_put, nLt_put, ih.1, ih.2]
        exact ⟨rfl, rfl⟩
  have := key l.length
  rw [List.take_length] at this
  exact this
theorem chain_len {gs : List Nat} (hg : Good gs) (l : List (List (List Nat))) : (chainL gs l).length = (szL l).1 + (szL l).2 := by
  rw [← (sz_chain hg l).1, ← (sz_chain hg l).2, bl_lt]
theorem put_len' {gs : List Nat} (its inn : List (List Nat)) : (putL gs its inn).length = nLt its + nBl its * inn.length := by
  rw [← bl_lt, nBl_put, nLt_put, ← bl_lt inn, Nat.mul_add]
  omega
/-- a template without blanks: nothing is put in -/
theorem put_none {gs : List Nat} : ∀ {its : List (List Nat)} (inn : List (List Nat)), nBl its = 0 → putL gs its inn = its
  | [], _, _ => rfl
  | x :: r, inn, h => by
    rw [nBl_cons] at h
    have h1 : ¬ 1 < x.length := fun h1 => by rw [if_pos h1] at h; omega
    rw [putL_cons, put_none inn (by omega)]
    unfold put1
    rw [if_neg h1]
    rfl
/-- s: 0, or the place of one without blanks; none behind it is without blanks -/
def LastAt (l : List (List (List Nat))) (s : Nat) : Prop := (s = 0 ∨ ∃ its, l[s]? = some its ∧ nBl its = 0) ∧ s ≤ l.length ∧ ∀ j its, s < j → l[j]? = some its → nBl its ≠ 0
theorem last_nil : LastAt [] 0 := ⟨.inl rfl, Nat.le_refl _, fun j its _ h => by cases h⟩
theorem last_hit {l : List (List (List Nat))} {its : List (List Nat)} (h : nBl its = 0) : LastAt (l ++ [its]) l.length := by
  refine ⟨.inr ⟨its, by simp, h⟩, by simp, fun j jts hj hx => ?_⟩
  have := (List.getElem?_eq_some_iff.mp hx).1
  rw [List.length_append, List.length_singleton] at this
  omega
theorem last_go {l : List (List (List Nat))} {its : List (List Nat)} {s : Nat} (k : LastAt l s) (h : nBl its ≠ 0) : LastAt (l ++ [its]) s := by
  obtain ⟨k1, k2, k3⟩ := k
  refine ⟨k1.imp id fun ⟨jts, e, z⟩ => ⟨jts, (List.getElem?_append_left (List.getElem?_eq_some_iff.mp e).1).trans e, z⟩, by rw [List.length_append]; omega, fun j jts hj hx => ?_⟩
  · by_cases hl : j < l.length
    · rw [List.getElem?_append_left hl] at hx
      exact k3 j jts hj hx
    · have := (List.getElem?_eq_some_iff.mp hx).1
      rw [List.length_append, List.length_singleton] at this
      have ej : j = l.length := by omega
      subst ej
      rw [List.getElem?_append_right (Nat.le_refl _), Nat.sub_self] at hx
      cases hx
      exact h
theorem last_chain {gs : List Nat} {l : List (List (List Nat))} {s : Nat} (k : LastAt l s) : chainL gs (l.drop s) = chainL gs l := by
  rcases k.1 with rfl | ⟨its, e, z⟩
  · rfl
  · obtain ⟨hs, hx⟩ := List.getElem?_eq_some_iff.mp e
    have e1 : l.drop s = its :: l.drop (s + 1) := by rw [List.drop_eq_getElem_cons hs, hx]
    have e2 : l = l.take s ++ its :: l.drop (s + 1) := by rw [← e1, List.take_append_drop]
    conv => rhs; rw [e2]
    rw [e1]
    unfold chainL
    rw [List.foldl_append, List.foldl_cons, List.foldl_cons, put_none _ z, put_none _ z]
theorem last_len {gs : List Nat} {l : List (List (List Nat))} {s : Nat} (k : LastAt l s) {m : Nat} (hm : (chainL gs l).length ≤ m) (h1 : 1 ≤ m) : ∀ n, (chainL gs ((l.drop s).take n)).length ≤ m := by
  have up : ∀ n, 0 < n → n ≤ (l.drop s).length → (chainL gs ((l.drop s).take n)).length ≤ (chainL gs (l.drop s)).length := by
    intro n hn hl
    have key : ∀ d, n + d ≤ (l.drop s).length → (chainL gs ((l.drop s).take n)).length ≤ (chainL gs ((l.drop s).take (n + d))).length := by
      intro d
      induction d with
      | zero => intro _; exact Nat.le_refl _
      | succ d ih =>
        intro h
        refine Nat.le_trans (ih (by omega)) ?_
        have hlt : n + d < (l.drop s).length := by omega
        have ex : (l.drop s)[n + d]? = some ((l.drop s)[n + d]) := List.getElem?_eq_getElem hlt
        rw [show n + (d + 1) = (n + d) + 1 from rfl, List.take_add_one, ex, Option.toList_some, chainL_snoc, put_len']
        have : nBl ((l.drop s)[n + d]) ≠ 0 := k.2.2 (s + (n + d)) _ (by omega) (by rw [List.getElem?_drop] at ex; exact ex)
        have : 1 * (chainL gs ((l.drop s).take (n + d))).length ≤ nBl ((l.drop s)[n + d]) * (chainL gs ((l.drop s).take (n + d))).length := Nat.mul_le_mul_right _ (by omega)
        omega
    have := key ((l.drop s).length - n) (by omega)
    rw [show n + ((l.drop s).length - n) = (l.drop s).length by omega, List.take_length] at this
    exact this
  intro n
  by_cases h0 : n = 0
  · subst h0
    rw [List.take_zero]
    exact h1
  · by_cases hn : n ≤ (l.drop s).length
    · have := up n (by omega) hn
      rw [last_chain k] at this
      omega
    · rw [List.take_of_length_le (by omega), last_chain k]
      exact hm
/-- templates in a row, as they lie -/
def Tms (C : Addr) (H : Hp) (gs : List Nat) (ms : List Addr) (l : List (List (List Nat))) : Prop := ms.length = l.length ∧ ∀ (i : Nat) (m : Addr) (its : List (List Nat)), ms[i]? = some m → l[i]? = some its → Tm C H m gs its
theorem Tms.same {C : Addr} {H H' : Hp} {gs : List Nat} {ms : List Addr} {l : List (List (List Nat))} (t : Tms C H gs ms l) (s : Same H H') : Tms C H' gs ms l := ⟨t.1, fun i m its h1 h2 => (t.2 i m its h1 h2).same s⟩
theorem Tms.drop {C : Addr} {H : Hp} {gs : List Nat} {ms : List Addr} {l : List (List (List Nat))} (t : Tms C H gs ms l) (s : Nat) : Tms C H gs (ms.drop s) (l.drop s) := by
  refine ⟨by rw [List.length_drop, List.length_drop, t.1], fun i m its h1 h2 => ?_⟩
  rw [List.getElem?_drop] at h1 h2
  exact t.2 _ m its h1 h2
theorem get_ref {ms : List Addr} {i : Nat} {y : V} (h : (ms.map V.ref)[i]? = some y) : ∃ m, ms[i]? = some m ∧ y = .ref m := by
  rw [List.getElem?_map] at h
  cases e : ms[i]? with
  | none => rw [e] at h; cases h
  | some c => rw [e] at h; exact ⟨c, rfl, (Option.some.inj h).symm⟩
theorem Tms.at {C : Addr} {H : Hp} {gs : List Nat} {ms : List Addr} {l : List (List (List Nat))} (t : Tms C H gs ms l) {i : Nat} {m : Addr} (h : ms[i]? = some m) : ∃ its, l[i]? = some its ∧ Tm C H m gs its := by
  have hi := (List.getElem?_eq_some_iff.mp h).1
  rw [t.1] at hi
  exact ⟨_, List.getElem?_eq_getElem hi, t.2 i m _ h (List.getElem?_eq_getElem hi)⟩
/-! ### promises of chains -/
def spRf (K : PySem.W.Frag) (C : Addr) : Sp := fun vs H Q _ => ∃ (gs : List Nat) (a : Addr) (ts : List (List Nat)) (f : List Nat → List (List Nat)), vs = [tx gs, .ref a] ∧ Good gs ∧ SqA K H a (ts.map tx) ∧ ts.length ≤ 900 ∧
  (∀ t ∈ ts, t.length ≤ 4000 ∧ Rd gs (f t) t) ∧ ∀ H' p ms, Same H H' → H p = none → H' p = some (.lst (ms.map V.ref)) → Tms C H' gs ms (ts.map f) → Q (.ref p) H'
/-- rows that are neither long nor wide -/
def Narrow (l : List (List (List Nat))) : Prop := ∀ its ∈ l, its.length ≤ 660 ∧ ∀ x ∈ its, x.length ≤ 900
def spFs (K : PySem.W.Frag) : Sp := fun vs H Q _ => ∃ (gs : List Nat) (a : Addr) (ts : List (List Nat)) (f : List Nat → List (List Nat)), vs = [tx gs, .ref a] ∧ Good gs ∧ SqA K H a (ts.map tx) ∧ ts.length ≤ 900 ∧
  (∀ t ∈ ts, t.length ≤ 4000 ∧ Rd gs (f t) t) ∧ Narrow (ts.map f) ∧ ∀ H' p, Same H H' → H p = none → H' p = some (.tup [.int ((szL (ts.map f)).1 : Nat), .int ((szL (ts.map f)).2 : Nat)]) → Q (.ref p) H'
def spLs (K : PySem.W.Frag) (C : Addr) : Sp := fun vs H Q _ => ∃ (gs : List Nat) (a : Addr) (ms : List Addr) (l : List (List (List Nat))), vs = [.ref a] ∧ SqL K H a (ms.map V.ref) ∧ Tms C H gs ms l ∧ Narrow l ∧
  ∀ H' p s, Same H H' → H p = none → LastAt l s → H' p = some (.lst ((ms.drop s).map V.ref)) → Q (.ref p) H'
/-- Template.blank: the class, the letters, the turn left out or told -/
def spBl (C : Addr) : Sp := fun vs H Q _ => ∃ (gs t : List Nat) (v : V), vs = [.ref C, tx gs, v] ∧ Good gs ∧ t.Perm gs ∧ ((v = .non ∧ t = gs) ∨ v = tx t) ∧ ∀ H' p, Same H H' → H p = none → Tm C H' p gs [t] → Q (.ref p) H'
def spFtp (K : PySem.W.Frag) (C : Addr) : Sp := fun vs H Q _ => ∃ (gs : List Nat) (a : Addr) (n : Int) (ts : List (List Nat)) (f : List Nat → List (List Nat)), vs = [tx gs, .ref a, .int n] ∧ Good gs ∧ SqA K H a (ts.map tx) ∧ ts.length ≤ 900 ∧
  (∀ t ∈ ts, t.length ≤ 4000 ∧ Rd gs (f t) t) ∧ Narrow (ts.map f) ∧ (∀ t ∈ ts, Row gs (f t)) ∧ (((szL (ts.map f)).1 + (szL (ts.map f)).2 : Nat) : Int) ≤ n ∧ (szL (ts.map f)).1 + (szL (ts.map f)).2 ≤ 660 ∧
  ∀ H' p, Same H H' → H p = none → Tm C H' p gs (chainL gs (ts.map f)) → Q (.ref p) H'
/-! ### a class held by a name, made -/
def tMakeV (i : Nat) (C : Addr) (sp : Sp) (dvs : List V) (E : XK) (t : TA) : TE := fun σ H Q => σ[i]? = some (some (.ref C)) ∧ tMake C sp dvs E t σ H Q
theorem pe_makeV {X : Cx} {CX : CXT} {k i : Nat} {C f : Addr} {fd : FuncData} {ps : List Str} {ds : List Value} {dvs : List V} {sp : Sp} {E : XK} {x : Str} {e : Expr} {es : List Expr} {t : TA} {p pos : Pos}
    (M : Mk X.K C f) (F : FnOk X.prog X.w X.K X.mg X.base CX k f fd ps sp) (hr : Room (k + 1) X.A) (hN : X.N[i]? = some x) (hv : Vis X.env.scope x) (hb : Binds X.K fd ps ds) (hd : Vals dvs ds) (hx : Passes CX X E) (ha : PA X (e :: es) t)
    (n1 : (x == ("__debug__" : Str)) = false := by decide) (n2 : (x == ("__classdict__" : Str)) = false := by decide)
    (h1 : starEach (e :: es) X.env = (false, eval e X.env) :: starEach es X.env := by rfl) (h2 : (backTo pos (starEach es X.env)).any (·.1) = false := by rfl) :
    PE X (.Call (.Name x p) (e :: es) [] pos) (tMakeV i C sp dvs E t) := by
  constructor
  rintro pins s σ H Q I ⟨held, asks⟩
  have look := (pe_var (pos := p) (i := i) hN hv n1 n2).run pins s σ H (fun v H1 => v = .ref C ∧ H1 = H) I ⟨.ref C, held, rfl, rfl⟩
  refine wpAny_Call_Name_kw (thn look ?_)
  rintro u s1 ⟨_, _, I1, rel, rfl, rfl⟩
  cases (show u = Value.ref C from rel)
  refine PySem.W.callWith_K (h₀ := X.base) I.ok.mod.kin M.kp (thn (ha.run pos pins s1 σ _ _ I1 asks) ?_) h1 h2
  rintro us s2 ⟨vs, H2, I2, r, q⟩
  exact ⟨I2.kIn, run_make M F hr hb hd hx I2 r q⟩
/-! ### a dict comprehension over what is walked -/
theorem dc_it {J : It} {n : Nat} {G : Hp → Prop} {Y : Nat → Hp → V → Hp → Prop} {g : TG} {tt : TT} {tk tv : TE} {vs : List Nat} {σ : L2.St} {H1 : Hp} {D : Addr} {Qd : Hp → Prop} (w : Walk J n G Y) (Pv : Nat → Hp → Prop)
    (h0 : Pv 0 (upd H1 D (.dK []))) (hG : ∀ i H, i ≤ n → Pv i H → G H)
    (turn : ∀ i x H H', i < n → Pv i H → Y i H x H' → g x (wipe σ vs) H' fun σ2 H2 => wipe σ2 vs = wipe σ vs ∧ tt σ2 H2 fun b H3 =>
      if b = true then tk σ2 H3 fun y H4 => tv σ2 H4 fun z H5 => ∃ kvs k, y = kV k ∧ H5 D = some (.dK kvs) ∧ kvs.length < sizeLine ∧ Pv (i + 1) (upd H5 D (.dK (putK kvs k z))) else Pv (i + 1) H3)
    (last : ∀ H, Pv n H → Qd H) :
    ∃ W : Nat → Nat → Hp → Prop, (∃ m, W 0 m (upd H1 D (.dK []))) ∧ ∀ i m H, W i m H →
      (J.stop i H ∧ Qd H) ∨ (J.go i H ∧ ∃ Nx : Hp → Prop, (∀ H', Nx H' → ∃ m', m' < m ∧ W (i + 1) m' H') ∧ ∀ x H', J.yld i H x H' → g x (wipe σ vs) H' fun σ2 H2 => wipe σ2 vs = wipe σ vs ∧ tt σ2 H2 fun b H3 =>
        if b = true then tk σ2 H3 fun y H4 => tv σ2 H4 fun z H5 => ∃ kvs k, y = kV k ∧ H5 D = some (.dK kvs) ∧ kvs.length < sizeLine ∧ Nx (upd H5 D (.dK (putK kvs k z))) else Nx H3) := by
  refine ⟨fun i m H => i + m = n ∧ Pv i H, ⟨n, Nat.zero_add _, h0⟩, ?_⟩
  rintro i m H ⟨em, p⟩
  have le : i ≤ n := by omega
  have stands := hG i H le p
  cases m with
  | zero =>
    have : i = n := em
    subst this
    exact .inl ⟨w.stops H stands, last H p⟩
  | succ m =>
    have lt : i < n := by omega
    refine .inr ⟨w.goes i H lt stands, Pv (i + 1), fun H' p' => ⟨m, Nat.lt_succ_self _, by omega, p'⟩, ?_⟩
    intro x H' y
    exact turn i x H H' lt p (w.yields i H x H' lt stands y)
end Own

namespace Own
open PySem PySem.Spec PyProof.Rows L2 SX
/-! ### fills one after the other -/
def fillsL (gs : List Nat) (l : List (List (List Nat))) (xs : List Nat) : List Nat := l.foldl (fun t its => fillL gs its t) xs
theorem fillsL_snoc {gs : List Nat} {l : List (List (List Nat))} {its : List (List Nat)} {xs : List Nat} : fillsL gs (l ++ [its]) xs = fillL gs its (fillsL gs l xs) := by
  unfold fillsL
  rw [List.foldl_append]
  rfl
theorem map_self {gs xs : List Nat} (h : ∀ c ∈ xs, c ∈ gs) : xs.map (tau gs gs) = xs := by
  conv => rhs; rw [← List.map_id xs]
  exact List.map_congr_left fun c hc => tau_self (h c hc)
theorem put_gs {gs : List Nat} (hg : Good gs) {inn : List (List Nat)} (h : Row gs inn) : putL gs [gs] inn = inn := by
  rw [putL_cons]
  unfold put1
  have := hg.lo
  rw [if_pos (by omega)]
  show inn.map _ ++ [] = inn
  rw [List.append_nil]
  conv => rhs; rw [← List.map_id inn]
  exact List.map_congr_left fun y hy => map_self (row_mem h y hy)
theorem fill_gs {gs : List Nat} (hg : Good gs) {xs : List Nat} (h : ∀ c ∈ xs, c ∈ gs) : fillL gs [gs] xs = xs := by
  rw [← lf_eq hg (row_gs gs)]
  have := hg.lo
  show lf1 gs xs gs ++ [] = xs
  unfold lf1
  rw [if_neg (by omega), List.append_nil, map_self h]
theorem fill_chain {gs : List Nat} (hg : Good gs) {l : List (List (List Nat))} (hl : ∀ its ∈ l, Row gs its) {xs : List Nat} (hx : ∀ c ∈ xs, c ∈ gs) : fillL gs (chainL gs l) xs = fillsL gs l xs ∧ ∀ c ∈ fillsL gs l xs, c ∈ gs := by
  have key : ∀ n, fillL gs (chainL gs (l.take n)) xs = fillsL gs (l.take n) xs ∧ ∀ c ∈ fillsL gs (l.take n) xs, c ∈ gs := by
    intro n
    induction n with
    | zero => exact ⟨fill_gs hg hx, hx⟩
    | succ n ih =>
      rw [List.take_add_one]
      cases e : l[n]? with
      | none => rw [Option.toList_none, List.append_nil]; exact ih
      | some its =>
        have hi := hl its (List.mem_of_getElem? e)
        rw [Option.toList_some, chainL_snoc, fillsL_snoc, fill_put hg hi (row_chain hg fun y hy => hl y (List.mem_of_mem_take hy)) hx, ih.1]
        exact ⟨rfl, fill_mem hg hi ih.2⟩
  have := key l.length
  rw [List.take_length] at this
  exact this
theorem chain_app {gs : List Nat} (hg : Good gs) {l m : List (List (List Nat))} (hl : ∀ its ∈ l, Row gs its) (hm : ∀ its ∈ m, Row gs its) : chainL gs (l ++ m) = putL gs (chainL gs m) (chainL gs l) := by
  have key : ∀ n, chainL gs (l ++ m.take n) = putL gs (chainL gs (m.take n)) (chainL gs l) := by
    intro n
    induction n with
    | zero => rw [List.take_zero, List.append_nil]; exact (put_gs hg (row_chain hg hl)).symm
    | succ n ih =>
      rw [List.take_add_one]
      cases e : m[n]? with
      | none => rw [Option.toList_none, List.append_nil]; exact ih
      | some its =>
        rw [Option.toList_some, ← List.append_assoc, chainL_snoc, chainL_snoc, ih, put_put hg (hm its (List.mem_of_getElem? e)) (row_chain hg fun y hy => hm y (List.mem_of_mem_take hy)) (row_chain hg hl)]
  have := key m.length
  rw [List.take_length] at this
  exact this
theorem chain_pow {gs : List Nat} {b : Nat} (hb : 1 ≤ b) : ∀ {l : List (List (List Nat))}, (∀ its ∈ l, its.length ≤ b) → (chainL gs l).length ≤ b ^ l.length := by
  intro l hl
  have key : ∀ n, (chainL gs (l.take n)).length ≤ b ^ (l.take n).length := by
    intro n
    induction n with
    | zero => exact Nat.le_refl _
    | succ n ih =>
      rw [List.take_add_one]
      cases e : l[n]? with
      | none => rw [Option.toList_none, List.append_nil]; exact ih
      | some its =>
        rw [Option.toList_some, chainL_snoc, List.length_append]
        have h1 : 1 ≤ b ^ (l.take n).length := Nat.one_le_pow _ _ hb
        refine Nat.le_trans (putL_len (hl its (List.mem_of_getElem? e)) ih h1) ?_
        show _ ≤ b ^ ((l.take n).length + 1)
        rw [Nat.pow_succ, Nat.mul_comm]
        exact Nat.le_refl _
  have := key l.length
  rw [List.take_length] at this
  exact this
theorem fill_le {gs : List Nat} (hg : Good gs) {its : List (List Nat)} (h : Row gs its) {xs : List Nat} {b m : Nat} (hb : its.length ≤ b) (hx : xs.length ≤ m) (hm : 1 ≤ m) : (fillL gs its xs).length ≤ b * m := by
  rw [fill_len hg h]
  have h1 := bl_lt its
  have h2 : nBl its * xs.length ≤ nBl its * m := Nat.mul_le_mul_left _ hx
  have h3 : nLt its * 1 ≤ nLt its * m := Nat.mul_le_mul_left _ hm
  have h4 : (nBl its + nLt its) * m ≤ b * m := Nat.mul_le_mul_right _ (by omega)
  rw [Nat.add_mul] at h4
  omega
/-! ### lists of items, as they lie beside the drawer -/
def Lsts (H : Hp) (r : Addr) (qs : List Addr) (l : List (List (List Nat))) : Prop := qs.length = l.length ∧ ∀ (i : Nat) (q : Addr) (its : List (List Nat)), qs[i]? = some q → l[i]? = some its → q ≠ r ∧ H q = some (.lst (its.map tx))
theorem Lsts.same {H H' : Hp} {r : Addr} {qs : List Addr} {l : List (List (List Nat))} (h : Lsts H r qs l) (s : Same H H') : Lsts H' r qs l := ⟨h.1, fun i q its h1 h2 => ⟨(h.2 i q its h1 h2).1, s _ _ (h.2 i q its h1 h2).2⟩⟩
theorem Lsts.go {H H' : Hp} {r : Addr} {qs : List Addr} {l : List (List (List Nat))} (h : Lsts H r qs l) (g : Go r H H') : Lsts H' r qs l :=
  ⟨h.1, fun i q its h1 h2 => ⟨(h.2 i q its h1 h2).1, g.1 _ _ (h.2 i q its h1 h2).1 (h.2 i q its h1 h2).2⟩⟩
theorem Lsts.at {H : Hp} {r : Addr} {qs : List Addr} {l : List (List (List Nat))} (h : Lsts H r qs l) {i : Nat} {q : Addr} (e : qs[i]? = some q) : ∃ its, l[i]? = some its ∧ q ≠ r ∧ H q = some (.lst (its.map tx)) := by
  have hi := (List.getElem?_eq_some_iff.mp e).1
  rw [h.1] at hi
  exact ⟨_, List.getElem?_eq_getElem hi, h.2 i q _ e (List.getElem?_eq_getElem hi)⟩
theorem Lsts.put {H : Hp} {r D : Addr} {o : HO} {qs : List Addr} {l : List (List (List Nat))} (h : Lsts H r qs l) (n : ∀ q ∈ qs, q ≠ D) : Lsts (upd H D o) r qs l :=
  ⟨h.1, fun i q its h1 h2 => ⟨(h.2 i q its h1 h2).1, by rw [upd_ne (n q (List.mem_of_getElem? h1))]; exact (h.2 i q its h1 h2).2⟩⟩
theorem Lsts.snoc {H : Hp} {r q : Addr} {qs : List Addr} {l : List (List (List Nat))} {its : List (List Nat)} (h : Lsts H r qs l) (n : q ≠ r) (e : H q = some (.lst (its.map tx))) : Lsts H r (qs ++ [q]) (l ++ [its]) := by
  refine ⟨by rw [List.length_append, List.length_append, h.1]; rfl, fun i q' jts h1 h2 => ?_⟩
  by_cases hi : i < qs.length
  · rw [List.getElem?_append_left hi] at h1
    rw [List.getElem?_append_left (by rw [← h.1]; exact hi)] at h2
    exact h.2 i q' jts h1 h2
  · rw [List.getElem?_append_right (by omega)] at h1
    rw [List.getElem?_append_right (by rw [← h.1]; omega), ← h.1] at h2
    have h3 := (List.getElem?_eq_some_iff.mp h1).1
    have h4 : i - qs.length = 0 := by rw [List.length_singleton] at h3; omega
    rw [h4] at h1 h2
    cases h1
    cases h2
    exact ⟨n, e⟩
/-- what is told of drawn rows -/
structure Rows (gs : List Nat) (b n : Nat) (l : List (List (List Nat))) : Prop where
  row : ∀ its ∈ l, Row gs its
  wid : ∀ its ∈ l, its.length ≤ b
  len : l.length ≤ n
theorem Rows.sub {gs : List Nat} {b n : Nat} {l m : List (List (List Nat))} (h : Rows gs b n l) (hm : ∀ x ∈ m, x ∈ l) (hn : m.length ≤ n) : Rows gs b n m := ⟨fun x hx => h.row x (hm x hx), fun x hx => h.wid x (hm x hx), hn⟩
/-- [_law_items(rng, good, m) for k in range(..)]: D the new list -/
theorem rows_lc {K : PySem.W.Frag} {g : TG} {ta : TE} {vs : List Nat} {σ : L2.St} {H1 : Hp} {D r : Addr} {n b : Nat} {gs : List Nat} {Qd : Hp → Prop} (hg : Good gs) (R : Rng H1 r) (nD : H1 D = none) (hn : n ≤ 900)
    (turn : ∀ i H (k : VK), i < n → Rng H r → (∀ H' p its, Go r H H' → H p = none → H' p = some (.lst (its.map tx)) → Row gs its → its.length ≤ b → k (.ref p) H') → g (.int (0 + (i : Int))) (wipe σ vs) H fun σ2 H2 => wipe σ2 vs = wipe σ vs ∧ tYes σ2 H2 fun c H3 => if c = true then ta σ2 H3 k else False)
    (last : ∀ H' qs l, Go r H1 H' → H' D = some (.lst (qs.map V.ref)) → Lsts H' r qs l → (∀ q ∈ qs, H1 q = none ∧ q ≠ D) → Rows gs b n l → l.length = n → Qd H') :
    ∃ W : Nat → Nat → Hp → Prop, (∃ m, W 0 m (upd H1 D (.lst []))) ∧ ∀ i m H, W i m H →
      ((Itr 0 n).stop i H ∧ Qd H) ∨ ((Itr 0 n).go i H ∧ ∃ Nx : Hp → Prop, (∀ H', Nx H' → ∃ m', m' < m ∧ W (i + 1) m' H') ∧ ∀ x H', (Itr 0 n).yld i H x H' → g x (wipe σ vs) H' fun σ2 H2 => wipe σ2 vs = wipe σ vs ∧ tYes σ2 H2 fun b H3 =>
        if b = true then ta σ2 H3 fun y H4 => ∃ acc, H4 D = some (.lst acc) ∧ acc.length < sizeLine ∧ Nx (upd H4 D (.lst (acc ++ [y]))) else Nx H3) := by
  obtain ⟨xr, er⟩ := R.ex
  have nDr : D ≠ r := (ne_of_none er nD).symm
  refine lc_range (lo := 0) (n := n) (fun i H' => ∃ qs l, Go r H1 H' ∧ H' D = some (.lst (qs.map V.ref)) ∧ Lsts H' r qs l ∧ (∀ q ∈ qs, H1 q = none ∧ q ≠ D) ∧ Rows gs b n l ∧ l.length = i)
    ⟨[], [], (Go.refl R).same (same_new nD), upd_same, ⟨rfl, (fun i q its h => by cases h)⟩, (fun q h => nomatch h), ⟨(fun x h => nomatch h), (fun x h => nomatch h), Nat.zero_le _⟩, rfl⟩ ?_ ?_
  · rintro i H hi ⟨qs, l, g1, hD, hL, hq, hR, hl⟩
    have t := turn i H (fun y H4 => ∃ acc, H4 D = some (.lst acc) ∧ acc.length < sizeLine ∧ ∃ qs l, Go r H1 (upd H4 D (.lst (acc ++ [y]))) ∧ (upd H4 D (.lst (acc ++ [y]))) D = some (.lst (qs.map V.ref)) ∧ Lsts (upd H4 D (.lst (acc ++ [y]))) r qs l ∧ (∀ q ∈ qs, H1 q = none ∧ q ≠ D) ∧ Rows gs b n l ∧ l.length = i + 1) hi g1.rng ?_
    · exact t
    · rintro H4 p its g4 np hp hRow hlen
      have hD4 := g4.1 _ _ nDr hD
      have npD : p ≠ D := (ne_of_none hD np).symm
      obtain ⟨xr2, er2⟩ := g1.rng.ex
      have npr : p ≠ r := (ne_of_none er2 np).symm
      have n1 : H1 p = none := by
        cases e : H1 p with
        | none => rfl
        | some o =>
          rw [g1.1 _ _ npr e] at np
          cases np
      refine ⟨_, hD4, ?_, qs ++ [p], l ++ [its], (g1.trans g4).put nD, ?_, ?_, ?_, ⟨?_, ?_, ?_⟩, ?_⟩
      · rw [List.length_map, hL.1, hl]
        exact small1000 (by omega)
      · rw [upd_same, List.map_append]
        rfl
      · refine ((hL.go g4).snoc npr hp).put fun q h => ?_
        rcases List.mem_append.mp h with h | h
        · exact (hq q h).2
        · rw [List.mem_singleton.mp h]; exact npD
      · intro q h
        rcases List.mem_append.mp h with h | h
        · exact hq q h
        · rw [List.mem_singleton.mp h]; exact ⟨n1, npD⟩
      · intro x h
        rcases List.mem_append.mp h with h | h
        · exact hR.row x h
        · rw [List.mem_singleton.mp h]; exact hRow
      · intro x h
        rcases List.mem_append.mp h with h | h
        · exact hR.wid x h
        · rw [List.mem_singleton.mp h]; exact hlen
      · rw [List.length_append, hl]
        exact hi
      · rw [List.length_append, hl]
        rfl
  · rintro H ⟨qs, l, g1, hD, hL, hq, hR, hl⟩
    exact last H qs l g1 hD hL hq hR hl
/-- [_law_text(good, items) for items in some]: D the new list -/
theorem texts_lc {K : PySem.W.Frag} {g : TG} {ta : TE} {vs : List Nat} {σ : L2.St} {H1 : Hp} {D r p : Addr} {qs : List Addr} {l : List (List (List Nat))} {gs : List Nat} {Qd : Hp → Prop} (hp : H1 p = some (.lst (qs.map V.ref))) (hL : Lsts H1 r qs l) (hl : l.length ≤ 900) (nD : H1 D = none)
    (turn : ∀ q its H (k : VK), its ∈ l → H q = some (.lst (its.map tx)) → (∀ H', Same H H' → k (tx (rTx gs its)) H') → g (.ref q) (wipe σ vs) H fun σ2 H2 => wipe σ2 vs = wipe σ vs ∧ tYes σ2 H2 fun c H3 => if c = true then ta σ2 H3 k else False)
    (last : ∀ H', Same H1 H' → H' D = some (.lst ((l.map (rTx gs)).map tx)) → Qd H') :
    ∃ W : Nat → Nat → Hp → Prop, (∃ m, W 0 m (upd H1 D (.lst []))) ∧ ∀ i m H, W i m H →
      ((Itl K p).stop i H ∧ Qd H) ∨ ((Itl K p).go i H ∧ ∃ Nx : Hp → Prop, (∀ H', Nx H' → ∃ m', m' < m ∧ W (i + 1) m' H') ∧ ∀ x H', (Itl K p).yld i H x H' → g x (wipe σ vs) H' fun σ2 H2 => wipe σ2 vs = wipe σ vs ∧ tYes σ2 H2 fun b H3 =>
        if b = true then ta σ2 H3 fun y H4 => ∃ acc, H4 D = some (.lst acc) ∧ acc.length < sizeLine ∧ Nx (upd H4 D (.lst (acc ++ [y]))) else Nx H3) := by
  refine lc_list (K := K) (a := p) (xs := qs.map V.ref) (fun i H' => Same H1 H' ∧ H' D = some (.lst (((l.take i).map (rTx gs)).map tx))) ⟨same_new nD, upd_same⟩ (fun _ _ _ h => .inl (.inl (h.1 _ _ hp))) ?_ ?_
  · rintro i y H hy ⟨s1, hD⟩
    obtain ⟨q, hq, rfl⟩ := get_ref hy
    obtain ⟨its, hi, nq, eq⟩ := hL.at hq
    refine turn q its H _ (List.mem_of_getElem? hi) (s1 _ _ eq) fun H' s2 => ⟨_, s2 _ _ hD, ?_, same_put (s1.trans s2) nD, ?_⟩
    · rw [List.length_map, List.length_map, List.length_take]
      exact small1000 (by omega)
    · rw [upd_same, List.take_add_one, hi]
      simp
  · rintro H ⟨s1, hD⟩
    rw [List.length_map, hL.1, List.take_length] at hD
    exact last H s1 hD
theorem fills_le {gs : List Nat} (hg : Good gs) {b m : Nat} (hb : 1 ≤ b) (hm : 1 ≤ m) {l : List (List (List Nat))} (hl : ∀ its ∈ l, Row gs its) (hw : ∀ its ∈ l, its.length ≤ b) {xs : List Nat} (hx : xs.length ≤ m) : (fillsL gs l xs).length ≤ b ^ l.length * m := by
  have key : ∀ n, (fillsL gs (l.take n) xs).length ≤ b ^ (l.take n).length * m := by
    intro n
    induction n with
    | zero => rw [List.take_zero]; show xs.length ≤ 1 * m; omega
    | succ n ih =>
      rw [List.take_add_one]
      cases e : l[n]? with
      | none => rw [Option.toList_none, List.append_nil]; exact ih
      | some its =>
        have hi := List.mem_of_getElem? e
        rw [Option.toList_some, fillsL_snoc, List.length_append]
        have h1 : 1 * 1 ≤ b ^ (l.take n).length * m := Nat.mul_le_mul (Nat.one_le_pow _ _ hb) hm
        refine Nat.le_trans (fill_le hg (hl its hi) (hw its hi) ih h1) ?_
        show _ ≤ b ^ ((l.take n).length + 1) * m
        rw [Nat.pow_succ, Nat.mul_comm _ b, Nat.mul_assoc]
        exact Nat.le_refl _
  have := key l.length
  rw [List.take_length] at this
  exact this
theorem szs {gs : List Nat} (hg : Good gs) {b n k : Nat} (hb : 1 ≤ b) {l : List (List (List Nat))} (h : Rows gs b n l) (hk : b ^ n ≤ k) : (szL l).1 + (szL l).2 ≤ k := by
  rw [← chain_len hg]
  refine Nat.le_trans (chain_pow hb h.wid) (Nat.le_trans ?_ hk)
  exact Nat.pow_le_pow_right hb h.len
/-- fills_template of the texts of such rows -/
theorem ftp_use {K : PySem.W.Frag} {C a : Addr} {H : Hp} {gs : List Nat} {l : List (List (List Nat))} {R : Addr → Hp → Prop} (hg : Good gs) (hR : Rows gs 3 4 l) (hs : SqL K H a ((l.map (rTx gs)).map tx))
    (q : ∀ H' p, Same H H' → H p = none → Tm C H' p gs (chainL gs l) → R p H') : Good gs ∧ SqA K H a ((l.map (rTx gs)).map tx) ∧ (l.map (rTx gs)).length ≤ 900 ∧
    (∀ t ∈ l.map (rTx gs), t.length ≤ 4000 ∧ Rd gs (unTx gs l t) t) ∧ Narrow ((l.map (rTx gs)).map (unTx gs l)) ∧ (∀ t ∈ l.map (rTx gs), Row gs (unTx gs l t)) ∧
    (((szL ((l.map (rTx gs)).map (unTx gs l))).1 + (szL ((l.map (rTx gs)).map (unTx gs l))).2 : Nat) : Int) ≤ 400 ∧ (szL ((l.map (rTx gs)).map (unTx gs l))).1 + (szL ((l.map (rTx gs)).map (unTx gs l))).2 ≤ 660 ∧
    ∀ H' p, Same H H' → H p = none → Tm C H' p gs (chainL gs ((l.map (rTx gs)).map (unTx gs l))) → R p H' := by
  have un : (l.map (rTx gs)).map (unTx gs l) = l := unTx_map hg hR.row (fun x h => h)
  have back : ∀ t ∈ l.map (rTx gs), ∃ its ∈ l, t = rTx gs its ∧ unTx gs l t = its := fun t ht => by
    obtain ⟨its, hi, rfl⟩ := List.mem_map.mp ht
    exact ⟨its, hi, rfl, unTx_eq hg hR.row hi⟩
  have z := szs hg (by decide) hR (k := 81) (by decide)
  refine ⟨hg, .inl hs, by rw [List.length_map]; have := hR.len; omega, fun t ht => ?_, ?_, fun t ht => ?_, ?_, ?_, ?_⟩
  · obtain ⟨its, hi, rfl, e⟩ := back t ht
    rw [e]
    exact ⟨rTx_lenW hg (hR.row its hi) (by have := hR.wid its hi; omega), rd_r hg.lo (hR.row its hi)⟩
  · rw [un]
    exact fun its hi => ⟨by have := hR.wid its hi; omega, fun x hx => by have := row_len hg (hR.row its hi) x hx; omega⟩
  · obtain ⟨its, hi, rfl, e⟩ := back t ht
    rw [e]
    exact hR.row its hi
  · rw [un]
    omega
  · rw [un]
    omega
  · rw [un]
    exact q
theorem cutT_to {gs : List Nat} {l : List (List (List Nat))} {n : Nat} : cutV ((l.map (rTx gs)).map tx) none (some (n : Int)) = ((l.take n).map (rTx gs)).map tx := by
  unfold cutV
  rw [HT.sIx_nat]
  show (((l.map (rTx gs)).map tx).drop 0).take (min n _ - 0) = _
  rw [List.drop_zero, Nat.sub_zero, List.length_map, List.length_map]
  rw [← List.map_take, ← List.map_take]
  by_cases h : n ≤ l.length
  · rw [Nat.min_eq_left h]
  · rw [Nat.min_eq_right (by omega), List.take_length, List.take_of_length_le (by omega)]
theorem cutT_from {gs : List Nat} {l : List (List (List Nat))} {n : Nat} (h : n ≤ l.length) : cutV ((l.map (rTx gs)).map tx) (some (n : Int)) none = ((l.drop n).map (rTx gs)).map tx := by
  unfold cutV
  rw [HT.sIx_nat]
  show (((l.map (rTx gs)).map tx).drop (min n _)).take (((l.map (rTx gs)).map tx).length - min n _) = _
  rw [List.length_map, List.length_map, Nat.min_eq_left h, List.take_of_length_le (by rw [List.length_drop, List.length_map, List.length_map]; exact Nat.le_refl _), ← List.map_drop, ← List.map_drop]
end Own

namespace Own
open PySem PySem.Spec PyProof.Rows L2 SX
/-! ### text * number -/
theorem fold_app : ∀ (n : Nat) (a : List Nat) (acc : Array Nat), ((List.replicate n a.toArray).foldl (· ++ ·) acc) = acc ++ (List.replicate n a).flatten.toArray
  | 0, a, acc => by simp
  | n + 1, a, acc => by
    rw [List.replicate_succ, List.foldl_cons, fold_app n a, List.replicate_succ, List.flatten_cons]
    simp
def rRepS : R2 := fun x y H Q => ∃ (cs : List Nat) (n : Nat), x = tx cs ∧ y = .int (n : Int) ∧ cs.length ≤ 1000 ∧ n ≤ 1000 ∧ Q (tx (List.replicate n cs).flatten) H
theorem op_repS {X : Cx} : OpR X (binaryOp .Mult) rRepS := by
  rintro pins s σ H _ _ v u Q I rx ry ⟨cs, n, rfl, rfl, hc, hn, q⟩
  obtain ⟨t, rfl⟩ := rx
  obtain ⟨t', rfl⟩ := ry
  have len : (S cs).length = cs.length := S_len cs
  have small : cs.length * n ≤ 1000 * 1000 := Nat.mul_le_mul hc hn
  refine PySem.P.mul_str ?_ (fun h1 _ => ?_) (fun _ _ => ?_) ?_
  · rw [decide_eq_false (by omega), decide_eq_false (by omega)]
    rfl
  · rw [len]
    have h2 : (1000 : Int) ≤ (2 ^ 63 - 1) / (n : Int) := by
      rw [Int.le_ediv_iff_mul_le (by omega)]
      omega
    omega
  · rw [len]
    show decide (_ > _) = false
    rw [decide_eq_false]
    show ¬ _ > 16777216
    rw [Int.toNat_natCast]
    omega
  · by_cases h1 : (n : Int) < 1
    · rw [if_pos h1]
      have h0 : n = 0 := by omega
      subst h0
      exact ⟨by decide, tx [], H, I.tok _, ⟨_, rfl⟩, q⟩
    · rw [if_neg h1]
      by_cases h2 : ((n : Int) == 1 || (S cs).length == 0) = true
      · rw [if_pos h2]
        have e : (List.replicate n cs).flatten = cs := by
          rcases (Bool.or_eq_true _ _).mp h2 with h | h
          · have : n = 1 := by have := eq_of_beq h; omega
            subst this
            simp
          · have : cs = [] := by
              have := eq_of_beq h
              rw [len] at this
              exact List.length_eq_zero_iff.mp this
            subst this
            simp
        rw [e] at q
        exact ⟨tx cs, H, I, ⟨_, rfl⟩, q⟩
      · rw [if_neg h2]
        have e : (⟨(List.replicate (n : Int).toNat (S cs).cps).foldl (· ++ ·) #[]⟩ : Str) = S (List.replicate n cs).flatten := by
          show (⟨(List.replicate n cs.toArray).foldl (· ++ ·) #[]⟩ : Str) = _
          rw [fold_app]
          simp
        rw [e]
        refine ⟨?_, tx _, H, I.tok _, ⟨_, rfl⟩, q⟩
        show (S _).length ≤ _
        rw [S_len, List.length_flatten, List.map_replicate, List.sum_replicate_nat, Nat.mul_comm]
        show _ ≤ 16777216
        omega
/-! ### text[::k] -/
/-- every k-th -/
def evr (k : Nat) (xs : List Nat) : List Nat := ((List.range ((xs.length + k - 1) / k)).map (k * ·)).filterMap (xs[·]?)
theorem rng_step {n k : Nat} (hk : 0 < k) : sliceRange 0 (n : Int) (k : Int) = (List.range ((n + k - 1) / k)).map (k * ·) := by
  unfold sliceRange
  have e : (if (k : Int) > 0 then (if (0 : Int) < n then ((n : Int) - 0 + k - 1) / k else 0) else (if (0 : Int) > n then (0 - (n : Int) - k - 1) / (-k) else 0)) = (((n + k - 1) / k : Nat) : Int) := by
    rw [if_pos (by omega)]
    by_cases h : 0 < n
    · rw [if_pos (by omega), show ((n : Int) - 0 + k - 1) = ((n + k - 1 : Nat) : Int) by omega, Int.natCast_ediv]
    · have h0 : n = 0 := by omega
      subst h0
      rw [if_neg (by omega), Nat.zero_add, Nat.div_eq_of_lt (by omega)]
      rfl
  show (List.range (Int.toNat _)).map _ = _
  rw [e, Int.toNat_natCast]
  refine List.map_congr_left fun j _ => ?_
  rw [Int.zero_add, show (k : Int) * (j : Int) = ((k * j : Nat) : Int) by rw [Int.natCast_mul], Int.toNat_natCast]
theorem evr_one {xs : List Nat} : evr 1 xs = xs := by
  unfold evr
  rw [show xs.length + 1 - 1 = xs.length by omega, Nat.div_one]
  have e : (List.range xs.length).map (1 * ·) = List.range xs.length := by
    conv => rhs; rw [← List.map_id (List.range xs.length)]
    exact List.map_congr_left fun j _ => Nat.one_mul j
  rw [e]
  have := back_list xs
  rw [List.filterMap_reverse] at this
  have := congrArg List.reverse this
  rw [List.reverse_reverse, List.reverse_reverse] at this
  exact this
def tStp (te ts : TE) : TE := fun σ H Q => te σ H fun x H1 => tPart ts σ H1 fun o H2 => ∃ (z : List Nat) (k : Nat), x = tx z ∧ o = some (k : Int) ∧ 0 < k ∧ z.length ≤ 1000 ∧ Q (tx (evr k z)) H2
theorem evr_len {k : Nat} {xs : List Nat} : (evr k xs).length ≤ (xs.length + k - 1) / k := by
  unfold evr
  refine Nat.le_trans (List.length_filterMap_le _ _) ?_
  rw [List.length_map, List.length_range]
  exact Nat.le_refl _
theorem evr_mem {k : Nat} {xs : List Nat} {c : Nat} (h : c ∈ evr k xs) : c ∈ xs := by
  unfold evr at h
  obtain ⟨j, _, e⟩ := List.mem_filterMap.mp h
  exact List.mem_of_getElem? e
theorem pe_stp {X : Cx} {e st : Expr} {te ts : TE} {p3 pos : Pos} (he : PE X e te) (hs : PE X st ts)
    (hop : ∀ (u : Value) (a : Addr), subscripted (.Slice none none (some st) p3) false u (.ref a) = operate [u, .ref a] (getItem u (.ref a)) := by intro _ _; with_unfolding_all rfl) :
    PE X (.Subscript e (.Slice none none (some st) p3) pos) (tStp te ts) := by
  constructor
  intro pins s σ H Q I h
  refine Subscript_ (thn (he.run pins s σ H _ I h) ?_)
  rintro u s1 ⟨x, H1, I1, rx, g⟩
  refine wpAny_Slice ?_
  rw [evalPart_none]
  have part : PO X (some st) (tPart ts) := po_some hs
  refine wpAny_pure (wpAny_pure (thn (part.run pins s1 σ H1 _ I1 g) ?_))
  · rintro v s2 ⟨_, H2, I2, isp, z, k, rfl, rfl, hk, hz, q⟩
    cases isp with
    | int _ t =>
    obtain ⟨tk, rfl⟩ := rx
    have at_ : (s2.heap.push { cls := .type "slice", data := .fields #[.none, .none, .int (k : Int) t] }).get? s2.heap.objs.size = some { cls := .type "slice", data := .fields #[.none, .none, .int (k : Int) t] } := Heap.get?_push_size _ rfl
    refine tail_any (ops := [.str (S z) tk, .ref s2.heap.objs.size]) (typeIs_str _ (S z) tk) F.slot_str_getitem.lookup ?_ (hop _ _)
    refine wpAny_getItem_str_slice (l := none) (u := none) (st := some ((k : Int), t)) ⟨_, at_, rfl, rfl⟩ ?_ ?_
    · show ((k : Int) == 0) = false
      rw [beq_eq_false_iff_ne]
      omega
    have pick : slicePicked (S z) none none (some ((k : Int), t)) = (List.range ((z.length + k - 1) / k)).map (k * ·) := by
      show Builtin.Str.strSliceIndices none none (k : Int) (S z).length = _
      unfold Builtin.Str.strSliceIndices
      show sliceRange (if (k : Int) > 0 then 0 else _) (if (k : Int) > 0 then ((S z).length : Int) else -1) (k : Int) = _
      rw [if_pos (by omega), if_pos (by omega), S_len, rng_step hk]
    have I3 := I2.kept (t' := s2.toks) (h' := s2.heap.push { cls := .type "slice", data := .fields #[.none, .none, .int (k : Int) t] }) fun _ _ q => Heap.get?_push_of_some _ q
    unfold sliceMade
    split
    · rename_i hyes
      obtain ⟨h1, _⟩ := (Bool.and_eq_true _ _).mp hyes
      have k1 : k = 1 := by
        have h1 : ((k : Int) == 1) = true := h1
        have := eq_of_beq h1
        omega
      subst k1
      rw [evr_one] at q
      exact ⟨tx z, H2, I3, ⟨_, rfl⟩, q⟩
    · rw [pick]
      have e : (⟨(((List.range ((z.length + k - 1) / k)).map (k * ·)).filterMap ((S z).cps[·]?)).toArray⟩ : Str) = S (evr k z) := by
        unfold evr
        show (⟨_⟩ : Str) = ⟨_⟩
        congr 3
        funext j
        exact List.getElem?_toArray ..
      rw [e]
      refine ⟨?_, tx _, H2, I3.tok _, ⟨_, rfl⟩, q⟩
      show (S _).length ≤ sizeLine
      rw [S_len, sizeLine_eq]
      have h1 := evr_len (k := k) (xs := z)
      have h2 : (z.length + k - 1) / k ≤ z.length + k - 1 := Nat.div_le_self _ _
      have h3 : (evr k z).length ≤ z.length := by
        refine Nat.le_trans h1 ?_
        rw [Nat.div_le_iff_le_mul_add_pred hk]
        have : z.length * 1 ≤ k * z.length := by rw [Nat.mul_comm]; exact Nat.mul_le_mul_right _ hk
        omega
      omega
end Own

namespace Own
open PySem PySem.Spec PyProof.Rows L2 SX
/-! ### the question -/
def qL (gs : List Nat) (M : Nat) : List Nat := (gs.map fun c => List.replicate M c).flatten
theorem qL_cons (c : Nat) (r : List Nat) (M : Nat) : qL (c :: r) M = List.replicate M c ++ qL r M := rfl
theorem qL_len (M : Nat) : ∀ gs : List Nat, (qL gs M).length = M * gs.length
  | [] => rfl
  | c :: r => by
    rw [qL_cons, List.length_append, List.length_replicate, qL_len M r, List.length_cons, Nat.mul_add, Nat.mul_one, Nat.add_comm]
theorem qL_mem {M : Nat} {c : Nat} : ∀ {gs : List Nat}, c ∈ qL gs M → c ∈ gs := by
  intro gs h
  obtain ⟨l, hl, hc⟩ := List.mem_flatten.mp h
  obtain ⟨d, hd, rfl⟩ := List.mem_map.mp hl
  rw [(List.mem_replicate.mp hc).2]
  exact hd
theorem qL_map (M : Nat) (f : Nat → Nat) : ∀ gs : List Nat, (qL gs M).map f = qL (gs.map f) M
  | [] => rfl
  | c :: r => by rw [qL_cons, List.map_append, List.map_replicate, qL_map M f r, List.map_cons, qL_cons]
theorem qL_tau {gs t : List Nat} {M : Nat} (hg : Good gs) (pt : t.Perm gs) : (qL gs M).map (tau gs t) = qL t M := by rw [qL_map, map_tau hg.nd pt.length_eq]
theorem qL_get {M : Nat} (hM : 0 < M) : ∀ (t : List Nat) (j : Nat), (qL t M)[M * j]? = t[j]?
  | [], j => rfl
  | c :: r, 0 => by
    rw [qL_cons, Nat.mul_zero, List.getElem?_append_left (by rw [List.length_replicate]; exact hM), List.getElem?_replicate, if_pos hM]
    rfl
  | c :: r, j + 1 => by
    rw [qL_cons, List.getElem?_append_right (by rw [List.length_replicate, Nat.mul_add, Nat.mul_one]; omega), List.length_replicate, Nat.mul_add, Nat.mul_one, Nat.add_sub_cancel, qL_get hM r j]
    rfl
theorem range_get {α : Type} (xs : List α) : (List.range xs.length).filterMap (xs[·]?) = xs := by
  have := congrArg List.reverse (back_list xs)
  rw [List.filterMap_reverse, List.reverse_reverse, List.reverse_reverse] at this
  exact this
theorem evr_q {M : Nat} (hM : 0 < M) (t : List Nat) : evr M (qL t M) = t := by
  unfold evr
  have e : ((qL t M).length + M - 1) / M = t.length := by
    rw [qL_len]
    have h1 : M * t.length + M - 1 = (M - 1) + M * t.length := by omega
    rw [h1, Nat.add_mul_div_left _ _ hM, Nat.div_eq_of_lt (by omega), Nat.zero_add]
  rw [e, List.filterMap_map]
  conv => rhs; rw [← range_get t]
  congr 1
  funext j
  exact qL_get hM t j
/-- what stands in the place of a blank -/
theorem fill_bl {gs t : List Nat} {M : Nat} (hg : Good gs) (pt : t.Perm gs) {r : List (List Nat)} (hr : Row gs r) : fillL gs (t :: r) (qL gs M) = qL t M ++ fillL gs r (qL gs M) := by
  have hR : Row gs (t :: r) := fun x hx => by
    rcases List.mem_cons.mp hx with rfl | h
    · exact .inr pt
    · exact hr x h
  rw [← lf_eq hg hR, ← lf_eq hg hr, List.map_cons, List.flatten_cons]
  congr 1
  unfold lf1
  have := pt.length_eq
  have := hg.lo
  rw [if_neg (by omega), qL_tau hg pt]
theorem fill_lt {gs : List Nat} {c : Nat} (hg : Good gs) (hc : c ∈ gs) {r : List (List Nat)} (hr : Row gs r) (xs : List Nat) : fillL gs ([c] :: r) xs = c :: fillL gs r xs := by
  have hR : Row gs ([c] :: r) := fun x hx => by
    rcases List.mem_cons.mp hx with rfl | h
    · exact .inl ⟨c, hc, rfl⟩
    · exact hr x h
  rw [← lf_eq hg hR, ← lf_eq hg hr, List.map_cons, List.flatten_cons]
  rfl
/-- so many equal letters and then another one do not begin what has fewer fixed letters -/
theorem no_run {gs : List Nat} {M a b : Nat} (hg : Good gs) (ne : a ≠ b) : ∀ {l : List (List Nat)} {m : Nat}, Row gs l → nLt l < m → m < M → ¬ (List.replicate m a ++ [b] <+: fillL gs l (qL gs M))
  | [], m, _, h1, _, h => by
    obtain ⟨z, hz⟩ := h
    have : (List.replicate m a ++ [b] ++ z).length = 0 := by rw [hz]; rfl
    simp at this
  | x :: r, m, hR, h1, h2, h => by
    have hr : Row gs r := fun y hy => hR y (List.mem_cons_of_mem _ hy)
    have hm : 0 < m := by omega
    rcases hR x (List.mem_cons_self ..) with ⟨c, hc, rfl⟩ | pt
    · rw [fill_lt hg hc hr] at h
      rw [nLt_cons, if_neg (by show ¬ 1 < 1; omega)] at h1
      obtain ⟨m', rfl⟩ : ∃ m', m = m' + 1 := ⟨m - 1, by omega⟩
      rw [List.replicate_succ, List.cons_append, List.cons_prefix_cons] at h
      exact no_run hg ne hr (by omega) (by omega) h.2
    · rw [fill_bl hg pt hr] at h
      obtain ⟨z, hz⟩ := h
      have hl : 2 ≤ x.length := by rw [pt.length_eq]; exact hg.lo
      cases x with
      | nil => simp at hl
      | cons d x =>
        rw [qL_cons] at hz
        have g0 : (List.replicate m a ++ [b] ++ z)[0]? = some a := by
          rw [List.append_assoc, List.getElem?_append_left (by rw [List.length_replicate]; exact hm), List.getElem?_replicate, if_pos hm]
        have gm : (List.replicate m a ++ [b] ++ z)[m]? = some b := by
          rw [List.append_assoc, List.getElem?_append_right (by rw [List.length_replicate]; exact Nat.le_refl _), List.length_replicate, Nat.sub_self]
          rfl
        have rd : ∀ j, j < M → (List.replicate M d ++ qL x M ++ fillL gs r (qL gs M))[j]? = some d := fun j hj => by
          rw [List.append_assoc, List.getElem?_append_left (by rw [List.length_replicate]; exact hj), List.getElem?_replicate, if_pos hj]
        rw [hz, rd 0 (by omega)] at g0
        rw [hz, rd m h2] at gm
        exact ne ((Option.some.inj g0).symm.trans (Option.some.inj gm))
theorem q_run {gs t : List Nat} {M : Nat} (hg : Good gs) (pt : t.Perm gs) (hM : 0 < M) : ∃ a b, a ≠ b ∧ List.replicate M a ++ [b] <+: qL t M := by
  have hl : 2 ≤ t.length := by rw [pt.length_eq]; exact hg.lo
  have nd : t.Nodup := pt.symm.nodup hg.nd
  match t, hl, nd with
  | a :: b :: r, _, nd =>
    refine ⟨a, b, fun e => ?_, ?_⟩
    · subst e
      exact (List.nodup_cons.mp nd).1 (List.mem_cons_self ..)
    · obtain ⟨m, rfl⟩ : ∃ m, M = m + 1 := ⟨M - 1, by omega⟩
      refine ⟨List.replicate m b ++ qL r (m + 1), ?_⟩
      rw [qL_cons, qL_cons, List.append_assoc, List.replicate_succ (a := b)]
      simp
/-- a text read: blanks first -/
inductive Reads (gs : List Nat) (M : Nat) : List Nat → List (List Nat) → Prop
  | nil : Reads gs M [] []
  | blank {t w : List Nat} {r : List (List Nat)} : t.Perm gs → Reads gs M w r → Reads gs M (qL t M ++ w) (t :: r)
  | letter {c : Nat} {w : List Nat} {r : List (List Nat)} : c ∈ gs → (∀ t : List Nat, t.Perm gs → ¬ (qL t M <+: c :: w)) → Reads gs M w r → Reads gs M (c :: w) ([c] :: r)
theorem reads_fill {gs : List Nat} {s : Nat} (hg : Good gs) : ∀ {l : List (List Nat)}, Row gs l → nLt l ≤ s → Reads gs (s + 1) (fillL gs l (qL gs (s + 1))) l
  | [], _, _ => .nil
  | x :: r, hR, hn => by
    have hr : Row gs r := fun y hy => hR y (List.mem_cons_of_mem _ hy)
    rcases hR x (List.mem_cons_self ..) with ⟨c, hc, rfl⟩ | pt
    · rw [nLt_cons, if_neg (by show ¬ 1 < 1; omega)] at hn
      rw [fill_lt hg hc hr]
      refine .letter hc (fun t pt h => ?_) (reads_fill hg hr (by omega))
      obtain ⟨a, b, ne, run⟩ := q_run hg pt (Nat.succ_pos s)
      have h2 := run.trans h
      rw [List.replicate_succ, List.cons_append, List.cons_prefix_cons] at h2
      exact no_run hg ne hr (by omega) (Nat.lt_succ_self s) h2.2
    · have hl : 1 < x.length := by rw [pt.length_eq]; have := hg.lo; omega
      rw [nLt_cons, if_pos hl] at hn
      rw [fill_bl hg pt hr]
      exact .blank pt (reads_fill hg hr (by omega))
theorem Reads.row {gs : List Nat} {M : Nat} {w : List Nat} {r : List (List Nat)} (h : Reads gs M w r) : Row gs r := by
  induction h with
  | nil => exact fun x hx => nomatch hx
  | blank pt _ ih =>
    intro x hx
    rcases List.mem_cons.mp hx with rfl | h
    · exact .inr pt
    · exact ih x h
  | letter hc _ _ ih =>
    intro x hx
    rcases List.mem_cons.mp hx with rfl | h
    · exact .inl ⟨_, hc, rfl⟩
    · exact ih x h
theorem Reads.len {gs : List Nat} {M : Nat} (hg : Good gs) (hM : 0 < M) {w : List Nat} {r : List (List Nat)} (h : Reads gs M w r) : r.length ≤ w.length := by
  induction h with
  | nil => exact Nat.le_refl _
  | blank pt _ ih =>
    rw [List.length_cons, List.length_append, qL_len, pt.length_eq]
    have : 1 * 2 ≤ M * gs.length := Nat.mul_le_mul hM hg.lo
    omega
  | letter _ _ _ ih =>
    rw [List.length_cons, List.length_cons]
    omega
theorem Reads.fill {gs : List Nat} {M : Nat} (hg : Good gs) {w : List Nat} {r : List (List Nat)} (h : Reads gs M w r) : fillL gs r (qL gs M) = w := by
  induction h with
  | nil => rfl
  | blank pt h ih => rw [fill_bl hg pt h.row, ih]
  | letter hc _ h ih => rw [fill_lt hg hc h.row, ih]
theorem Reads.mem {gs : List Nat} {M : Nat} {w : List Nat} {r : List (List Nat)} (h : Reads gs M w r) : ∀ c ∈ w, c ∈ gs := by
  induction h with
  | nil => exact fun c hc => nomatch hc
  | blank pt _ ih =>
    intro c hc
    rcases List.mem_append.mp hc with h | h
    · exact pt.mem_iff.mp (qL_mem h)
    · exact ih c h
  | letter hc _ _ ih =>
    intro c h
    rcases List.mem_cons.mp h with rfl | h
    · exact hc
    · exact ih c h
/-! ### promises -/
def spQu : Sp := fun vs H Q _ => ∃ (gs : List Nat) (s : Nat), vs = [tx gs, .int (s : Int)] ∧ Good gs ∧ s ≤ 200 ∧ ∀ H', Same H H' → Q (tx (qL gs (s + 1))) H'
def spTA : Sp := fun vs H Q _ => ∃ (gs pre w : List Nat) (M : Nat), vs = [tx gs, tx (qL gs M), tx (pre ++ w), .int (pre.length : Int)] ∧ Good gs ∧ 0 < M ∧ M ≤ 201 ∧ (pre ++ w).length ≤ 1000 ∧ (∀ c ∈ w, c ∈ gs) ∧
  (∀ t : List Nat, t.Perm gs → qL t M <+: w → ∀ H', Same H H' → Q (tx t) H') ∧ ((∀ t : List Nat, t.Perm gs → ¬ (qL t M <+: w)) → ∀ H', Same H H' → Q .non H')
def spRT (C : Addr) : Sp := fun vs H Q _ => ∃ (gs ans : List Nat) (s : Nat) (row : List (List Nat)), vs = [tx gs, .int (s : Int), tx ans] ∧ Good gs ∧ s ≤ 200 ∧ ans.length ≤ 1000 ∧ Reads gs (s + 1) ans row ∧ row.length ≤ 160 ∧ nLt row ≤ s ∧
  ∀ H' p, Same H H' → H p = none → Tm C H' p gs row → Q (.ref p) H'
/-- [letter * (size + 1) for letter in letters]: D the new list -/
theorem q_lc {g : TG} {ta : TE} {vs : List Nat} {σ : L2.St} {H1 : Hp} {D : Addr} {gs : List Nat} {n : Nat} {Qd : Hp → Prop} (hg : Good gs) (hn : n ≤ 200) (nD : H1 D = none)
    (turn : ∀ c H (k : VK), rRepS (.str (S [c])) (.int ((n : Int) + 1)) H k → g (.str ⟨#[c]⟩) (wipe σ vs) H fun σ2 H2 => wipe σ2 vs = wipe σ vs ∧ tYes σ2 H2 fun b H3 => if b = true then ta σ2 H3 k else False)
    (last : ∀ H', Same H1 H' → H' D = some (.lst ((gs.map fun c => List.replicate (n + 1) c).map tx)) → Qd H') :
    ∃ W : Nat → Nat → Hp → Prop, (∃ m, W 0 m (upd H1 D (.lst []))) ∧ ∀ i m H, W i m H →
      ((Its (S gs)).stop i H ∧ Qd H) ∨ ((Its (S gs)).go i H ∧ ∃ Nx : Hp → Prop, (∀ H', Nx H' → ∃ m', m' < m ∧ W (i + 1) m' H') ∧ ∀ x H', (Its (S gs)).yld i H x H' → g x (wipe σ vs) H' fun σ2 H2 => wipe σ2 vs = wipe σ vs ∧ tYes σ2 H2 fun b H3 =>
        if b = true then ta σ2 H3 fun y H4 => ∃ acc, H4 D = some (.lst acc) ∧ acc.length < sizeLine ∧ Nx (upd H4 D (.lst (acc ++ [y]))) else Nx H3) := by
  have hhi := hg.hi
  refine lc_it (walk_str (z := S gs)) (fun i H' => Same H1 H' ∧ H' D = some (.lst (((gs.take i).map fun c => List.replicate (n + 1) c).map tx))) ⟨same_new nD, upd_same⟩ (fun _ _ _ _ => trivial) ?_ ?_
  · rintro i x H' H'' hi ⟨s1, hD⟩ ⟨rfl, c, hc, rfl⟩
    have hc2 : gs[i]? = some c := by rw [← List.getElem?_toArray]; exact hc
    refine turn c H'' _ ⟨[c], n + 1, rfl, by rw [Int.natCast_add]; rfl, by show 1 ≤ 1000; decide, by omega, _, hD, ?_, same_put s1 nD, ?_⟩
    · rw [List.length_map, List.length_map, List.length_take]
      exact small1000 (by omega)
    · have e : (List.replicate (n + 1) [c]).flatten = List.replicate (n + 1) c := by rw [List.flatten_replicate_singleton]
      rw [upd_same, List.take_add_one, hc2, e]
      simp
  · rintro H' ⟨s1, hD⟩
    have e : gs.take (S gs).cps.size = gs := List.take_of_length_le (Nat.le_of_eq rfl)
    rw [e] at hD
    exact last H' s1 hD
theorem q_join {K : PySem.W.Frag} {H H' : Hp} {D : Addr} {gs : List Nat} {n : Nat} {Q : VK} (s : Same H H') (hD : H' D = some (.lst ((gs.map fun c => List.replicate (n + 1) c).map tx))) (hg : Good gs) (hn : n ≤ 200)
    (q : ∀ H', Same H H' → Q (tx (qL gs (n + 1))) H') :
    ∃ a p ys, V.str (Str.ofString "") = V.str a ∧ [V.ref D] = [V.ref p] ∧ ((SqL K H' p (ys.map V.str)) ∨ (SqT K H' p (ys.map V.str))) ∧ (ys.map (·.length)).sum + ys.length * a.length ≤ 16777216 ∧ Q (.str (Txt.join a ys)) H' := by
  refine ⟨_, D, (gs.map fun c => List.replicate (n + 1) c).map S, rfl, rfl, .inl (.inl (.inl ?_)), ?_, ?_⟩
  · rw [hD]
    simp
  · rw [sum_len]
    have h1 := qL_len (n + 1) gs
    unfold qL at h1
    rw [h1]
    have h2 : (n + 1) * gs.length ≤ 201 * 4 := Nat.mul_le_mul (by omega) hg.hi
    show _ + _ * 0 ≤ _
    omega
  · rw [joinT]
    exact q _ s
end Own

namespace Own
open PySem PySem.Spec PyProof.Rows L2 SX LamX
/-! ### a lambda that lies somewhere -/
structure LF where
  params : Arguments
  body : Expr
  scope : Scope
  q : Str
  cl : List (Str × Addr)
  c : Addr
  d : Option (Addr × V)
def LF.dV (F : LF) : Value := match F.d with
  | none => .none
  | some (t, _) => .ref t
abbrev LF.fd (F : LF) (pm ctv : Value) : FuncData :=
  { name := "<lambda>", qualname := F.q, params := F.params, body := .expr F.body, scope := F.scope, globals := mainGlobals, closure := F.cl, defaults := F.dV, kwdefaults := .none, doc := .none, pyModule := pm, annotations := none, code := .ref F.c, closureTuple := ctv, builtins := builtinsNs }
def LamO (f : Addr) (F : LF) : HO := .ext fun h => ∃ (od : Option Addr) (sl : Array (Option Value)) (pm ctv : Value), h.get? f = some (⟨.type "function", od, .func (F.fd pm ctv), sl⟩ : Obj)
/-- the lambda F lies at f, its code object and its default beside it -/
structure LamAt (H : Hp) (f : Addr) (F : LF) : Prop where
  fn : H f = some (LamO f F)
  code : H F.c = some (CodeO F.c F.q)
  dflt : ∀ t v, F.d = some (t, v) → H t = some (.tup [v])
theorem LamAt.same {H H' : Hp} {f : Addr} {F : LF} (l : LamAt H f F) (s : Same H H') : LamAt H' f F := ⟨s _ _ l.fn, s _ _ l.code, fun t v e => s _ _ (l.dflt t v e)⟩
theorem LamAt.ext {H H' : Hp} {f : Addr} {F : LF} (l : LamAt H f F) (e : ExtN H H') : LamAt H' f F :=
  ⟨e _ _ l.fn (fun ps z => by unfold LamO at z; cases z), e _ _ l.code codeO_ne, fun t v h => e _ _ (l.dflt t v h) (fun ps z => by cases z)⟩
theorem LamAt.go {H H' : Hp} {f r : Addr} {F : LF} (l : LamAt H f F) (g : Go r H H') : LamAt H' f F := by
  obtain ⟨xs, er⟩ := g.rng0.ex
  exact ⟨g.1 _ _ (ne_of l.fn er fun z => by unfold LamO at z; cases z) l.fn, g.1 _ _ (ne_of l.code er fun z => by unfold CodeO at z; cases z) l.code, fun t v h => g.1 _ _ (ne_of (l.dflt t v h) er fun z => by cases z) (l.dflt t v h)⟩
/-! ### its making -/
section
variable {M : Model} {A : Around} {E : Value → Shared → Prop} {s : Shared}
theorem clo_tuple {b : Bool} {its : List Value} {jp : Value → Sem Value} {Q : Value → Shared → Prop}
    (h : ∀ ctv h', (∀ b o, s.heap.get? b = some o → h'.get? b = some o) → s.heap.objs.size ≤ h'.objs.size → wpAny M A (jp ctv) Q E { s with heap := h' }) :
    wpAny M A (if b = true then pure .none >>= jp else newTextTuple its >>= jp) Q E s := by
  cases b with
  | true => exact wpAny_bind (wpAny_pure (h .none s.heap (fun _ _ e => e) (Nat.le_refl _)))
  | false => exact wpAny_bind (wpAny_newTextTuple (h _ _ (fun b o e => Heap.get?_push_of_some _ e) (by rw [Heap.size_push]; omega)))
end
section
variable {X : Cx} {pins : List (Addr × Obj)} {σ : L2.St} {H : Hp} {s : Shared}
theorem lam_known {F : LF} {t' : Nat} {pm ctv : Value} (I : Inv X pins σ H s) :
    Inv X pins σ (upd H s.heap.objs.size (LamO s.heap.objs.size F)) { s with heap := s.heap.push { cls := .type "function", data := .func (F.fd pm ctv) }, toks := t' } := by
  have lies : (s.heap.push ({ cls := .type "function", data := .func (F.fd pm ctv) } : Obj)).get? s.heap.objs.size = some ({ cls := .type "function", data := .func (F.fd pm ctv) } : Obj) := Heap.get?_push_size _ rfl
  refine I.laid (a := s.heap.objs.size) (fun b u e => Heap.get?_push_of_some _ e) (Nat.le_refl _) ⟨⟨_, _, pm, ctv, lies⟩, ⟨_, lies⟩, ?_⟩
  rintro h1 h2 ⟨od, sl, p, t, z⟩ st
  exact ⟨od, sl, p, t, st _ z⟩
theorem lam_tail {T : List (Addr × Str)} {c P : Addr} {params : Arguments} {body : Expr} {scope : Scope} {pos : Pos} {d : Option (Addr × V)} {E : Value → Shared → Prop} {Q : Value → Shared → Prop} (I : Inv X pins σ H s) (TB : TabB X.base X.mg c P) (hcode : X.env.code = .ref c)
    (hm : (P, X.env.qual ++ "<lambda>") ∈ T) (hu : ∀ p ∈ T, p.1 = P → p.2 = X.env.qual ++ "<lambda>") (hT : Tabs T H) (hfree : ∀ y ∈ scope.names, y.2 = .free → ∃ c, X.env.cells.lookup y.1 = some c)
    (h : ∀ (f c' : Addr) (H1 : Hp) (s' : Shared), Inv X pins σ H1 s' → ExtN H H1 → Tabs T H1 → H f = none → H1 f = some (LamO f ⟨params, body, scope, X.env.qual ++ "<lambda>", cloFrom X.env.cells scope.names [], c', d⟩) →
      H1 c' = some (CodeO c' (X.env.qual ++ "<lambda>")) → Q (.ref f) s') :
    wpAny (model X.prog X.w) X.A (makeTail "<lambda>" (X.env.qual ++ "<lambda>") params (.expr body) scope X.env (LF.dV ⟨params, body, scope, X.env.qual ++ "<lambda>", [], 0, d⟩) .none none pos pos.line) Q E s := by
  obtain ⟨ps, hP, ht, ha⟩ := hT _ hm
  unfold makeTail
  rw [closure_ok hfree, I.ok.glob]
  refine wpAny_bind (wpAny_pure ?_)
  dsimp only
  refine clo_tuple fun ctv h1 k1 z1 => wpAny_bind ?_
  have I1 : Inv X pins σ H { s with heap := h1, toks := s.toks } := I.kept k1
  have tab : h1.get? P = some { cls := .none, data := .fields ps } := I1.hok P _ hP
  have hd := TB.code.keeps I1.bk
  have gl : h1.Ns mainGlobals X.mg := I1.mod.glob.keeps I1.bk
  obtain ⟨bm, ob, e1, e2, _, e3, e4, e5, e6, e7⟩ := TB.bm.keeps I1.bk
  cases hc : codeAmong pos ps.toList with
  | some cv =>
    obtain ⟨c', rfl, hco⟩ := ha pos cv hc
    refine wpAny_functionCode_hit hcode (hd.code tab ht) hc (wpAny_bind (wpAny_builtinsFor gl e1 e2 e4 e5 e6 e7 (wpAny_bind (wpAny_nsGet gl (wpAny_bind (wpAny_pure (wpAny_newObj_type ?_ (by size_fits))))))))
    have fresh : H h1.objs.size = none := I1.hok.fresh (Nat.le_refl _)
    refine h h1.objs.size c' _ _ (lam_known (F := ⟨params, body, scope, X.env.qual ++ "<lambda>", cloFrom X.env.cells scope.names [], c', d⟩) (pm := (X.mg "__name__").getD .none) (ctv := ctv) I1) (ExtN.of (same_new fresh)) (hT.ext (same_new fresh)) fresh upd_same ?_
    exact same_new fresh _ _ hco
  | none =>
    refine wpAny_functionCodeX hcode (hd.code tab ht) (hd.tab tab) hc fun c' h2 tk hx hge hlt _ hrec htb _ => ?_
    obtain ⟨c2, oc, vs, t, e, hoc, hdat, hv⟩ := hrec
    cases e
    have I2 := inv_table (q := X.env.qual ++ "<lambda>") (t' := tk) (more := #[rawInt pos.line, rawInt pos.col, .ref c']) (h' := h2) I1 hP (fun b o nb z => hx b o nb z) htb.2 hge ⟨oc, vs, t, hoc, hdat, hv⟩
    have newC : H c' = none := I1.hok.fresh hge
    have grown : ExtN H (upd (upd H P (.tbl (ps ++ #[rawInt pos.line, rawInt pos.col, .ref c']))) c' (CodeO c' (X.env.qual ++ "<lambda>"))) := by
      intro b o z no
      have nP : b ≠ P := by
        rintro rfl
        exact no ps (Option.some.inj (z.symm.trans hP))
      rw [upd_ne (ne_of_none z newC), upd_ne nP]
      exact z
    have flat : (ps ++ #[rawInt pos.line, rawInt pos.col, .ref c']).toList = ps.toList ++ [rawInt pos.line, rawInt pos.col, .ref c'] := by simp
    have tabs : Tabs T (upd (upd H P (.tbl (ps ++ #[rawInt pos.line, rawInt pos.col, .ref c']))) c' (CodeO c' (X.env.qual ++ "<lambda>"))) := by
      intro p hp
      by_cases hb : p.1 = P
      · rw [hu p hp hb, hb]
        refine ⟨_, (upd_ne (ne_of_none hP newC)).trans upd_same, flat ▸ PySem.TriplesOk_snoc _ _ _ _ ht, fun p' cv hcv => ?_⟩
        rw [flat] at hcv
        rcases among_app _ ht hcv with z | rfl
        · obtain ⟨c0, z1, z2⟩ := ha p' cv z
          exact ⟨c0, z1, grown _ _ z2 codeO_ne⟩
        · exact ⟨c', rfl, upd_same⟩
      · obtain ⟨qs, a1, a2, a3⟩ := hT p hp
        refine ⟨qs, (upd_ne (ne_of_none a1 newC)).trans ((upd_ne hb).trans a1), a2, fun p' cv hcv => ?_⟩
        obtain ⟨c0, z1, z2⟩ := a3 p' cv hcv
        exact ⟨c0, z1, grown _ _ z2 codeO_ne⟩
    have gl2 : h2.Ns mainGlobals X.mg := gl.extBut hx TB.gP
    refine wpAny_bind (wpAny_builtinsFor gl2 e1 e2 (hx _ _ e3 e4) e5 e6 e7 (wpAny_bind (wpAny_nsGet gl2 (wpAny_bind (wpAny_pure (wpAny_newObj_type ?_ (by size_fits)))))))
    have newF := I2.hok.fresh (Nat.le_refl _)
    have stay := same_new (o := LamO h2.objs.size ⟨params, body, scope, X.env.qual ++ "<lambda>", cloFrom X.env.cells scope.names [], c', d⟩) newF
    refine h h2.objs.size c' _ _ (lam_known (F := ⟨params, body, scope, X.env.qual ++ "<lambda>", cloFrom X.env.cells scope.names [], c', d⟩) (pm := (X.mg "__name__").getD .none) (ctv := ctv) I2) (grown.trans (ExtN.of stay)) (tabs.ext stay) ?_ upd_same (stay _ _ upd_same)
    exact I1.hok.fresh (Nat.le_trans hge (Nat.le_of_lt hlt))
/-- lambda: body, as a value -/
def tLamV (T : List (Addr × Str)) (mk : Addr → LF) : TE := fun _ H Q => Tabs T H ∧ ∀ f c' H1, ExtN H H1 → Tabs T H1 → H f = none → LamAt H1 f (mk c') → Q (.ref f) H1
/-- lambda x = v: body -/
def tLamD (T : List (Addr × Str)) (mk : Addr → Addr → LF) : TE := fun _ H Q => Tabs T H ∧ ∀ f c' t H1, ExtN H H1 → Tabs T H1 → H f = none → LamAt H1 f (mk c' t) → Q (.ref f) H1
abbrev lfOf (X : Cx) (params : Arguments) (body : Expr) (scope : Scope) (d : Option (Addr × V)) (c' : Addr) : LF := ⟨params, body, scope, X.env.qual ++ "<lambda>", cloFrom X.env.cells scope.names [], c', d⟩
theorem pe_lamV {T : List (Addr × Str)} {c P : Addr} {params : Arguments} {body : Expr} {scope : Scope} {pos : Pos} (TB : TabB X.base X.mg c P) (hcode : X.env.code = .ref c) (hm : (P, X.env.qual ++ "<lambda>") ∈ T) (hu : ∀ p ∈ T, p.1 = P → p.2 = X.env.qual ++ "<lambda>")
    (hfree : ∀ y ∈ scope.names, y.2 = .free → X.env.scope.names.lookup y.1 = some .cell ∨ X.env.scope.names.lookup y.1 = some .free) (hdef : defaultsOf params X.env = ([], [])) :
    PE X (.Lambda params body scope pos) (tLamV T (lfOf X params body scope none)) := by
  constructor
  rintro pins s σ H Q I ⟨hT, h⟩
  have has : ∀ y ∈ scope.names, y.2 = .free → ∃ c, X.env.cells.lookup y.1 = some c := fun y hy e => (hfree y hy e).elim (fun k => I.ok.has _ (.inl k)) fun k => I.ok.has _ (.inr k)
  refine PySem.W.kla_eval hdef ?_
  rw [makeFunction_eq]
  simp only [List.zip_nil_right, List.filterMap_nil, List.isEmpty_nil, if_true, pure_bind]
  refine lam_tail (d := none) I TB hcode hm hu hT has fun f c' H1 s' I1 e1 t1 nf hf hc => ?_
  exact ⟨.ref f, H1, I1, rfl, h f c' H1 e1 t1 nf ⟨hf, hc, fun t v z => by cases z⟩⟩
theorem pe_lamD {T : List (Addr × Str)} {c P : Addr} {params : Arguments} {body e : Expr} {scope : Scope} {pos : Pos} {v : V} (TB : TabB X.base X.mg c P) (hcode : X.env.code = .ref c) (hm : (P, X.env.qual ++ "<lambda>") ∈ T) (hu : ∀ p ∈ T, p.1 = P → p.2 = X.env.qual ++ "<lambda>")
    (hfree : ∀ y ∈ scope.names, y.2 = .free → X.env.scope.names.lookup y.1 = some .cell ∨ X.env.scope.names.lookup y.1 = some .free) (he : PE X e (tC v)) (hdef : defaultsOf params X.env = ([eval e X.env], []) := by rfl) :
    PE X (.Lambda params body scope pos) (tLamD T fun c' t => lfOf X params body scope (some (t, v)) c') := by
  constructor
  rintro pins s σ H Q I ⟨hT, h⟩
  have has : ∀ y ∈ scope.names, y.2 = .free → ∃ c, X.env.cells.lookup y.1 = some c := fun y hy e => (hfree y hy e).elim (fun k => I.ok.has _ (.inl k)) fun k => I.ok.has _ (.inr k)
  rw [arm_eval_Lambda, hdef]
  refine wpAny_bind (wpAny_bind (thn (he.run pins s σ H (fun w H' => w = v ∧ H' = H) I ⟨rfl, rfl⟩) ?_))
  rintro u s1 ⟨w, K', I1, rv, e1, e2⟩
  subst e2
  rw [e1] at rv
  refine wpAny_bind (wpAny_holding (wpAny_pure (wpAny_pure (wpAny_bind (wpAny_holding (wpAny_pure ?_))))))
  rw [makeFunction_eq]
  simp only [List.zip_nil_right, List.filterMap_nil, List.isEmpty_nil, List.isEmpty_cons, if_true, Bool.false_eq_true, if_false, pure_bind]
  refine wpAny_bind (wpAny_newTextTuple ?_)
  have fresh := I1.hok.fresh (Nat.le_refl _)
  have I2 := I1.laid (t' := s1.toks) (a := s1.heap.objs.size) (o := .tup [v]) (h' := s1.heap.push { cls := .type "tuple", data := .seq [u].toArray }) (fun b o z => Heap.get?_push_of_some _ z) (Nat.le_refl _)
    ⟨by show 1 ≤ sizeLine; decide, [u], .cons rv .nil, ⟨_, Heap.get?_push_size _ rfl, rfl, _, rfl⟩⟩
  have keep := same_new (o := .tup [v]) fresh
  refine lam_tail (d := some (s1.heap.objs.size, v)) I2 TB hcode hm hu (hT.ext keep) has fun f c' H1 s' I3 e1 t1 nf hf hc => ?_
  refine ⟨.ref f, H1, I3, rfl, h f c' _ H1 ((ExtN.of keep).trans e1) t1 (none_of keep nf) ⟨hf, hc, fun t x z => ?_⟩⟩
  cases z
  exact e1 _ _ upd_same (fun ps z => by cases z)
end
/-! ### its call -/
/-- its own names are none of the def's; it captures the def's -/
structure LamN (N : List Str) (sc scope : Scope) : Prop where
  kind : scope.kind = .function
  co : scope.isCoroutine = false
  gen : scope.isGenerator = false
  nocell : ∀ y ∈ scope.names, y.2 ≠ .cell
  away : ∀ y ∈ scope.names, y.2 = .local → y.1 ∉ N
  free : ∀ y ∈ scope.names, y.2 = .free → sc.names.lookup y.1 = some .cell ∨ sc.names.lookup y.1 = some .free
def lamNB (N : List Str) (sc scope : Scope) : Bool :=
  decide (scope.kind = .function) && (!scope.isCoroutine && (!scope.isGenerator && scope.names.all fun y => !decide (y.2 = .cell) && ((!decide (y.2 = .local) || !decide (y.1 ∈ N)) && (!decide (y.2 = .free) || (decide (sc.names.lookup y.1 = some .cell) || decide (sc.names.lookup y.1 = some .free))))))
theorem lamN_by {N : List Str} {sc scope : Scope} (h : lamNB N sc scope = true) : LamN N sc scope := by
  unfold lamNB at h
  simp only [Bool.and_eq_true, Bool.or_eq_true, Bool.not_eq_true', decide_eq_true_eq, decide_eq_false_iff_not, List.all_eq_true] at h
  obtain ⟨h1, h2, h3, h4⟩ := h
  exact ⟨h1, h2, h3, fun y hy => (h4 y hy).1, fun y hy e => (h4 y hy).2.1.resolve_left fun z => z e, fun y hy e => (h4 y hy).2.2.resolve_left fun z => z e⟩
section
variable {X : Cx} {pins : List (Addr × Obj)} {σ : L2.St} {H HZ : Hp} {s s1 : Shared}
/-- the lambda's frame, entered at s1 from below: what X told of its names it tells still -/
theorem lam_begin {A : Around} {outer : List Env} {E : XK} {scope : Scope} {f c' : Addr} {h₁ : Heap} {tk : Nat} {m : Str → Option Value} (I : Inv X pins σ H s) (L : LamN X.N X.env.scope scope) (e0 : Env0 X.prog X.w X.K X.mg X.base A outer s1 HZ) (hd : A.handled = none)
    (un : Un (frs X.stack) [] H HZ s.heap s1.heap) (hns : h₁.Ns s1.heap.objs.size m) (kp : ∀ b o, s1.heap.get? b = some o → h₁.get? b = some o) :
    Inv (lamCx X A outer s1 HZ E scope f c') [] σ HZ { s1 with heap := h₁, toks := tk } := by
  have has : ∀ y ∈ scope.names, y.2 = .free → ∃ c, X.env.cells.lookup y.1 = some c := fun y hy e => (L.free y hy e).elim (fun k => I.ok.has _ (.inl k)) fun k => I.ok.has _ (.inr k)
  have down : ∀ {y c}, (cloFrom X.env.cells scope.names []).lookup y = some c → X.env.cells.lookup y = some c := fun e => NdefX.clo_cm has e
  have live : ∀ {y c v}, X.env.cells.lookup y = some c → s.heap.IsCell c v → h₁.IsCell c v := by
    rintro y c v e ⟨o, ho, hdat⟩
    obtain ⟨sl, z⟩ := un.any ho (I.freeC y c e) (by simp)
    exact ⟨_, kp _ _ z, hdat⟩
  have none_ex : ∀ b : Addr, b ∉ (lamCx X A outer s1 HZ E scope f c').ex := fun b z => nomatch (show b ∈ ([] : List Addr) from z)
  constructor
  · constructor
    · exact e0.mod
    · exact L.kind
    · rfl
    · rfl
    · exact Nat.le_refl _
    · intro y z c e1 e2
      exact I.ok.inj y z c (down e1) (down e2)
    · rintro y (k | k)
      · exact absurd rfl (L.nocell _ (PySem.mem_of_lookup k))
      · have hy : (y, NameKind.free) ∈ scope.names := PySem.mem_of_lookup k
        obtain ⟨c, hc⟩ := has _ hy rfl
        exact ⟨c, NdefX.clo_has has hy hc⟩
    · intro y c z
      cases (show false = true from z)
    · exact fun _ => hd
    · exact Around.frames_deeper e0.frames
    · exact .inr ⟨rfl, rfl⟩
    · exact fun b z => absurd z (none_ex b)
    · exact e0.bs
    · exact e0.bsz
    · exact fun b _ _ => none_ex b
    · exact fun b z => absurd z (none_ex b)
    · exact e0.funs
    · exact e0.frf
  · rfl
  · exact e0.bare
  · exact Un.kept kp
  · refine ⟨m, hns, ?_⟩
    rintro i y v e1 e2 (k | k | k)
    · exact absurd (List.mem_of_getElem? e1) (L.away _ (PySem.mem_of_lookup k) rfl)
    · exact absurd rfl (L.nocell _ (PySem.mem_of_lookup k))
    · have hy : (y, NameKind.free) ∈ scope.names := PySem.mem_of_lookup k
      obtain ⟨c, hc⟩ := has _ hy rfl
      obtain ⟨m', _, look⟩ := I.loc
      have up := L.free _ hy rfl
      obtain ⟨u, r, z⟩ := look i y v e1 e2 (up.elim (fun k => .inr (.inl k)) fun k => .inr (.inr k))
      refine ⟨u, r, .inr ⟨.inr k, c, NdefX.clo_has has hy hc, ?_⟩⟩
      rcases z with ⟨z, _⟩ | ⟨_, c2, e3, z⟩
      · have z : X.env.scope.names.lookup y = some .local := z
        rcases up with k | k <;> (rw [k] at z; cases z)
      · cases e3.symm.trans hc
        exact live hc z
  · intro y c e
    obtain ⟨v, z⟩ := I.cell y c (down e)
    exact ⟨v, live (down e) z⟩
  · exact e0.hok.fresh (Nat.le_refl _)
  · intro y c e
    obtain ⟨v, o, ho, _⟩ := I.cell y c (down e)
    exact un.free c o ho (I.freeC y c (down e)) (by simp)
  · exact fun q z => nomatch (show q ∈ ([] : List (Addr × Obj)) from z)
  · exact e0.hok.kept kp
  · exact I.len
/-- how its call binds: nothing, or its default -/
def BindsL (F : LF) : Prop := ∀ (pm ctv : Value) (M : Model) (A : Around) (E : Value → Shared → Prop) (s : Shared) (Q : List (Str × Value) → Shared → Prop), (∀ t v, F.d = some (t, v) → ∃ u, IsTup s.heap t #[u]) →
  (∀ binds, (∀ y ∈ binds, F.scope.names.lookup y.1 = some .local) → Q binds s) → wpAny M A (bindArgs (F.fd pm ctv) ⟨[], []⟩) Q E s
theorem bindsL0 {F : LF} (h : ∀ pm ctv, bindArgs (F.fd pm ctv) ⟨[], []⟩ = pure []) : BindsL F := by
  intro pm ctv M A E s Q _ q
  rw [h]
  exact wpAny_pure (q [] fun y hy => nomatch hy)
theorem bindsL1 {F : LF} {t : Addr} {v : V} {x : Str} (hd : F.d = some (t, v)) (hx : F.scope.names.lookup x = some .local) (h : ∀ pm ctv u, ∃ k, bindArgs (F.fd pm ctv) ⟨[], []⟩ = seqItems? (.ref t) >>= k ∧ k (some #[u]) = pure [(x, u)]) : BindsL F := by
  intro pm ctv M A E s Q lies q
  obtain ⟨u, o, ho, _, n, hdat⟩ := lies t v hd
  obtain ⟨k, e1, e2⟩ := h pm ctv u
  rw [e1]
  refine wpAny_bind (wpAny_seqItems ho hdat ?_)
  rw [e2]
  exact wpAny_pure (q _ fun y hy => by rw [List.mem_singleton.mp hy]; exact hx)
theorem lam_act {CXg : CXT} {Eg : XK} {Ng : List Str} {qg : Str} {sg : Scope} {g f c' : Addr} {cdg : Value} {params : Arguments} {body : Expr} {scope : Scope} {d : Option (Addr × V)} {k i : Nat} {a : Str} {pn : List (Addr × Obj)} {xe : Value → Shared → Prop} {W : WX} {E : XK} {tb : TE} {p1 p2 : Pos}
    (I : Inv X pins σ H s) (L : LamN X.N X.env.scope scope) (hbind : BindsL (lfOf X params body scope d c'))
    (tk : Takes ((cxOf CXg X.prog X.w X.K X.mg X.base Ng qg sg g cdg X.A X.stack s H Eg).tr pn xe) W) (hW : ∀ cls d σ' H', E cls d H' → W cls d σ' H') (hr : Room (k + 1) (X.A.deeper (envOfC qg sg s.heap.objs.size g cdg)))
    (hbody : ∀ (A : Around) (outer : List Env) (s : Shared) (H : Hp), Room k (A.deeper (lamEnv X scope s.heap.objs.size f c')) → PE (lamCx X A outer s H E scope f c') body tb)
    (hN : Ng[i]? = some a) (hv : Vis sg a) (hd : (a == ("__debug__" : Str)) = false := by decide) (hcd : (a == ("__classdict__" : Str)) = false := by decide) :
    PE ((cxOf CXg X.prog X.w X.K X.mg X.base Ng qg sg g cdg X.A X.stack s H Eg).tr pn xe) (.Call (.Name a p1) [] [] p2)
      (fun σZ HZ Q => σZ[i]? = some (some (.ref f)) ∧ LamAt HZ f (lfOf X params body scope d c') ∧ tb σ HZ Q) := by
  constructor
  rintro pinsZ sZ σZ HZ Q IZ ⟨held, lam, asks⟩
  have look := (pe_var (pos := p1) (i := i) hN hv hd hcd).run pinsZ sZ σZ HZ (fun v H1 => v = .ref f ∧ H1 = HZ) IZ ⟨.ref f, held, rfl, rfl⟩
  refine wpAny_Call_Name_kw (thn look ?_)
  rintro u s1 ⟨v, H1, I1, rel, e1, e2⟩
  subst e2
  subst e1
  cases (show u = Value.ref f from rel)
  obtain ⟨⟨od, sl, pm, ctv, lies⟩, _, _⟩ := I1.hok f _ lam.fn
  obtain ⟨⟨oc, vs, t, hoc, hdc, hvc⟩, _, _⟩ := I1.hok c' _ lam.code
  refine PySem.W.callWith_F0 ⟨_, _, _, _, lies⟩ ?_
  have ran : codeAny (model X.prog X.w) (X.A.deeper (envOfC qg sg s.heap.objs.size g cdg)) (.call (.ref f) ⟨[], []⟩) (CR (L2.CX X.prog X.w) (envOfC qg sg s.heap.objs.size g cdg :: X.stack) X.prog X.w H1 s1 Q E) s1 := by
    refine PySem.W.kla_callFunE hr.depth lies rfl L.co L.gen rfl ⟨c', oc, vs, t, rfl, hoc, hdc, hvc⟩ (hbind pm ctv _ _ _ _ _ (fun t v z => ?_) fun binds hl => ?_)
    · obtain ⟨_, its, vals, tup⟩ := I1.hok t _ (lam.dflt t v z)
      cases vals with
      | cons _ r =>
        cases r with
        | nil => exact ⟨_, tup⟩
    · refine wpAny_newFunctionEnv L.nocell hl (fun h₁ hns hsb => ⟨I1.nolimit.fresh _ hsb, ?_⟩) L.kind
      show codeAny _ _ (.expr body (lamEnv X scope s1.heap.objs.size f c')) _ _
      have kp : ∀ b o, s1.heap.get? b = some o → h₁.get? b = some o := fun b o e => hsb.extBut b o (Nat.ne_of_lt (Heap.lt_size e)) (Heap.get?_push_of_some _ e)
      have J := lam_begin (E := E) (f := f) (c' := c') (tk := s1.toks + binds.length) I L I1.env0 hr.hd (show Un (frs X.stack) [] H H1 s.heap s1.heap from I1.base) hns kp
      refine PySem.W.kla_codeExpr (wpAny_mono ((hbody _ _ s1 H1 (hr.deeper _)).run [] _ _ H1 Q J asks) ?_ fun e s' out => out)
      rintro v s' ⟨w', H', J', rv, q⟩
      exact ⟨w', H', J'.os, J'.bare, J'.base, J'.hok, rv, q⟩
  refine wpAny_call (codeAny_mono ran ?_)
  have passes : Passes (L2.CX X.prog X.w) ((cxOf CXg X.prog X.w X.K X.mg X.base Ng qg sg g cdg X.A X.stack s H Eg).tr pn xe) E := passes_call tk hW
  rintro (e | fl) s' out
  · exact passes pinsZ σZ H1 s1 e s' I1 out
  · cases fl
    all_goals first | exact I1.after out | exact False.elim out
/-- x(f), f a lambda that lies: X is the def that made it, at the state of the call -/
theorem run_lam {TT : (XK → Hp → VK → Prop) → Hp → VK → Prop} {x a : Str} {g f c' : Addr} {k : Nat} {pg : Arguments} {bg : List Stmt} {sg : Scope} {dV kV doc pm cdv ct oc : Value} {an od : Option Addr} {osl : Array (Option Value)} {Ng : List Str}
    {params : Arguments} {body : Expr} {scope : Scope} {d : Option (Addr × V)} {t : XK → TE} {Q : VK} (I : Inv X pins σ H s)
    (lk : X.K.lookup g = some ⟨oc, od, .func (PySem.W.fnOf x x pg bg sg dV kV doc pm an cdv ct), osl⟩) (hcg : PySem.W.codeIn X.K cdv x = true) (hb : L2.Binds X.K (PySem.W.fnOf x x pg bg sg dV kV doc pm an cdv ct) [a] []) (Sg : FnScope Ng [a] sg) (hNg : Ng[0]? = some a) (hva : Vis sg a)
    (hG : GivesTo X Ng x sg g cdv bg a (X.env.qual ++ "<lambda>") TT) (hr : Room (k + 2) X.A) (L : LamN X.N X.env.scope scope) (hbind : BindsL (lfOf X params body scope d c'))
    (hbody : ∀ (A : Around) (outer : List Env) (s : Shared) (H : Hp) (E : XK), Room k (A.deeper (lamEnv X scope s.heap.objs.size f c')) → PE (lamCx X A outer s H E scope f c') body (t E))
    (lam : LamAt H f (lfOf X params body scope d c')) (asks : TT (fun E H' Q' => LamAt H' f (lfOf X params body scope d c') ∧ t E σ H' Q') H Q)
    (hd : (a == ("__debug__" : Str)) = false := by decide) (hcd : (a == ("__classdict__" : Str)) = false := by decide) :
    codeAny (model X.prog X.w) X.A (.call (.ref g) ⟨[.ref f], []⟩) (CR C8.CX0 X.stack X.prog X.w H s Q C8.E0) s := by
  refine run_ofS (N := Ng) (ps := [a]) (us := [.ref f]) (vs := [.ref f]) lk hcg Sg hr I.env0 (hb s [.ref f] I.kIn rfl) (.cons rfl .nil) rfl fun hr' => ?_
  have act : ∀ (W : WX) (pn : List (Addr × Obj)) (xe : Value → Shared → Prop) (E : XK) (p1 p2 : Pos), Takes ((cxOf C8.CX0 X.prog X.w X.K X.mg X.base Ng x sg g cdv X.A X.stack s H C8.E0).tr pn xe) W → (∀ cls d σ' H', E cls d H' → W cls d σ' H') →
      PE ((cxOf C8.CX0 X.prog X.w X.K X.mg X.base Ng x sg g cdv X.A X.stack s H C8.E0).tr pn xe) (.Call (.Name a p1) [] [] p2) (fun σZ HZ Q => σZ[0]? = some (some (.ref f)) ∧ HZ c' = some (CodeO c' (X.env.qual ++ "<lambda>")) ∧ (LamAt HZ f (lfOf X params body scope d c') ∧ t E σ HZ Q)) := by
    intro W pn xe E p1 p2 tk hW
    have step := lam_act (i := 0) (p1 := p1) (p2 := p2) I L hbind tk hW hr' (fun A outer s H hr2 => hbody A outer s H E hr2) hNg hva hd hcd
    exact ⟨fun pins s σ H Q J h => step.run pins s σ H Q J ⟨h.1, h.2.2⟩⟩
  obtain ⟨t', ht', hq'⟩ := hG f c' s H Q (fun E H' Q' => LamAt H' f (lfOf X params body scope d c') ∧ t E σ H' Q') act lam.code asks
  exact ⟨t', ht'.nox, hq'⟩
end
end Own

namespace Own
open PySem PySem.Spec PyProof.Rows L2 SX LamX
section
variable {X : Cx}
/-- an element of a comprehension that leans on the def's own names: back leads from the block to the def -/
def RunsIn (X : Cx) (scope : Scope) (vs : List Nat) (elt : Expr) (te : TE) : Prop :=
  ∀ (s : Shared) (H : Hp) (C : Addr) (cl : List (Str × Addr)) (fp : List Addr) (pins pins' : List (Addr × Obj)) (σ' : L2.St) (H' : Hp) (s' : Shared) (Q : VK), Inv (X.blk s H scope (compEnvC scope cl C X.env) fp) pins' σ' H' s' →
    (∀ (p : List (Addr × Obj)) (τ : L2.St) (G : Hp) (z : Shared), Inv (X.blk s H scope (compEnvC scope cl C X.env) fp) p τ G z → Inv X pins (wipe σ' vs) G z) → te σ' H' Q →
    wpAny (model X.prog X.w) X.A (eval elt (compEnvC scope cl C X.env)) (fun v z => EP (X.blk s H scope (compEnvC scope cl C X.env) fp) pins' σ' Q v z) (fun _ _ => False) s'
theorem pe_lcW {elt tg iter : Expr} {scope : Scope} {own : List (Str × Nat)} {pos : Pos} {wi : TI} {g : TG} {te : TE} (hc : X.calm = true) (hN : X.N.Nodup) (hi : PI X tg iter wi) (ok : BlkOk X.N X.env.scope scope own)
    (hg : ∀ (s : Shared) (H : Hp) (C : Addr) (cl : List (Str × Addr)) (fp : List Addr), PG (X.blk s H scope (compEnvC scope cl C X.env) fp) tg g)
    (he : RunsIn X scope (own.map (·.2)) elt te) (hs : ∀ x, foldedSetIterable iter X.env x = pure x := by intro _; rfl) :
    PE X (.ListComp elt [⟨tg, iter, [], 0⟩] scope pos) (tLc wi g tYes te (own.map (·.2))) := by
  constructor
  intro pins s σ H Q I asks
  rw [eval_ListComp]
  have has : ∀ y ∈ scope.names, y.2 = .free → ∃ c, X.env.cells.lookup y.1 = some c := fun y hy e => (ok.free y hy e).elim (fun k => I.ok.has _ (.inl k)) fun k => I.ok.has _ (.inr k)
  refine wpAny_comprehension_free (use := none) rfl hs (closure_ok has) ok.kind (fun y hy e => (ok.uniq y hy).trans (congrArg some e)) (thn (hi.run pins s σ H _ I asks) fun _ sa begun => thn begun ?_)
  rintro _ s2 ⟨it, fp, stands, J, H2, rfl, I2, T, st2, f2, q⟩
  refine wpAny_newObj_type (newEnv_comp ?_) (by show 0 ≤ sizeLine; decide)
  obtain ⟨D, eD⟩ : ∃ D, D = s2.heap.objs.size := ⟨_, rfl⟩
  rw [← eD]
  have newD : H2 D = none := I2.hok.fresh (Nat.le_of_eq eD.symm)
  obtain ⟨W, ⟨m0, w0⟩, turn⟩ := q D newD
  obtain ⟨s3, e3⟩ : ∃ s3 : Shared, s3 = { s2 with heap := s2.heap.push { cls := .type "list", data := .seq ([] : List Value).toArray } } := ⟨_, rfl⟩
  rw [← e3]
  have h3 : s3.heap = s2.heap.push { cls := .type "list", data := .seq ([] : List Value).toArray } := by rw [e3]
  have I3 : Inv X pins σ (upd H2 D (.lst [])) s3 := by
    have := I2.laid (t' := s2.toks) (a := D) (o := .lst []) (h' := s2.heap.push { cls := .type "list", data := .seq ([] : List Value).toArray }) (fun b o z => Heap.get?_push_of_some _ z) (Nat.le_of_eq eD.symm)
      ⟨Nat.zero_le _, [], 0, .nil, by rw [eD]; exact Heap.get?_push_size _ rfl⟩
    rw [e3]
    exact this
  have inside : ∀ b ∈ fp, FpOk X pins (upd H2 D (.lst [])) b ∧ b < s3.heap.objs.size := by
    intro b hb
    obtain ⟨o, z, _⟩ := T.obj _ _ st2 b hb
    have lt := Heap.lt_size z
    have ne : b ≠ D := by rw [eD]; exact Nat.ne_of_lt lt
    exact ⟨⟨(upd_ne ne).trans (f2 b hb).1, (f2 b hb).2⟩, by rw [h3, Heap.size_push]; exact Nat.lt_succ_of_lt lt⟩
  have st3 : stands 0 s3.heap := T.keep _ _ _ st2 fun b _ o z => by rw [h3]; exact Heap.get?_push_of_some _ z
  have I4 := block_start I3 ok hN inside
  have new3 : ∀ b ∈ fp, (upd H2 D (.lst [])) b = none := fun b hb => (inside b hb).1.1
  obtain ⟨H3, eH⟩ : ∃ H3, H3 = upd H2 D (.lst []) := ⟨_, rfl⟩
  rw [← eH] at I3 I4 inside new3 w0
  obtain ⟨cl, ecl⟩ : ∃ cl, cl = cellsFrom (s3.heap.objs.size + 1) scope.names (cloFrom X.env.cells scope.names []) := ⟨_, rfl⟩
  obtain ⟨s4, e4⟩ : ∃ s4 : Shared, s4 = { s3 with heap := pushCells (s3.heap.push { cls := .type "dict", data := .dict #[] }) scope.names } := ⟨_, rfl⟩
  rw [← ecl, ← e4] at I4
  have st4 : stands 0 s4.heap := T.keep _ _ _ st3 fun b _ o z => by rw [e4]; exact pushCells_keeps _ _ _ _ (Heap.get?_push_of_some _ z)
  -- from the block back to the def
  have back : ∀ (p : List (Addr × Obj)) (τ : L2.St) (G : Hp) (z : Shared), Inv (X.blk s3 H3 scope (compEnvC scope cl s3.heap.objs.size X.env) fp) p τ G z → Inv X pins σ G z := by
    intro p τ G z J'
    refine I3.call' (ch := fp) J'.os J'.base J'.hok J'.bare fun b hb => ?_
    obtain ⟨_, a1, _, a3, a4, a5⟩ := (inside b hb).1
    exact ⟨a3, a1, a4, a5⟩
  have held : ∀ {p : List (Addr × Obj)} {τ : L2.St} {G : Hp} {z : Shared}, Inv (X.blk s3 H3 scope (compEnvC scope cl s3.heap.objs.size X.env) fp) p τ G z → (∀ b ∈ fp, G b = none) → ∀ b ∈ fp, FpOk (X.blk s3 H3 scope (compEnvC scope cl s3.heap.objs.size X.env) fp) [] G b :=
    fun J' hn b hb => ⟨hn b hb, (J'.ok.exf b hb).1, J'.ok.exfs b hb, .inl hb, fun x c z => (J'.ok.exf b hb).2 x c z, fun p hp => nomatch (show p ∈ ([] : List (Addr × Obj)) from hp)⟩
  show codeAny _ _ (.compStart (.ListComp elt [⟨tg, iter, [], 0⟩] scope pos) 0 (.ref it) (.ref D) (compEnvC scope (cellsFrom (s3.heap.objs.size + 1) scope.names (cloFrom X.env.cells scope.names [])) s3.heap.objs.size X.env)) _ { s3 with heap := pushCells (s3.heap.push { cls := .type "dict", data := .dict #[] }) scope.names }
  rw [← ecl, ← e4]
  have looped : codeAny (model X.prog X.w) X.A (.compLoop (.ListComp elt [⟨tg, iter, [], 0⟩] scope pos) 0 (.ref it) (.ref D) (compEnvC scope cl s3.heap.objs.size X.env)) (compPost (model X.prog X.w) X.A X.xe none (fun v z => EP X pins σ Q v z) (.ref D) s3.heap.objs.size) s4 := by
    refine compLoop_any (fun n z => ∃ i G, Inv (X.blk s3 H3 scope (compEnvC scope cl s3.heap.objs.size X.env) fp) [] (wipe σ (own.map (·.2))) G z ∧ stands i z.heap ∧ (∀ b ∈ fp, G b = none) ∧ W i n G) ?_ m0 ⟨0, H3, I4, st4, new3, w0⟩
    rintro n s5 ⟨i, G, J5, st5, n5, w5⟩
    rcases turn i n G w5 with ⟨over, last⟩ | ⟨more, Nx, down, step⟩
    · refine thnF (T.done (X.blk s3 H3 scope (compEnvC scope cl s3.heap.objs.size X.env) fp) rfl rfl rfl hc i [] s5 _ G (fun _ _ => False) J5 (held J5 n5) st5 over) ?_
      rintro _ s6 ⟨rfl, J6⟩
      have I6 := back _ _ _ _ J6
      obtain ⟨m, ns, _⟩ := J6.loc
      have off : G s3.heap.objs.size = none := J6.free
      obtain ⟨a0, a1, a2, a3, a4, a5⟩ := I3.fpOk (Nat.le_refl _) off
      exact ⟨m, ns, fun h'' same => ⟨.ref D, G, I6.turned (t' := s6.toks) (fun b o nb z => (same.2 b nb).trans z) a0 a1 a3 a4 a5, rfl, last⟩⟩
    · refine thnF (T.item (X.blk s3 H3 scope (compEnvC scope cl s3.heap.objs.size X.env) fp) rfl rfl rfl hc i [] s5 _ G (fun _ _ => False) J5 (held J5 n5) st5 more) ?_
      rintro _ s6 ⟨u, rfl, taken⟩
      refine thnF taken ?_
      rintro _ s7 ⟨x, H7, J7, r7, y7, st7, n7⟩
      have P7 := J7.pinned (held J7 n7) (T.obj _ _ st7)
      refine thnF ((hg _ _ _ _ _).run _ s7 _ H7 x u _ P7 r7 (step x H7 y7)) ?_
      rintro _ s8 ⟨σ8, H8, J8, same8, q8⟩
      refine wpAny_tests_nil ?_
      have q8 : te σ8 H8 fun y H4 => ∃ acc, H4 D = some (.lst acc) ∧ acc.length < sizeLine ∧ Nx (upd H4 D (.lst (acc ++ [y]))) := q8
      have home : ∀ (p : List (Addr × Obj)) (τ : L2.St) (G : Hp) (z : Shared), Inv (X.blk s3 H3 scope (compEnvC scope cl s3.heap.objs.size X.env) fp) p τ G z → Inv X pins (wipe σ8 (own.map (·.2))) G z := by
        intro p τ G' z J'
        rw [same8]
        exact (back p τ G' z J').weak (wipe_length _ _) fun j v e => (wipe_some e).1
      show (if true = true then _ else _)
      rw [if_pos rfl]
      refine thnF (he s3 H3 s3.heap.objs.size cl fp pins _ σ8 H8 s8 _ J8 home q8) ?_
      rintro v9 s9 ⟨yv, H9, J9, r9, acc, hD9, hz9, nx⟩
      refine app_ok (X := X.blk s3 H3 scope (compEnvC scope cl s3.heap.objs.size X.env) fp) J9 hD9 hz9 r9 fun s10 J10 => ?_
      obtain ⟨m', lt, w'⟩ := down _ nx
      have fixed : ∀ b ∈ fp, ∀ o, s7.heap.get? b = some o → s10.heap.get? b = some o ∧ (upd H9 D (.lst (acc ++ [yv]))) b = none := by
        intro b hb o z
        have := J10.pin (b, o) (List.mem_append_right _ (List.mem_append_right _ (mem_pinsAt hb z)))
        exact ⟨this.1, this.2.1⟩
      refine ⟨m', lt, i + 1, _, (J10.unpinned (pins := [])).weak ?_ ?_, T.keep _ _ _ st7 fun b hb o z => (fixed b hb o z).1, fun b hb => ?_, w'⟩
      · rw [← same8, wipe_length]
      · intro j v e
        rw [← same8] at e
        exact (wipe_some e).1
      · obtain ⟨o, z, _⟩ := T.obj _ _ st7 b hb
        exact (fixed b hb o z).2
  exact codeAny_compStart_list looped (T.self X.A 0 _ _ _ st4 looped)
/-- a lambda of X's making, and its reading -/
def LamB (X : Cx) (k : Nat) (F : LF) (t : XK → TE) : Prop :=
  ∃ (params : Arguments) (body : Expr) (scope : Scope) (d : Option (Addr × V)) (c' : Addr), F = lfOf X params body scope d c' ∧ LamN X.N X.env.scope scope ∧ BindsL F ∧
    ∀ (f : Addr) (A : Around) (outer : List Env) (s : Shared) (H : Hp) (E : XK), Room k (A.deeper (lamEnv X scope s.heap.objs.size f c')) → PE (lamCx X A outer s H E scope f c') body (t E)
/-- x(y), y a lambda that lies -/
def tTryL (X : Cx) (k i : Nat) (TT : (XK → Hp → VK → Prop) → Hp → VK → Prop) : TE := fun σ H Q => ∃ f F t, σ[i]? = some (some (.ref f)) ∧ LamB X k F t ∧ LamAt H f F ∧ TT (fun E G Q' => LamAt G f F ∧ t E (wipe σ [i]) G Q') H Q
theorem runs_try {TT : (XK → Hp → VK → Prop) → Hp → VK → Prop} {scope : Scope} {x a y : Str} {g : Addr} {k i : Nat} {pg : Arguments} {bg : List Stmt} {sg : Scope} {dV kV doc pm cdv ct oc : Value} {an od : Option Addr} {osl : Array (Option Value)} {Ng : List Str} {p q pos : Pos}
    (hgl : ∀ (s : Shared) (H : Hp) (C : Addr) (cl : List (Str × Addr)) (fp : List Addr), Gl (X.blk s H scope (compEnvC scope cl C X.env) fp) x) (hm : X.mg x = some (.ref g)) (hk : PySem.W.keepIn X.K (.ref g) = true)
    (hv : ∀ (s : Shared) (H : Hp) (C : Addr) (cl : List (Str × Addr)) (fp : List Addr), PE (X.blk s H scope (compEnvC scope cl C X.env) fp) (.Name y q) (tVar i))
    (lk : X.K.lookup g = some ⟨oc, od, .func (PySem.W.fnOf x x pg bg sg dV kV doc pm an cdv ct), osl⟩) (hcg : PySem.W.codeIn X.K cdv x = true) (hb : L2.Binds X.K (PySem.W.fnOf x x pg bg sg dV kV doc pm an cdv ct) [a] []) (Sg : FnScope Ng [a] sg) (hNg : Ng[0]? = some a) (hva : Vis sg a)
    (hG : GivesTo X Ng x sg g cdv bg a (X.env.qual ++ "<lambda>") TT) (hr : Room (k + 2) X.A)
    (hdb : (x == ("__debug__" : Str)) = false := by decide) (hd : (a == ("__debug__" : Str)) = false := by decide) (hcd : (a == ("__classdict__" : Str)) = false := by decide) :
    RunsIn X scope [i] (.Call (.Name x p) [.Name y q] [] pos) (tTryL X k i TT) := by
  rintro s H C cl fp pins pins' σ' H' s' Q J home ⟨f, F, t, held, ⟨params, body, sc, d, c', rfl, L, bind, reads⟩, lam, asks⟩
  refine wpAny_Call_Name_kw (ld_glob J (hgl s H C cl fp) hm ?_ hdb)
  have args : PA (X.blk s H scope (compEnvC scope cl C X.env) fp) [.Name y q] (tCons (tVar i) tNil) := pa_cons (hv s H C cl fp) pa_nil
  refine PySem.W.callWith_K (h₀ := X.base) J.ok.mod.kin hk (thnF (wpAny_mono (args.run pos pins' s' σ' H' (fun vs G => vs = [.ref f] ∧ G = H') J ⟨_, held, rfl, rfl⟩) (fun _ _ z => z) fun _ _ z => z) ?_) (by rfl) (by rfl)
  rintro us s1 ⟨vs, G, J1, rel, e1, e2⟩
  subst e1
  subst e2
  cases rel with
  | cons r rest =>
    cases rest
    cases (show _ = Value.ref f from r)
    refine ⟨J1.kIn, wpAny_call (codeAny_mono (run_lam (home _ _ _ _ J1) lk hcg hb Sg hNg hva hG hr L bind (fun A outer s H E hr2 => reads f A outer s H E hr2) lam asks hd hcd) ?_)⟩
    rintro (e | fl) z out
    · exact (show False from out).elim
    · cases fl
      all_goals first | exact J1.after out | exact False.elim out
end
end Own

namespace Own
open PySem PySem.Spec PyProof.Rows L2 SX LamX
/-- C.m(k = v, ..), m a classmethod -/
def tCMethK (C : Addr) (sp : Sp) (gV : List V → List V → List V) (E : XK) (ta : TE) (tk : TA) : TE := fun σ H Q => ta σ H fun x H1 => x = .ref C ∧ tk σ H1 fun zs H2 => sp (gV [.ref C] zs) H2 Q E
theorem pe_cmk {X : Cx} {CX : CXT} {k : Nat} {C p g : Addr} {mc : Value} {fd : FuncData} {ps ks : List Str} {sp : Sp} {E : XK} {o : Expr} {m : Str} {pos apos : Pos} {kws : List Keyword} {ta : TE} {tk : TA} {pl : Sem Bool} {gg : List Value → List Value → List Value} {gV : List V → List V → List V}
    (he : PE X o ta) (r : ClX.CRead X.K C mc) (c : ClX.CMet X.K C mc m p g) (F : FnOk X.prog X.w X.K X.mg X.base CX k g fd ps sp) (hr : Room k X.A) (hb : KBinds X.K fd ps ks gg gV) (hx : Passes CX X E) (hkw : PK X kws tk)
    (hall : (backToKw pos (keywordEach kws X.env)).all (·.1.isSome) = true := by rfl)
    (hks : (backToKw pos (keywordEach kws X.env)).filterMap (·.1) = ks := by rfl)
    (hpl : ((backTo pos (starEach [] X.env)).any (·.1) || (backToKw pos (keywordEach kws X.env)).any (·.1.isNone)) = false := by rfl)
    (ht : eval (.Call (.Attribute o m apos) [] kws pos) X.env = (do
      let ov ← eval o X.env
      standAt apos.atName
      let (f, first) ← holding [ov] (getMethod ov m pl)
      callWith pos f first (backTo pos (starEach [] X.env)) (backToKw pos (keywordEach kws X.env))) := by rfl) :
    PE X (.Call (.Attribute o m apos) [] kws pos) (tCMethK C sp gV E ta tk) := by
  constructor
  intro pins s σ H Q I asks
  refine PySem.W.methodCall_KW (pl := pl) (thn (he.run pins s σ H _ I asks) ?_) ht
  rintro u s1 ⟨x, H1, I1, rx, rfl, q⟩
  cases (show u = Value.ref C from rx)
  refine ClX.getmethcm_ok I1 r c fun s2 I2 => PySem.W.callWith_of hpl (PySem.W.keeps_M (self := .ref C) c.fi) (evalArgs_kw2_nil hall (thn (hkw.run pos _ s2 σ H1 _ I2 q) ?_))
  rintro ws s3 ⟨zs, H2, I3, rz, q2⟩
  refine ⟨⟨ClX.pin_at I3, I3.kIn⟩, ?_⟩
  rw [hks]
  have rel := hb.rel (vs := [.ref C]) (us := [.ref C]) (.cons rfl .nil) rz
  have len : (gg [.ref C] ws).length = ps.length := by rw [← rel.length]; exact F.len _ _ _ _ q2
  have ran : wpAny (model X.prog X.w) X.A (call (.ref s1.heap.objs.size) [] (ks.zip ws)) (EP X ((s1.heap.objs.size, PySem.W.methodObj (.ref g) (.ref C)) :: pins) σ Q) X.xe s3 := by
    refine wpAny_call (PySem.W.method_call (ClX.pin_at I3) (codeAny_mono (F.run X.A X.stack s3 H2 ⟨[.ref C], ks.zip ws⟩ (gg [.ref C] ws) (gV [.ref C] zs) Q E hr I3.env0 (hb.to s3 [.ref C] ws I3.kIn len) rel q2) ?_))
    rintro (e | fl) z out
    · exact hx _ σ H2 s3 e z I3 out
    · cases fl
      all_goals first | exact I3.after out | exact False.elim out
  exact thn ran fun _ _ y => ClX.unpinE y
/-! ### templates of a text -/
def oneL (xs : List Nat) : List (List Nat) := xs.map fun c => [c]
theorem row_one {gs xs : List Nat} (h : ∀ c ∈ xs, c ∈ gs) : Row gs (oneL xs) := fun x hx => by
  obtain ⟨c, hc, rfl⟩ := List.mem_map.mp hx
  exact .inl ⟨c, h c hc, rfl⟩
theorem fill_one {gs xs : List Nat} (hg : Good gs) (h : ∀ c ∈ xs, c ∈ gs) (ys : List Nat) : fillL gs (oneL xs) ys = xs := by
  rw [← lf_eq hg (row_one h)]
  clear h
  induction xs with
  | nil => rfl
  | cons c r ih =>
    show lf1 gs ys [c] ++ ((oneL r).map (lf1 gs ys)).flatten = c :: r
    rw [ih]
    unfold lf1
    rw [if_pos (show [c].length = 1 from rfl)]
    rfl
def spRtS : Sp := fun vs H Q _ => ∃ gs xs : List Nat, vs = [tx gs, tx xs] ∧ gs.length ≤ 1000 ∧ xs.length ≤ 900 ∧ ∀ H', Same H H' → Q (tx (rTx gs (oneL xs))) H'
def spFx (C : Addr) : Sp := fun vs H Q _ => ∃ gs xs : List Nat, vs = [.ref C, tx gs, tx xs] ∧ Good gs ∧ (∀ c ∈ xs, c ∈ gs) ∧ xs.length ≤ 160 ∧ ∀ H' p, Same H H' → H p = none → Tm C H' p gs (oneL xs) → Q (.ref p) H'
def spFxX (C CI CT : Addr) : Sp := fun vs H _ E => ∃ cs xs : List Nat, vs = [.ref C, tx cs, tx xs] ∧ cs.length ≤ 1000 ∧
  ((¬ Valid cs ∧ ∀ H' d, Same H H' → H' d = some (.xd [("code", .str "InvalidLetters")]) → E (.ref CI) (some d) H') ∨
   (Good cs ∧ ∃ i, Bad cs xs i ∧ ∀ H' d, Same H H' → H' d = some (.xd [("position", .int (i : Nat)), ("code", .str "UnknownLetter")]) → E (.ref CT) (some d) H'))
def spTiI (CI : Addr) : Sp := fun vs H _ E => ∃ (x : V) (cs : List Nat) (t : V), vs = [x, tx cs, t] ∧ ¬ Valid cs ∧ cs.length ≤ 1000 ∧ ∀ H' d, Same H H' → H' d = some (.xd [("code", .str "InvalidLetters")]) → E (.ref CI) (some d) H'
def spBlX (C CI : Addr) : Sp := fun vs H _ E => ∃ cs : List Nat, vs = [.ref C, tx cs, .non] ∧ ¬ Valid cs ∧ cs.length ≤ 900 ∧ ∀ H' d, Same H H' → H' d = some (.xd [("code", .str "InvalidLetters")]) → E (.ref CI) (some d) H'
def cat3r {α : Type} : List α → List α → List α
  | [a], [b, c] => [a, c, b]
  | _, _ => []
theorem cat3r_rel {vs : List V} {us : List Value} {zs : List V} {ws : List Value} (r : Vals vs us) (z : Vals zs ws) : Vals (cat3r vs zs) (cat3r us ws) := by
  match vs, us, r with
  | [], _, .nil => exact .nil
  | _ :: _ :: _, _, .cons _ (.cons _ _) => exact .nil
  | [_], _, .cons a .nil =>
    match zs, ws, z with
    | [], _, .nil => exact .nil
    | [_], _, .cons _ .nil => exact .nil
    | [_, _], _, .cons b (.cons c .nil) => exact .cons a (.cons c (.cons b .nil))
    | _ :: _ :: _ :: _, _, .cons _ (.cons _ (.cons _ _)) => exact .nil
theorem lamB_of {X : Cx} {k : Nat} {H : Hp} {f c' : Addr} {params : Arguments} {body : Expr} {scope : Scope} {d : Option (Addr × V)} {t : XK → TE} (la : LamAt H f (lfOf X params body scope d c')) (L : LamN X.N X.env.scope scope) (b : BindsL (lfOf X params body scope d c'))
    (reads : ∀ (f : Addr) (A : Around) (outer : List Env) (s : Shared) (H : Hp) (E : XK), Room k (A.deeper (lamEnv X scope s.heap.objs.size f c')) → PE (lamCx X A outer s H E scope f c') body (t E)) : LamB X k (lfOf X params body scope d c') t :=
  ⟨params, body, scope, d, c', rfl, L, b, reads⟩
end Own

namespace Own
open PySem PySem.Spec PyProof.Rows L2 SX
/-! ### the fields of errors, for all codes -/
def fldA : List V := [.str (Str.ofString "UnknownLetter"), .str (Str.ofString "ParseError")]
def fldB : List V := [.str (Str.ofString "TooLong"), .str (Str.ofString "TooMany"), .str (Str.ofString "LimitReached")]
def fldC : List V := [.str (Str.ofString "InvalidName"), .str (Str.ofString "WrongKind"), .str (Str.ofString "CircularName"), .str (Str.ofString "NameInUse"), .str (Str.ofString "DuplicateName"), .str (Str.ofString "UnknownName")]
def fldD : List V := [.str (Str.ofString "InvalidGame"), .str (Str.ofString "InvalidCommand")]
/-- the name of the field that an error of this code has -/
def fldOf (code : Str) : Option Str :=
  if inV (.str code) fldA = true then some "position" else if inV (.str code) fldB = true then some "limit" else if inV (.str code) fldC = true then some "name"
  else if inV (.str code) fldD = true then some "index" else if decide (V.str code = V.str (Str.ofString "InvalidMachine")) = true then some "room" else none
/-- an error as it lies, of any code -/
def ErrN (K : PySem.W.Frag) (cls : Value) (d : Option Addr) (H : Hp) (code : Str) (v : V) : Prop :=
  ∃ (C dd : Addr) (fs : List (Str × V)), cls = .ref C ∧ d = some dd ∧ H dd = some (.xd fs) ∧ XfC K C ∧ PySem.W.findIn K (.ref C) "code" = some none ∧ fs.lookup ("code" : Str) = some (V.str code) ∧
    (∀ x, fldOf code = some x → PySem.W.findIn K (.ref C) x = some none ∧ fs.lookup x = some v) ∧ (fldOf code = none → v = .non)
def spFldN (K : PySem.W.Frag) : SpX := fun a cls d vs H Q _ => ∃ code v, vs = [.ref a] ∧ ErrN K cls d H code v ∧ ∀ H', Same H H' → Q v H'
def TryN (K : PySem.W.Frag) (CF CM : Addr) : (XK → Hp → VK → Prop) → Hp → VK → Prop := fun tl H Q =>
  tl (fun cls d H' => PySem.W.exmAny K cls [.ref CF, .ref CM] = some true ∧ ∃ code v, ErrN K cls d H' code v ∧
      ∀ H'' t, Same H' H'' → H'' t = none → Q (.ref t) (upd H'' t (.tup [.str code, v]))) H
    (fun v H' => 2 ≤ sizeLine ∧ ∀ t, H' t = none → Q (.ref t) (upd H' t (.tup [.str (Str.ofString "value"), v])))
section
variable {K : PySem.W.Frag} {mg : Str → Option Value} {x : Str} {C d : Addr} {H : Hp}
/-- an error of a code that has no field -/
theorem errN_0 {code : Str} (T : ErrC K mg x C) (h : H d = some (.xd [("code", .str code)])) (e : fldOf code = none) : ErrN K (.ref C) (some d) H code .non :=
  ⟨C, d, _, rfl, rfl, h, T.xf, T.nc, rfl, (fun y hy => by rw [e] at hy; cases hy), fun _ => rfl⟩
theorem errN_1 {code y : Str} {v : V} (T : ErrC K mg x C) (h : H d = some (.xd [(y, v), ("code", .str code)])) (e : fldOf code = some y) (ny : PySem.W.findIn K (.ref C) y = some none) (nc : y ≠ "code") : ErrN K (.ref C) (some d) H code v := by
  refine ⟨C, d, _, rfl, rfl, h, T.xf, T.nc, ?_, fun z hz => ?_, fun z => by rw [e] at z; cases z⟩
  · rw [List.lookup_cons, show (("code" : Str) == y) = false from beq_eq_false_iff_ne.mpr nc.symm]
    rfl
  · rw [e] at hz
    cases hz
    refine ⟨ny, ?_⟩
    rw [List.lookup_cons, beq_self_eq_true]
theorem fl_il : fldOf "InvalidLetters" = none := by decide +kernel
theorem fl_nt : fldOf "NoTemplate" = none := by decide +kernel
theorem fl_ul : fldOf "UnknownLetter" = some "position" := by decide +kernel
end
/-! ### a text that stands in another one from a place on -/
theorem sw3 {xs ys : List Nat} {i : Nat} (hi : i ≤ xs.length) : Txt.startswith3 (S xs) (S ys) (i : Int) = decide (ys <+: xs.drop i) := by
  unfold Txt.startswith3
  have e : PySem.fromIndex (S xs).length (i : Int) = i := by
    unfold PySem.fromIndex
    rw [if_neg (by omega)]
    omega
  rw [e, PySem.StrLaws.subAt_eq, S_len, S_len]
  show (decide (i + ys.length ≤ xs.length) && ((xs.drop i).take ys.length == ys)) = _
  by_cases h : ys <+: xs.drop i
  · have hl := h.length_le
    rw [List.length_drop] at hl
    rw [decide_eq_true h, decide_eq_true (by omega), ← List.prefix_iff_eq_take.mp h]
    simp
  · rw [decide_eq_false h]
    have : ((xs.drop i).take ys.length == ys) = false := by
      rw [beq_eq_false_iff_ne]
      exact fun z => h (List.prefix_iff_eq_take.mpr z.symm)
    rw [this, Bool.and_false]
/-! ### every text of the letters is read -/
theorem reads_ex {gs : List Nat} {M : Nat} (hg : Good gs) (hM : 0 < M) : ∀ (n : Nat) (w : List Nat), w.length ≤ n → (∀ c ∈ w, c ∈ gs) → ∃ row, Reads gs M w row
  | _, [], _, _ => ⟨[], .nil⟩
  | 0, c :: w, h, _ => by simp at h
  | n + 1, c :: w, h, hm => by
    by_cases hb : ∃ t : List Nat, t.Perm gs ∧ qL t M <+: c :: w
    · obtain ⟨t, pt, z, hz⟩ := hb
      have hq : 0 < (qL t M).length := by rw [qL_len, pt.length_eq]; exact Nat.mul_pos hM (by have := hg.lo; omega)
      have hl := congrArg List.length hz
      rw [List.length_append, List.length_cons] at hl
      rw [List.length_cons] at h
      obtain ⟨row, hr⟩ := reads_ex hg hM n z (by omega) fun x hx => hm x (by rw [← hz]; exact List.mem_append_right _ hx)
      exact ⟨t :: row, by rw [← hz]; exact .blank pt hr⟩
    · rw [List.length_cons] at h
      obtain ⟨row, hr⟩ := reads_ex hg hM n w (by omega) fun x hx => hm x (List.mem_cons_of_mem _ hx)
      exact ⟨[c] :: row, .letter (hm c (List.mem_cons_self ..)) (fun t pt hp => hb ⟨t, pt, hp⟩) hr⟩
theorem q_inj {gs t u : List Nat} {M : Nat} (hM : 0 < M) (pt : t.Perm gs) (pu : u.Perm gs) {w : List Nat} (h : qL u M <+: qL t M ++ w) : u = t := by
  have hlen : (qL u M).length = (qL t M).length := by rw [qL_len, qL_len, pu.length_eq, pt.length_eq]
  obtain ⟨x, hx⟩ := h
  have := (List.append_inj (hx.trans rfl) hlen).1
  rw [← evr_q hM u, ← evr_q hM t, this]
/-! ### the turns that an exchange of two and the turning round of all make -/
def swL (gs : List Nat) : List Nat := (gs.drop 1).take 1 ++ gs.take 1 ++ gs.drop 2
def cyL (gs : List Nat) : List Nat := gs.drop 1 ++ gs.take 1
theorem sw_perm : ∀ gs : List Nat, (swL gs).Perm gs
  | [] => .refl _
  | [a] => .refl _
  | a :: b :: r => .swap ..
theorem cy_perm (gs : List Nat) : (cyL gs).Perm gs := by
  unfold cyL
  refine List.perm_append_comm.trans ?_
  rw [List.take_append_drop]
theorem all_made {gs : List Nat} {ls : List (List Nat)} (hg : Good gs) (h3 : gs.length ≤ 3) (C : Clo gs [swL gs, cyL gs] ls) (x : List Nat) : x ∈ ls ↔ x.Perm gs := by
  have hts : ∀ t ∈ [swL gs, cyL gs], t.Perm gs := fun t ht => by
    simp only [List.mem_cons, List.not_mem_nil, or_false] at ht
    rcases ht with rfl | rfl
    · exact sw_perm _
    · exact cy_perm _
  rw [C.mem]
  refine ⟨fun h => h.perm hg.nd hts, fun p => ?_⟩
  have hlo := hg.lo
  have nd := hg.nd
  have nx : x.Nodup := p.symm.nodup nd
  have one : InC gs [swL gs, cyL gs] gs := .one
  match gs, hlo, h3, nd, p, one with
  | [a, b], _, _, nd, p, one =>
    have ab : a ≠ b := by simp at nd; exact nd
    have t1 : tau [a, b] [b, a] a = b := tau_get (t := [b, a]) nd rfl (i := 0) rfl rfl
    have t2 : tau [a, b] [b, a] b = a := tau_get (t := [b, a]) nd rfl (i := 1) rfl rfl
    have s1 : InC [a, b] [[b, a], [b, a]] ([a, b].map (tau [a, b] [b, a])) := .step one (List.mem_cons_self ..)
    rw [List.map_cons, List.map_cons, List.map_nil, t1, t2] at s1
    have hl := p.length_eq
    match x, hl with
    | [u, v], _ =>
      have hu := p.mem_iff.mp (show u ∈ [u, v] by simp)
      have hv := p.mem_iff.mp (show v ∈ [u, v] by simp)
      simp only [List.mem_cons, List.not_mem_nil, or_false] at hu hv
      rcases hu with rfl | rfl <;> rcases hv with rfl | rfl
      · simp at nx
      · exact one
      · exact s1
      · simp at nx
  | [a, b, c], _, _, nd, p, one =>
    have s : ∀ {z : List Nat}, InC [a, b, c] [[b, a, c], [b, c, a]] z → InC [a, b, c] [[b, a, c], [b, c, a]] (z.map (tau [a, b, c] [b, a, c])) := fun h => .step h (List.mem_cons_self ..)
    have r : ∀ {z : List Nat}, InC [a, b, c] [[b, a, c], [b, c, a]] z → InC [a, b, c] [[b, a, c], [b, c, a]] (z.map (tau [a, b, c] [b, c, a])) := fun h => .step h (List.mem_cons_of_mem _ (List.mem_cons_self ..))
    have t1 : tau [a, b, c] [b, a, c] a = b := tau_get (t := [b, a, c]) nd rfl (i := 0) rfl rfl
    have t2 : tau [a, b, c] [b, a, c] b = a := tau_get (t := [b, a, c]) nd rfl (i := 1) rfl rfl
    have t3 : tau [a, b, c] [b, a, c] c = c := tau_get (t := [b, a, c]) nd rfl (i := 2) rfl rfl
    have u1 : tau [a, b, c] [b, c, a] a = b := tau_get (t := [b, c, a]) nd rfl (i := 0) rfl rfl
    have u2 : tau [a, b, c] [b, c, a] b = c := tau_get (t := [b, c, a]) nd rfl (i := 1) rfl rfl
    have u3 : tau [a, b, c] [b, c, a] c = a := tau_get (t := [b, c, a]) nd rfl (i := 2) rfl rfl
    have z1 : InC [a, b, c] [[b, a, c], [b, c, a]] [a, b, c] := one
    have z2 := s z1
    have z3 := r z1
    simp only [List.map_cons, List.map_nil, t1, t2, t3, u1, u2, u3] at z2 z3
    have z4 := r z3
    have z5 := r z2
    simp only [List.map_cons, List.map_nil, t1, t2, t3, u1, u2, u3] at z4 z5
    have z6 := r z5
    simp only [List.map_cons, List.map_nil, t1, t2, t3, u1, u2, u3] at z6
    have hl := p.length_eq
    match x, hl with
    | [u, v, w], _ =>
      have hu := p.mem_iff.mp (show u ∈ [u, v, w] by simp)
      have hv := p.mem_iff.mp (show v ∈ [u, v, w] by simp)
      have hw := p.mem_iff.mp (show w ∈ [u, v, w] by simp)
      simp only [List.mem_cons, List.not_mem_nil, or_false] at hu hv hw
      rcases hu with rfl | rfl | rfl <;> rcases hv with rfl | rfl | rfl <;> rcases hw with rfl | rfl | rfl <;> first | assumption | (exfalso; simp at nx)
/-! ### promises -/
def spGrp (K : PySem.W.Frag) : Sp := fun vs H Q _ => ∃ gs ts a, vs = [tx gs, .ref a] ∧ SqL K H a (ts.map tx) ∧ (∀ H' p cs, Same H H' → H p = none → H' p = some (.lst (cs.map tx)) → Clo gs ts cs → Q (.ref p) H') ∧
  gs.Nodup ∧ gs.length ≤ 4 ∧ (∀ t ∈ ts, t.Perm gs) ∧ ts.length ≤ 1000
def spRo (K : PySem.W.Frag) : Sp := fun vs H Q _ => ∃ (gs ans : List Nat) (n : Nat) (L : Addr) (cs row : List (List Nat)), vs = [tx gs, .int (n : Int), tx ans, .ref L] ∧ Good gs ∧ n ≤ 200 ∧ ans.length ≤ 900 ∧
  SqL K H L (cs.map tx) ∧ cs.length ≤ 900 ∧ (∀ x, x ∈ cs ↔ x.Perm gs) ∧ Reads gs (n + 1) ans row ∧
  (nLt row ≤ n → ∀ H' p, Same H H' → H p = none → H' p = some (.lst (row.map tx)) → Q (.ref p) H') ∧ (n < nLt row → ∀ H', Same H H' → Q .non H')
def spQuI (CI : Addr) : Sp := fun vs H _ E => ∃ (cs : List Nat) (y : V), vs = [tx cs, y] ∧ ¬ Valid cs ∧ cs.length ≤ 900 ∧ ∀ H' d, Same H H' → H' d = some (.xd [("code", .str "InvalidLetters")]) → E (.ref CI) (some d) H'
def spRTI (CI : Addr) : Sp := fun vs H _ E => ∃ (cs : List Nat) (y z : V), vs = [tx cs, y, z] ∧ ¬ Valid cs ∧ cs.length ≤ 900 ∧ ∀ H' d, Same H H' → H' d = some (.xd [("code", .str "InvalidLetters")]) → E (.ref CI) (some d) H'
def spRTU (CT : Addr) : Sp := fun vs H _ E => ∃ (gs ans : List Nat) (s i : Nat), vs = [tx gs, .int (s : Int), tx ans] ∧ Good gs ∧ s ≤ 200 ∧ Bad gs ans i ∧
  ∀ H' d, Same H H' → H' d = some (.xd [("position", .int (i : Nat)), ("code", .str "UnknownLetter")]) → E (.ref CT) (some d) H'
def spRTN (C CN : Addr) : Sp := fun vs H Q E => ∃ (gs ans : List Nat) (s : Nat) (row : List (List Nat)), vs = [tx gs, .int (s : Int), tx ans] ∧ Good gs ∧ s ≤ 200 ∧ ans.length ≤ 1000 ∧ Reads gs (s + 1) ans row ∧ row.length ≤ 160 ∧
  (nLt row ≤ s → ∀ H' p, Same H H' → H p = none → Tm C H' p gs row → Q (.ref p) H') ∧ (s < nLt row → ∀ H' d, Same H H' → H' d = some (.xd [("code", .str "NoTemplate")]) → E (.ref CN) (some d) H')
end Own

namespace Own
open PySem PySem.Spec PyProof.Rows L2 SX
/-! ### the first place at which two texts differ -/
def cpl : List Nat → List Nat → Nat
  | c :: a, d :: b => if c = d then cpl a b + 1 else 0
  | _, _ => 0
theorem cpl_le : ∀ a b : List Nat, cpl a b ≤ a.length ∧ cpl a b ≤ b.length
  | [], b => ⟨Nat.zero_le _, Nat.zero_le _⟩
  | c :: a, [] => ⟨Nat.zero_le _, Nat.zero_le _⟩
  | c :: a, d :: b => by
    have := cpl_le a b
    unfold cpl
    by_cases h : c = d
    · rw [if_pos h, List.length_cons, List.length_cons]
      omega
    · rw [if_neg h]
      exact ⟨Nat.zero_le _, Nat.zero_le _⟩
theorem cpl_take : ∀ {a b : List Nat} {m : Nat}, m ≤ cpl a b → a.take m = b.take m
  | _, _, 0, _ => by rw [List.take_zero, List.take_zero]
  | [], b, m + 1, h => absurd h (Nat.not_succ_le_zero _)
  | c :: a, [], m + 1, h => absurd h (Nat.not_succ_le_zero _)
  | c :: a, d :: b, m + 1, h => by
    unfold cpl at h
    by_cases e : c = d
    · rw [if_pos e] at h
      rw [List.take_succ_cons, List.take_succ_cons, e, cpl_take (a := a) (b := b) (by omega)]
    · rw [if_neg e] at h
      exact absurd h (Nat.not_succ_le_zero _)
theorem cpl_max : ∀ {a b : List Nat} {m : Nat}, m ≤ a.length → m ≤ b.length → a.take m = b.take m → m ≤ cpl a b
  | _, _, 0, _, _, _ => Nat.zero_le _
  | [], b, m + 1, h, _, _ => absurd h (Nat.not_succ_le_zero _)
  | c :: a, [], m + 1, _, h, _ => absurd h (Nat.not_succ_le_zero _)
  | c :: a, d :: b, m + 1, h1, h2, h => by
    rw [List.take_succ_cons, List.take_succ_cons] at h
    have h' := List.cons.inj h
    rw [List.length_cons] at h1 h2
    unfold cpl
    rw [if_pos h'.1]
    have := cpl_max (by omega) (by omega) h'.2
    omega
/-- the pieces between k and m are the same: the texts are the same up to m -/
theorem cpl_mid {a b : List Nat} {k m : Nat} (hk : k ≤ cpl a b) (km : k ≤ m) (h1 : m ≤ a.length) (h2 : m ≤ b.length) : (a.take m).drop k = (b.take m).drop k ↔ m ≤ cpl a b := by
  refine ⟨fun h => cpl_max h1 h2 ?_, fun h => by rw [cpl_take h]⟩
  rw [← List.take_append_drop k (a.take m), ← List.take_append_drop k (b.take m), h, List.take_take, List.take_take, show min k m = k by omega, cpl_take hk]
theorem cpl_sym : ∀ a b : List Nat, cpl a b = cpl b a
  | [], [] => rfl
  | [], d :: b => rfl
  | c :: a, [] => rfl
  | c :: a, d :: b => by
    unfold cpl
    by_cases h : c = d
    · rw [if_pos h, if_pos h.symm, cpl_sym a b]
    · rw [if_neg h, if_neg (fun e => h e.symm)]
theorem cpl_ne : ∀ {a b : List Nat}, a ≠ b → a[cpl a b]? ≠ b[cpl a b]?
  | [], [], h => absurd rfl h
  | [], d :: b, _ => fun e => by cases e
  | c :: a, [], _ => fun e => by cases e
  | c :: a, d :: b, h => by
    unfold cpl
    by_cases e : c = d
    · rw [if_pos e, List.getElem?_cons_succ, List.getElem?_cons_succ]
      exact cpl_ne fun z => h (by rw [e, z])
    · rw [if_neg e]
      exact fun z => e (Option.some.inj z)
theorem cpl_one {a b : List Nat} {i : Nat} (h : i < cpl a b) : a[i]? = b[i]? := by
  have := congrArg (·[i]?) (cpl_take (m := i + 1) h)
  simp only [List.getElem?_take] at this
  rw [if_pos (Nat.lt_succ_self i), if_pos (Nat.lt_succ_self i)] at this
  exact this
/-- the letter at a place, or None -/
def ltV (a : List Nat) (i : Nat) : V := match a[i]? with
  | some c => tx [c]
  | none => .non
/-- the tuple of a difference -/
def dfV (a b : List Nat) : List V := [.int (cpl a b : Nat), ltV a (cpl a b), ltV b (cpl a b)]
/-- the word of a comparison -/
def cmpW (gs a b : List Nat) : Str :=
  if a = b then Str.ofString "equal" else match a[cpl a b]?, b[cpl a b]? with
  | none, _ => Str.ofString "shorter"
  | some _, none => Str.ofString "longer"
  | some c, some d => if gs.idxOf c < gs.idxOf d then Str.ofString "less" else Str.ofString "greater"
/-! ### promises -/
def spLAt : Sp := fun vs H Q _ => ∃ (a : List Nat) (i : Nat), vs = [tx a, .int (i : Int)] ∧ a.length ≤ 1000 ∧ Q (ltV a i) H
def spCSz : Sp := fun vs H Q _ => ∃ a b : List Nat, vs = [tx a, tx b] ∧ a.length ≤ 1000 ∧ b.length ≤ 1000 ∧ Q (.int (cpl a b : Nat)) H
def spFD : Sp := fun vs H Q _ => ∃ a b : List Nat, vs = [tx a, tx b] ∧ a.length ≤ 1000 ∧ b.length ≤ 1000 ∧ (a = b → Q .non H) ∧ (a ≠ b → ∀ H' p, Same H H' → H p = none → H' p = some (.tup (dfV a b)) → Q (.ref p) H')
def spLW : Sp := fun vs H Q _ => ∃ (gs : List Nat) (c d : Nat), vs = [tx gs, tx [c], tx [d]] ∧ c ∈ gs ∧ d ∈ gs ∧ Q (.str (if gs.idxOf c < gs.idxOf d then Str.ofString "less" else Str.ofString "greater")) H
def spTW : Sp := fun vs H Q _ => ∃ gs a b : List Nat, vs = [tx gs, tx a, tx b] ∧ a.length ≤ 1000 ∧ b.length ≤ 1000 ∧ (∀ c ∈ a, c ∈ gs) ∧ (∀ c ∈ b, c ∈ gs) ∧ ∀ H', Same H H' → Q (.str (cmpW gs a b)) H'
/-- a promise that is never asked for, and a reading that is never reached -/
def spNo : Sp := fun _ _ _ _ => False
theorem pe_nv {X : Cx} {e : Expr} : PE X e (fun _ _ _ => False) := ⟨fun _ _ _ _ _ _ h => h.elim⟩
/-- two templates as they lie -/
structure TwoT (C : Addr) (H : Hp) (p1 p2 : Addr) (gs hs : List Nat) (i1 i2 : List (List Nat)) : Prop where
  t1 : Tm C H p1 gs i1
  t2 : Tm C H p2 hs i2
  g1 : Good gs
  g2 : Good hs
  r1 : Row gs i1
  r2 : Row hs i2
  l1 : i1.length ≤ 100
  l2 : i2.length ≤ 100
theorem TwoT.same {C : Addr} {H H' : Hp} {p1 p2 : Addr} {gs hs : List Nat} {i1 i2 : List (List Nat)} (t : TwoT C H p1 p2 gs hs i1 i2) (s : Same H H') : TwoT C H' p1 p2 gs hs i1 i2 :=
  ⟨t.t1.same s, t.t2.same s, t.g1, t.g2, t.r1, t.r2, t.l1, t.l2⟩
def spDi (C : Addr) : Sp := fun vs H Q _ => ∃ (p1 p2 : Addr) (gs xs : List Nat) (i1 i2 : List (List Nat)), vs = [.ref p1, .ref p2, tx xs] ∧ TwoT C H p1 p2 gs gs i1 i2 ∧ xs.length ≤ 1000 ∧ (∀ c ∈ xs, c ∈ gs) ∧ (fillL gs i1 xs).length ≤ 1000 ∧ (fillL gs i2 xs).length ≤ 1000 ∧
  (fillL gs i1 xs = fillL gs i2 xs → ∀ H', Same H H' → Q .non H') ∧ (fillL gs i1 xs ≠ fillL gs i2 xs → ∀ H' p, Same H H' → H p = none → H' p = some (.tup (dfV (fillL gs i1 xs) (fillL gs i2 xs))) → Q (.ref p) H')
def spCm (C : Addr) : Sp := fun vs H Q _ => ∃ (p1 p2 : Addr) (gs xs : List Nat) (i1 i2 : List (List Nat)), vs = [.ref p1, .ref p2, tx xs] ∧ TwoT C H p1 p2 gs gs i1 i2 ∧ xs.length ≤ 1000 ∧ (∀ c ∈ xs, c ∈ gs) ∧ (fillL gs i1 xs).length ≤ 1000 ∧ (fillL gs i2 xs).length ≤ 1000 ∧
  ∀ H', Same H H' → Q (.str (cmpW gs (fillL gs i1 xs) (fillL gs i2 xs))) H'
def spFiX (C CT : Addr) : Sp := fun vs H _ E => ∃ (a : Addr) (gs xs : List Nat) (its : List (List Nat)) (i : Nat), vs = [.ref a, tx xs] ∧ Tm C H a gs its ∧ Bad gs xs i ∧ ∀ H' d, Same H H' → H' d = some (.xd [("position", .int (i : Nat)), ("code", .str "UnknownLetter")]) → E (.ref CT) (some d) H'
def spDfU (C CT : Addr) : Sp := fun vs H _ E => ∃ (p1 p2 : Addr) (gs xs : List Nat) (i1 i2 : List (List Nat)) (i : Nat), vs = [.ref p1, .ref p2, tx xs] ∧ TwoT C H p1 p2 gs gs i1 i2 ∧ Bad gs xs i ∧
  ∀ H' d, Same H H' → H' d = some (.xd [("position", .int (i : Nat)), ("code", .str "UnknownLetter")]) → E (.ref CT) (some d) H'
/-- LettersDiffer, of a call with two templates and no more, and with one argument more -/
def spLD2 (C CD : Addr) : Sp := fun vs H _ E => ∃ (p1 p2 : Addr) (gs hs : List Nat) (i1 i2 : List (List Nat)), vs = [.ref p1, .ref p2] ∧ TwoT C H p1 p2 gs hs i1 i2 ∧ gs ≠ hs ∧
  ∀ H' d, Same H H' → H' d = some (.xd [("code", .str "LettersDiffer")]) → E (.ref CD) (some d) H'
def spLD3 (C CD : Addr) : Sp := fun vs H _ E => ∃ (p1 p2 : Addr) (y : V) (gs hs : List Nat) (i1 i2 : List (List Nat)), vs = [.ref p1, .ref p2, y] ∧ TwoT C H p1 p2 gs hs i1 i2 ∧ gs ≠ hs ∧
  ∀ H' d, Same H H' → H' d = some (.xd [("code", .str "LettersDiffer")]) → E (.ref CD) (some d) H'
theorem fnNo {P : Program} {w : World} {K : PySem.W.Frag} {mg : Str → Option Value} {base : Heap} {CX : CXT} {k : Nat} {f : Addr} {fd : FuncData} {ps : List Str} : FnOk P w K mg base CX k f fd ps spNo :=
  ⟨fun _ _ _ _ h => h.elim, fun _ _ _ _ _ _ _ _ _ _ _ _ _ h => h.elim⟩
/-- the sign at a place as a text, or the empty text -/
def sgL (a : List Nat) (i : Nat) : List Nat := (a.take (i + 1)).drop i
theorem sgL_some {a : List Nat} {i c : Nat} (h : a[i]? = some c) : sgL a i = [c] := by
  unfold sgL
  have hi := (List.getElem?_eq_some_iff.mp h).1
  rw [List.take_add_one, h, List.drop_append, List.drop_eq_nil_of_le (by rw [List.length_take]; omega), List.length_take, show i - min i a.length = 0 by omega]
  rfl
theorem sgL_none {a : List Nat} {i : Nat} (h : a[i]? = none) : sgL a i = [] := by
  unfold sgL
  have hi := List.getElem?_eq_none_iff.mp h
  exact List.drop_eq_nil_of_le (by rw [List.length_take]; omega)
def spLOr : Sp := fun vs H Q _ => ∃ (z : V) (a b : List Nat), vs = [z, tx a, tx b] ∧ a.length ≤ 1000 ∧ b.length ≤ 1000 ∧ (a = b → Q .non H) ∧ (a ≠ b → ∀ H' p, Same H H' → H p = none → H' p = some (.tup (dfV a b)) → Q (.ref p) H')
def spFc : Sp := fun vs H Q _ => ∃ (r : Addr) (gs : List Nat), vs = [.ref r, tx gs] ∧ Good gs ∧ Rng H r ∧
  ∀ H' t p1 p2 y1 y2 y3 i1 i2, Go r H H' → H' t = some (.tup [.ref p1, .ref p2, y1, y2, y3]) → p1 ≠ r → p2 ≠ r → H' p1 = some (.lst (i1.map tx)) → H' p2 = some (.lst (i2.map tx)) → Row gs i1 → Row gs i2 → i1.length ≤ 20 → i2.length ≤ 20 → Q (.ref t) H'
end Own

namespace Own
open PySem PySem.Spec PyProof.Rows L2 SX RZ
def topS (i : Nat) : Stmt :=
  PySem.Challenge.pw_ownfill_k21_differences_of_filled_templa.main.body.getD i (.Pass ⟨0, 0, 0, 0⟩)
section
variable {P : Program} {w : World} {K : PySem.W.Frag} {mg : Str → Option Value} {base : Heap}
abbrev sDraws : Stmt := topS 82
theorem scDraws : FnScope ["_law_script", "_law_state", "_law_cell"] ["_law_script"] (defScope sDraws) :=
  ⟨rfl, rfl, rfl, by decide +kernel, rfl, by decide +kernel, by decide +kernel⟩
theorem ok_draws {f : Addr} {fd : FuncData} (F : Fun K "_law_draws" "_law_draws" sDraws f fd)
    (mi : mg "int" = none) (ml : mg "list" = none) :
    FnOk P w K mg base CX0 1 f fd ["_law_script"] (spDraws K) := by
  refine F.ok scDraws (fun vs H Q E h => ?_) (fun cdv A outer s H vs Q E hr h => ?_)
  · obtain ⟨a, ns, rfl, _⟩ := h
    rfl
  · obtain ⟨a, ns, rfl, hS, q⟩ := h
    refine ⟨_, pss_cons (ps_set (i := 1) scDraws.nd rfl (.inl rfl) pe_int)
      (pss_cons (ps_for PassesOwn.never rfl
          (pi_list (pe_slice sl_list (pv 0) po_none (po_some pe_int)))
          (pg_name (i := 2) scDraws.nd rfl (.inl rfl))
          (pss_one (ps_set (i := 1) scDraws.nd rfl (.inl rfl)
            (pe_op op_mod (pe_callTy call_int1 (by rfl) mi (by decide +kernel) (pa_cons
              (pe_op op_add (pe_op op_add (pe_op op_mul (pv 1) pe_int)
                (pe_op op_mod (pe_callTy call_int1 (by rfl) mi (by decide +kernel) (pa_cons (pv 2) pa_nil)) pe_int))
                pe_int) pa_nil)) pe_int))))
      (pss_one (ps_ret (pe_lst (pa_cons (pe_callTy call_list_of (by rfl) ml (by decide +kernel)
          (pa_cons (pe_slice sl_list (pv 0) po_none (po_some pe_int)) pa_nil))
        (pa_cons pe_int (pa_cons pe_int (pa_cons (pv 1) (pa_cons pe_int pa_nil))))))))), ?_⟩
    refine ⟨.ref a, rfl, 63, rfl, a, ns.map V.int, rfl, hS, fun p np => ?_⟩
    have hcut : cutV (ns.map V.int) none (some 63) = (ns.take 63).map V.int := by
      unfold cutV
      rw [HT.sIx_none, show HT.sIx (ns.map V.int).length (ns.map V.int).length (some 63) =
        min 63 (ns.map V.int).length from HT.sIx_nat _ _ 63, List.drop_zero, Nat.sub_zero,
        ← List.map_take]
      congr 1
      rw [List.length_map, List.take_eq_take_iff]
      omega
    rw [hcut]
    have s1 : Same H (upd H p (.lst ((ns.take 63).map V.int))) := fun b o e => by
      rw [upd_ne (ne_of_none e np)]; exact e
    refine ⟨p, rfl, ⟨_, .inl (.inl upd_same)⟩, for_list (K := K) (a := p) (xs := (ns.take 63).map V.int)
      (fun i σ H' => ∃ (st : Int) (v : Option V), σ = [some (.ref a), some (.int st), v] ∧
        H' = upd H p (.lst ((ns.take 63).map V.int)))
      ⟨3833, none, rfl, rfl⟩ (fun i σ H' _ ⟨_, _, _, e⟩ => by rw [e]; exact .inl (.inl upd_same)) ?_ ?_⟩
    · rintro i y σ H' hi ⟨st, v, rfl, rfl⟩
      obtain ⟨u, rfl⟩ : ∃ u, y = V.int u := by
        rw [List.getElem?_map] at hi
        cases e : (ns.take 63)[i]? with
        | none => rw [e] at hi; cases hi
        | some u => rw [e] at hi; exact ⟨u, (Option.some.inj hi).symm⟩
      refine ⟨_, rfl, _, _, rfl, rfl, .inr ⟨by decide, by decide⟩, _, rfl, .inl ⟨_, rfl, _, _, rfl, rfl,
        (by show (0 : Int) < 2147483587; decide), _, _, rfl, rfl, _, _, rfl, rfl, .inl ⟨_, rfl, _, _, rfl, rfl,
        (by show (0 : Int) < 2147483647; decide), ?_⟩⟩⟩
      exact ⟨_, _, rfl, rfl⟩
    · rintro σ H' ⟨st, v, rfl, rfl⟩
      refine ⟨.ref a, rfl, 63, rfl, a, ns.map V.int, rfl, s1.seq hS, fun p2 np2 => ?_⟩
      rw [hcut]
      refine ⟨p2, _, rfl, .inl (.inl (.inl upd_same)), fun l nl => ?_⟩
      refine ⟨.int st, rfl, (by show 5 ≤ sizeLine; decide), fun r nr => ?_⟩
      have s2 := fun b o (e : H b = some o) => s1 b o e
      refine q _ r (fun b o e => ?_) ?_ ?_
      · have e1 := s1 b o e
        have e2 : (upd (upd H p (.lst ((ns.take 63).map V.int))) p2 (.lst ((ns.take 63).map V.int))) b = some o := by
          rw [upd_ne (ne_of_none e1 np2)]; exact e1
        have e3 : (upd (upd (upd H p (.lst ((ns.take 63).map V.int))) p2 (.lst ((ns.take 63).map V.int))) l
            (.lst ((ns.take 63).map V.int))) b = some o := by
          rw [upd_ne (ne_of_none e2 nl)]; exact e2
        rw [upd_ne (ne_of_none e3 nr)]
        exact e3
      · cases e : H r with
        | none => rfl
        | some o =>
          have e1 := s1 r o e
          have e2 : (upd (upd H p (.lst ((ns.take 63).map V.int))) p2 (.lst ((ns.take 63).map V.int))) r = some o := by
            rw [upd_ne (ne_of_none e1 np2)]; exact e1
          rw [upd_ne (ne_of_none e2 nl)] at nr
          rw [e2] at nr
          cases nr
      · refine ⟨l, ns.take 63, 0, 0, st, 0, Int.le_refl 0, upd_same, ?_⟩
        have nlr : l ≠ r := fun e => by
          rw [← e, upd_same] at nr
          cases nr
        rw [upd_ne nlr, upd_same]
abbrev sDraw : Stmt := topS 83
theorem scDraw : FnScope ["_law_rng", "_law_sides", "_law_cell", "_law_digit", "_law_seed"]
    ["_law_rng", "_law_sides"] (defScope sDraw) :=
  ⟨rfl, rfl, rfl, by decide +kernel, rfl, by decide +kernel, by decide +kernel⟩
theorem ok_draw {f : Addr} {fd : FuncData} (F : Fun K "_law_draw" "_law_draw" sDraw f fd)
    (mi : mg "int" = none) (ml : mg "len" = none) :
    FnOk P w K mg base CX0 1 f fd ["_law_rng", "_law_sides"] spDraw := by
  refine F.ok scDraw (fun vs H Q E h => ?_) (fun cdv A outer s H vs Q E hr h => ?_)
  · obtain ⟨r, n, rfl, _⟩ := h
    rfl
  · obtain ⟨r, n, rfl, hn, hn2, ⟨l, ns, i, b, z, c, R⟩, q⟩ := h
    have R0 : RngL H r l := ⟨ns, i, b, z, c, R⟩
    refine ⟨_, pss_cons (ps_asg (pe_op op_add (pe_ix ix_list (pv 0) pe_int (fun _ _ => rfl)) pe_int)
        (pg_sub (pv 0) pe_int set_list))
      (C8.pss_cut (ps_if (PW.pt (pw_and (pt_cmpR op_eq (pe_ix ix_list (pv 0) pe_int (fun _ _ => rfl)) pe_int (nomark _))
          (pw_and1 (pt_cmpR op_lt (pe_ix ix_list (pv 0) pe_int (fun _ _ => rfl))
            (pe_callB call_len_seq (by rfl) ml PySem.boot_len (pa_cons (pe_ix ix_list (pv 0) pe_int (fun _ _ => rfl)) pa_nil))
            (nomark _)))))
        (pss_cons (ps_set (i := 2) scDraw.nd rfl (.inl rfl)
            (pe_ix ix_list (pe_ix ix_list (pv 0) pe_int (fun _ _ => rfl)) (pe_ix ix_list (pv 0) pe_int (fun _ _ => rfl)) (fun _ _ => rfl)))
        (pss_cons (ps_asg (pe_op op_add (pe_ix ix_list (pv 0) pe_int (fun _ _ => rfl)) pe_int) (pg_sub (pv 0) pe_int set_list))
        (pss_one (ps_if (pt_cmpR op_ge (pv 2) (pe_op op_pow pe_int pe_int) (nomark _))
          (pss_one (ps_asg (pv 2) (pg_sub (pv 0) pe_int set_list)))
          (pss_one (ps_asg (pe_op op_mod (pe_callTy call_int1 (by rfl) mi (by decide +kernel) (pa_cons
              (pe_op op_add (pe_op op_add (pe_op op_mul (pe_ix ix_list (pv 0) pe_int (fun _ _ => rfl)) pe_int)
                (pe_op op_mul (pe_op op_mod (pe_callTy call_int1 (by rfl) mi (by decide +kernel) (pa_cons (pv 2) pa_nil)) pe_int) pe_int))
                pe_int) pa_nil)) pe_int) (pg_sub (pv 0) pe_int set_list)))))))
        pss_nil)
      (pss_cons (ps_if (pt_cmpR op_gt (pe_ix ix_list (pv 0) pe_int (fun _ _ => rfl)) pe_int (nomark _))
        (pss_cons (ps_set (i := 3) scDraw.nd rfl (.inl rfl) (pe_op op_mod (pe_callTy call_int1 (by rfl) mi (by decide +kernel)
            (pa_cons (pe_ix ix_list (pv 0) pe_int (fun _ _ => rfl)) pa_nil)) (pv 1)))
        (pss_cons (ps_asg (pe_op op_fdiv (pe_ix ix_list (pv 0) pe_int (fun _ _ => rfl)) (pv 1)) (pg_sub (pv 0) pe_int set_list))
        (pss_one (ps_ret (pv 3))))) pss_nil)
      (pss_cons (ps_set (i := 4) scDraw.nd rfl (.inl rfl) (pe_ix ix_list (pv 0) pe_int (fun _ _ => rfl)))
      (pss_cons (ps_asg (pe_op op_mod (pe_callTy call_int1 (by rfl) mi (by decide +kernel) (pa_cons
          (pe_op op_add (pe_op op_add (pe_op op_add (pe_op op_mul (pv 4) pe_int)
            (pe_op op_mul (pe_op op_fdiv (pv 4) pe_int) pe_int))
            (pe_op op_mul (pe_ix ix_list (pv 0) pe_int (fun _ _ => rfl)) pe_int)) pe_int) pa_nil)) pe_int)
          (pg_sub (pv 0) pe_int set_list))
      (pss_one (ps_ret (pe_op op_mod (pe_callTy call_int1 (by rfl) mi (by decide +kernel) (pa_cons
          (pe_op op_add (pe_op op_fdiv (pe_ix ix_list (pv 0) pe_int (fun _ _ => rfl)) pe_int)
            (pe_op op_mul (pe_op op_mod (pe_callTy call_int1 (by rfl) mi (by decide +kernel)
              (pa_cons (pe_ix ix_list (pv 0) pe_int (fun _ _ => rfl)) pa_nil)) pe_int) pe_int)) pa_nil)) (pv 1)))))))), ?_⟩
    have at0 : ∀ {l : Addr} {i b z c : Int}, atI [V.ref l, .int i, .int b, .int z, .int c] 0 = some (.ref l) := atI_nat (j := 0) rfl
    have at1 : ∀ {l : Addr} {i b z c : Int}, atI [V.ref l, .int i, .int b, .int z, .int c] 1 = some (.int i) := atI_nat (j := 1) rfl
    have at2 : ∀ {l : Addr} {i b z c : Int}, atI [V.ref l, .int i, .int b, .int z, .int c] 2 = some (.int b) := atI_nat (j := 2) rfl
    have at3 : ∀ {l : Addr} {i b z c : Int}, atI [V.ref l, .int i, .int b, .int z, .int c] 3 = some (.int z) := atI_nat (j := 3) rfl
    have at4 : ∀ {l : Addr} {i b z c : Int}, atI [V.ref l, .int i, .int b, .int z, .int c] 4 = some (.int c) := atI_nat (j := 4) rfl
    -- rng[4] += 1
    refine ⟨_, rfl, r, _, 4, _, rfl, rfl, SqL.of R.2.1, at4, _, _, rfl, rfl, _, rfl, r, _, 4, 4, rfl, rfl, R.2.1, rfl, ?_⟩
    have R1 : RngV (upd H r (.lst [.ref l, .int i, .int b, .int z, .int (c + 1)])) r l ns i b z (c + 1) := R.put R.1
    have g1 : ∀ x o, x ≠ r → H x = some o → upd H r (.lst [.ref l, .int i, .int b, .int z, .int (c + 1)]) x = some o :=
      fun x o nx e => by rw [upd_ne nx]; exact e
    refine ⟨fun σ H' => ∃ v2 v3 v4, σ = [some (.ref r), some (.int n), v2, v3, v4] ∧
      (∀ x o, x ≠ r → H x = some o → H' x = some o) ∧ RngL H' r l, ?_, ?_⟩
    · -- the script's next cell
      refine ⟨_, rfl, r, _, 2, _, rfl, rfl, SqL.of R1.2.1, at2, rfl, _, rfl, ?_⟩
      refine ite2 (fun _ => ?_) (fun _ => iteF ⟨none, none, none, rfl, g1, _, _, _, _, _, R1⟩)
      refine ⟨_, rfl, r, _, 1, _, rfl, rfl, SqL.of R1.2.1, at1, _, rfl, r, _, 0, _, rfl, rfl, SqL.of R1.2.1, at0,
        l, _, rfl, .inl (SqL.of R1.2.2), _, _, rfl, rfl, _, rfl, ?_⟩
      refine ite2 (fun hlt => ?_) (fun _ => ⟨none, none, none, rfl, g1, _, _, _, _, _, R1⟩)
      have hlt2 : i < ((ns.map V.int).length : Int) := of_decide_eq_true hlt
      rw [List.length_map] at hlt2
      obtain ⟨j, rfl⟩ := Int.eq_ofNat_of_zero_le R.1
      have hj : j < ns.length := by omega
      have gj : (ns.map V.int)[j]? = some (.int ns[j]) := by
        rw [List.getElem?_map, List.getElem?_eq_getElem hj]; rfl
      refine ⟨_, rfl, r, _, 0, _, rfl, rfl, SqL.of R1.2.1, at0, _, rfl, r, _, 1, _, rfl, rfl, SqL.of R1.2.1, at1,
        l, _, _, _, rfl, rfl, SqL.of R1.2.2, atI_nat gj, ?_⟩
      refine ⟨_, rfl, r, _, 1, _, rfl, rfl, SqL.of R1.2.1, at1, _, _, rfl, rfl, _, rfl, r, _, 1, 1, rfl, rfl, R1.2.1, rfl, ?_⟩
      have R2 := R1.put (i' := (j : Int) + 1) (b' := b) (s' := z) (c' := c + 1) (by omega)
      have g2 : ∀ x o, x ≠ r → H x = some o →
          upd (upd H r (.lst [.ref l, .int (j : Int), .int b, .int z, .int (c + 1)])) r
            (.lst [.ref l, .int ((j : Int) + 1), .int b, .int z, .int (c + 1)]) x = some o :=
        fun x o nx e => by rw [upd_ne nx]; exact g1 x o nx e
      refine ⟨_, rfl, _, _, rfl, rfl, ⟨by decide, by decide, by decide⟩, _, _, rfl, rfl, _, rfl, ?_⟩
      refine ite2 (fun _ => ?_) (fun _ => ?_)
      · refine ⟨_, rfl, _, rfl, r, _, 2, 2, rfl, rfl, R2.2.1, rfl, ?_⟩
        exact ⟨_, none, none, rfl, fun x o nx e => by rw [upd_ne nx]; exact g2 x o nx e, _, _, _, _, _, R2.put (by omega)⟩
      · refine ⟨_, rfl, r, _, 3, _, rfl, rfl, SqL.of R2.2.1, at3, _, _, rfl, rfl, .inr ⟨by decide, by decide⟩, _, rfl,
          .inl ⟨_, rfl, _, _, rfl, rfl, (by show (0 : Int) < 2147483579; decide), _, _, rfl, rfl, .inr ⟨by decide, by decide⟩,
          _, _, rfl, rfl, _, _, rfl, rfl, .inl ⟨_, rfl, _, _, rfl, rfl, (by show (0 : Int) < 2147483647; decide),
          _, rfl, r, _, 3, 3, rfl, rfl, R2.2.1, rfl, ?_⟩⟩⟩
        exact ⟨_, none, none, rfl, fun x o nx e => by rw [upd_ne nx]; exact g2 x o nx e, _, _, _, _, _, R2.put (by omega)⟩
    · rintro σ H' ⟨v2, v3, v4, rfl, g, ns, i, b, z, c, R⟩
      refine ⟨_, rfl, r, _, 2, _, rfl, rfl, SqL.of R.2.1, at2, _, _, rfl, rfl, _, rfl, ?_⟩
      refine ite2 (fun hb => ?_) (fun _ => ?_)
      · refine ⟨_, rfl, r, _, 2, _, rfl, rfl, SqL.of R.2.1, at2, .inl ⟨_, rfl, _, rfl, _, _, rfl, rfl, hn, ?_⟩⟩
        refine ⟨_, rfl, r, _, 2, _, rfl, rfl, SqL.of R.2.1, at2, _, rfl, _, _, rfl, rfl, ⟨hn, by omega⟩, _, rfl, r, _, 2, 2, rfl, rfl, R.2.1, rfl, ?_⟩
        refine ⟨_, rfl, q _ _ ⟨fun x o nx e => by rw [upd_ne nx]; exact g x o nx e, l, R0, _, _, _, _, _, R.put R.1⟩ ?_ ?_⟩
        · exact Int.emod_nonneg _ (by omega)
        · exact Int.emod_lt_of_pos _ hn
      · refine ⟨_, rfl, r, _, 3, _, rfl, rfl, SqL.of R.2.1, at3, ?_⟩
        refine ⟨_, rfl, _, _, rfl, rfl, .inr ⟨by decide, by decide⟩, _, rfl, _, _, rfl, rfl, ⟨by decide, by decide⟩,
          _, _, rfl, rfl, .inr ⟨by decide, by decide⟩, _, _, rfl, rfl, _, rfl, r, _, 4, _, rfl, rfl, SqL.of R.2.1, at4,
          _, _, rfl, rfl, .inr ⟨by decide, by decide⟩, _, _, rfl, rfl, _, _, rfl, rfl, .inl ⟨_, rfl, _, _, rfl, rfl,
          (by show (0 : Int) < 2147483647; decide), _, rfl, r, _, 3, 3, rfl, rfl, R.2.1, rfl, ?_⟩⟩
        have R2 := fun z' => R.put (i' := i) (b' := b) (s' := z') (c' := c) R.1
        refine ⟨_, rfl, r, _, 3, _, rfl, rfl, SqL.of (R2 _).2.1, at3, _, _, rfl, rfl, ⟨by decide, by decide⟩, _, rfl, r, _, 3, _, rfl, rfl,
          SqL.of (R2 _).2.1, at3, .inl ⟨_, rfl, _, _, rfl, rfl, (by show (0 : Int) < 7907; decide), _, _, rfl, rfl, .inr ⟨by decide, by decide⟩,
          _, _, rfl, rfl, .inl ⟨_, rfl, _, rfl, _, _, rfl, rfl, hn, ?_⟩⟩⟩
        refine q _ _ ⟨fun x o nx e => by rw [upd_ne nx]; exact g x o nx e, l, R0, _, _, _, _, _, R2 _⟩ ?_ ?_
        · exact Int.emod_nonneg _ (by omega)
        · exact Int.emod_lt_of_pos _ hn
abbrev sPick : Stmt := topS 84
theorem scPick : FnScope ["_law_rng", "_law_things"] ["_law_rng", "_law_things"] (defScope sPick) :=
  ⟨rfl, rfl, rfl, by decide +kernel, rfl, by decide +kernel, by decide +kernel⟩
theorem ok_pick {f fD : Addr} {fd fdD : FuncData} (F : Fun K "_law_pick" "_law_pick" sPick f fd)
    (FD : Fun K "_law_draw" "_law_draw" sDraw fD fdD) (bD : Binds K fdD ["_law_rng", "_law_sides"] [])
    (gD : mg "_law_draw" = some (.ref fD)) (mi : mg "int" = none) (ml : mg "len" = none) :
    FnOk P w K mg base CX0 2 f fd ["_law_rng", "_law_things"] (spPick K) := by
  have GD : FnOk P w K mg base CX0 1 fD fdD ["_law_rng", "_law_sides"] spDraw := ok_draw FD mi ml
  refine F.ok scPick (fun vs H Q E h => ?_) (fun cdv A outer s H vs Q E hr h => ?_)
  · obtain ⟨r, x, rfl, _⟩ := h
    rfl
  · obtain ⟨r, x, rfl, R, h⟩ := h
    refine ⟨_, pss_one (ps_ret (pe_ix ix_seq (pv 1) (pe_call GD hr (by rfl) gD FD.kp bD .nil pass0
      (pa_cons (pv 0) (pa_cons (pe_callB call_len (by rfl) ml PySem.boot_len (pa_cons (pv 1) pa_nil)) pa_nil)))
      (fun _ _ => rfl))), ?_⟩
    rcases h with ⟨a, xs, rfl, nar, hS, h0, h1, q⟩ | ⟨cs, rfl, h0, h1, q⟩
    · refine ⟨_, rfl, _, rfl, _, rfl, _, xs.length, rfl, .inl ⟨_, hS, rfl⟩, r, _, rfl, by omega, by omega, R, fun H' k g k0 k1 => ?_⟩
      obtain ⟨j, rfl⟩ := Int.eq_ofNat_of_zero_le k0
      have hj : j < xs.length := by omega
      exact .inl ⟨a, xs, _, xs[j], rfl, rfl, g.seq nar hS, atI_nat (List.getElem?_eq_getElem hj), q _ _ g (List.getElem_mem hj)⟩
    · refine ⟨_, rfl, _, rfl, _, rfl, _, cs.length, rfl, ⟨by rw [S_len]; exact small h1, by rw [S_len]⟩, r, _, rfl, by omega, by omega, R, fun H' k g k0 k1 => ?_⟩
      obtain ⟨j, rfl⟩ := Int.eq_ofNat_of_zero_le k0
      have hj : j < cs.length := by omega
      exact .inr (.inr ⟨_, _, cs[j], rfl, rfl, by rw [S_len]; exact small h1, atI_nat (List.getElem?_eq_getElem hj), q _ _ g (List.getElem_mem hj)⟩)
abbrev sLetters : Stmt := topS 88
theorem scLetters : FnScope ["_law_rng", "_law_most", "_law_size", "_law_first", "_law_step", "_law_k"]
    ["_law_rng", "_law_most"] (defScope sLetters) :=
  ⟨rfl, rfl, rfl, by decide +kernel, rfl, by decide +kernel, by decide +kernel⟩
theorem ok_letters {f fD fP : Addr} {fd fdD fdP : FuncData} (F : Fun K "_law_letters" "_law_letters" sLetters f fd)
    (FD : Fun K "_law_draw" "_law_draw" sDraw fD fdD) (bD : Binds K fdD ["_law_rng", "_law_sides"] [])
    (gD : mg "_law_draw" = some (.ref fD))
    (FP : Fun K "_law_pick" "_law_pick" sPick fP fdP) (bP : Binds K fdP ["_law_rng", "_law_things"] [])
    (gP : mg "_law_pick" = some (.ref fP)) (mi : mg "int" = none) (ml : mg "len" = none)
    (mm : mg "min" = none) (mr : mg "range" = none) :
    FnOk P w K mg base CX0 3 f fd ["_law_rng", "_law_most"] spLetters := by
  have GD : FnOk P w K mg base CX0 1 fD fdD ["_law_rng", "_law_sides"] spDraw := ok_draw FD mi ml
  have GP : FnOk P w K mg base CX0 2 fP fdP ["_law_rng", "_law_things"] (spPick K) := ok_pick FP FD bD gD mi ml
  refine F.ok scLetters (fun vs H Q E h => ?_) (fun cdv A outer s H vs Q E hr h => ?_)
  · obtain ⟨r, m, rfl, _⟩ := h
    rfl
  · obtain ⟨r, m, rfl, hm, R, q⟩ := h
    have hr1 : Room 1 _ := hr.mono (by decide)
    refine ⟨_, pss_cons (ps_set (i := 2) scLetters.nd rfl (.inl rfl) (pe_callB (call_min2 rfl) (by rfl) mm (by decide +kernel)
        (pa_cons (pv 1) (pa_cons (pe_call GP hr (by rfl) gP FP.kp bP .nil pass0 (pa_cons (pv 0)
          (pa_cons (pe_lst (pa_cons pe_int (pa_cons pe_int (pa_cons pe_int (pa_cons pe_int (pa_cons pe_int (pa_cons pe_int pa_nil))))))) pa_nil))) pa_nil))))
      (pss_cons (ps_asg (pe_tup (pa_cons (pe_call GD hr1 (by rfl) gD FD.kp bD .nil pass0 (pa_cons (pv 0) (pa_cons pe_int pa_nil)))
          (pa_cons (pe_call GP hr (by rfl) gP FP.kp bP .nil pass0 (pa_cons (pv 0)
          (pa_cons (pe_lst (pa_cons pe_int (pa_cons pe_int (pa_cons pe_int (pa_cons pe_int (pa_cons pe_int pa_nil)))))) pa_nil))) pa_nil)))
          (pg_tup rfl (pgs_cons (pg_name (i := 3) scLetters.nd rfl (.inr rfl)) (pgs_cons (pg_name (i := 4) scLetters.nd rfl (.inr rfl)) pgs_nil))))
      (pss_one (ps_ret (pe_join pe_str (pe_lc (own := [("_law_k", 5)]) (g := gName 5) (tt := tYes) rfl scLetters.nd
        (pi_range1 rfl mr (pa_cons (pv 2) pa_nil))
        (blkOk_by (N := ["_law_rng", "_law_most", "_law_size", "_law_first", "_law_step", "_law_k"]) (sc := defScope sLetters) (by decide +kernel))
        (fun _ _ _ _ _ => pg_name (i := 5) scLetters.nd rfl (Or.inl rfl)) (fun _ _ _ _ _ => pts_nil)
        (fun _ _ _ _ _ => pe_ix ix_str pe_str (pe_op op_mod (pe_callTy call_int1 (by rfl) mi (by decide +kernel)
          (pa_cons (pe_op op_add (pv 3) (pe_op op_mul (pv 4) (pv 5))) pa_nil)) pe_int) (fun _ _ => rfl))))))), ?_⟩
    obtain ⟨xr, er⟩ := R.ex
    refine ⟨_, rfl, _, rfl, (by show 6 ≤ sizeLine; decide), fun l nl => ?_⟩
    refine ⟨r, .ref l, rfl, R.same (same_new nl), .inl ⟨l, _, rfl, (ne_of_none er nl).symm, .inl (.inl upd_same), by decide, by decide, fun H1 v g1 hv => ?_⟩⟩
    obtain ⟨j, rfl, hj⟩ : ∃ j : Nat, v = .int j ∧ j ∈ [2, 3, 4] := by
      simp only [List.mem_cons, List.not_mem_nil, or_false] at hv
      rcases hv with e | e | e | e | e | e <;>
        first | exact ⟨2, e, by decide⟩ | exact ⟨3, e, by decide⟩ | exact ⟨4, e, by decide⟩
    have G1 : Go r H H1 := Go.after R (same_new nl) g1
    obtain ⟨n, hn1, hn2, hn3⟩ : ∃ n : Nat, (if (j : Int) < m then (j : Int) else m) = (n : Int) ∧ n ∈ [2, 3, 4] ∧ (n : Int) ≤ m := by
      have hj2 : 2 ≤ j ∧ j ≤ 4 := by
        simp only [List.mem_cons, List.not_mem_nil, or_false] at hj
        omega
      by_cases h : (j : Int) < m
      · rw [if_pos h]
        exact ⟨j, rfl, hj, by omega⟩
      · rw [if_neg h]
        refine ⟨m.toNat, by omega, ?_, by omega⟩
        simp only [List.mem_cons, List.not_mem_nil, or_false]
        omega
    refine ⟨_, _, rfl, ?_⟩
    rw [hn1]
    refine ⟨_, rfl, r, 26, rfl, by decide, by decide, g1.rng, fun H2 f g2 f0 f1 => ?_⟩
    obtain ⟨f, rfl⟩ := Int.eq_ofNat_of_zero_le f0
    obtain ⟨x2, e2⟩ := g2.rng.ex
    refine ⟨_, rfl, (by show 5 ≤ sizeLine; decide), fun l2 nl2 => ?_⟩
    refine ⟨r, .ref l2, rfl, g2.rng.same (same_new nl2), .inl ⟨l2, _, rfl, (ne_of_none e2 nl2).symm, .inl (.inl upd_same), by decide, by decide, fun H3 v g3 hv => ?_⟩⟩
    obtain ⟨t, rfl, ht⟩ : ∃ j : Nat, v = .int j ∧ j ∈ [1, 3, 5, 25, 7] := by
      simp only [List.mem_cons, List.not_mem_nil, or_false] at hv
      rcases hv with e | e | e | e | e <;>
        first | exact ⟨1, e, by decide⟩ | exact ⟨3, e, by decide⟩ | exact ⟨5, e, by decide⟩ | exact ⟨25, e, by decide⟩ | exact ⟨7, e, by decide⟩
    have G3 : Go r H H3 := (G1.trans g2).trans (Go.after g2.rng (same_new nl2) g3)
    refine ⟨(by show 2 ≤ sizeLine; decide), fun T nT => ?_⟩
    refine ⟨T, _, rfl, .inl (.inl upd_same), rfl, _, _, rfl, _, _, rfl, rfl, ?_⟩
    have G4 := G3.same (same_new (o := .tup [.int (f : Int), .int (t : Int)]) nT)
    have hn4 : n ≤ 4 := by
      simp only [List.mem_cons, List.not_mem_nil, or_false] at hn2
      omega
    refine ⟨⟨_, rfl⟩, _, rfl, _, rfl, by omega, by omega, fun D nD => ?_⟩
    have t25 : t ≤ 25 := by
      simp only [List.mem_cons, List.not_mem_nil, or_false] at ht
      omega
    refine lc_range (lo := 0) (n := (n : Int).toNat)
      (fun i H' => H' = upd (upd H3 T (.tup [.int (f : Int), .int (t : Int)])) D (.lst ((lets f t i).map fun c => V.str (S [c])))) rfl ?_ ?_
    · rintro i H' hi rfl
      have ei : ((f : Int) + (t : Int) * (0 + (i : Int))) % 26 = (((f + t * i) % 26 : Nat) : Int) := by
        rw [Int.zero_add, ← Int.natCast_mul]
        generalize t * i = u
        omega
      have ec : (List.range' 97 26)[(f + t * i) % 26]? = some (97 + (f + t * i) % 26) := by
        rw [List.getElem?_range' (by omega)]
        simp
      refine ⟨rfl, _, rfl, _, rfl, _, rfl, _, _, rfl, rfl, .inl ⟨by omega, by omega⟩, _, _, rfl, rfl, .inl ⟨_, rfl, _, _, rfl, rfl,
        (by show (0 : Int) < 26; decide), ?_⟩⟩
      refine ⟨_, _, 97 + (f + t * i) % 26, rfl, rfl, by decide, ?_, _, upd_same, ?_, ?_⟩
      · show atI (Str.ofString "abcdefghijklmnopqrstuvwxyz").cps.toList (((f : Int) + (t : Int) * (0 + (i : Int))) % 26) = _
        rw [az, ei]
        exact atI_nat ec
      · rw [List.length_map]
        unfold lets
        rw [List.length_map, List.length_range]
        exact small1000 (by omega)
      · rw [upd_upd]
        unfold lets
        rw [List.range_succ, List.map_append, List.map_append]
        rfl
    · rintro H' rfl
      have nDr : D ≠ r := by
        obtain ⟨x4, e4⟩ := G4.rng.ex
        exact (ne_of_none e4 nD).symm
      refine ⟨_, D, (lets f t n).map (fun c => S [c]), rfl, rfl, .inl (.inl (.inl ?_)), ?_, ?_⟩
      · rw [upd_same, List.map_map]
        rfl
      · rw [one_len]
        have : (lets f t n).length = n := by unfold lets; rw [List.length_map, List.length_range]
        rw [this]
        show n + _ * 0 ≤ _
        omega
      · rw [joinC]
        refine q _ _ (G4.same (same_new nD)) (lets_good (by omega) ht hn2) ?_
        have : (lets f t n).length = n := by unfold lets; rw [List.length_map, List.length_range]
        omega
abbrev sTurn : Stmt := topS 89
theorem scTurn : FnScope ["_law_rng", "_law_signs", "_law_left", "_law_found", "_law_k", "_law_at"]
    ["_law_rng", "_law_signs"] (defScope sTurn) :=
  ⟨rfl, rfl, rfl, by decide +kernel, rfl, by decide +kernel, by decide +kernel⟩
theorem ok_turn {f fD : Addr} {fd fdD : FuncData} (F : Fun K "_law_turn" "_law_turn" sTurn f fd)
    (FD : Fun K "_law_draw" "_law_draw" sDraw fD fdD) (bD : Binds K fdD ["_law_rng", "_law_sides"] [])
    (gD : mg "_law_draw" = some (.ref fD)) (mi : mg "int" = none) (ml : mg "len" = none) (mr : mg "range" = none) :
    FnOk P w K mg base CX0 2 f fd ["_law_rng", "_law_signs"] spTurn := by
  have GD : FnOk P w K mg base CX0 1 fD fdD ["_law_rng", "_law_sides"] spDraw := ok_draw FD mi ml
  refine F.ok scTurn (fun vs H Q E h => ?_) (fun cdv A outer s H vs Q E hr h => ?_)
  · obtain ⟨r, x, rfl, _⟩ := h
    rfl
  · obtain ⟨r, gs, rfl, hl, R, q⟩ := h
    refine ⟨_, pss_cons (ps_if (pt_cmpR op_eq (pe_call GD hr (by rfl) gD FD.kp bD .nil pass0 (pa_cons (pv 0) (pa_cons pe_int pa_nil))) pe_int (nomark _))
        (pss_one (ps_ret (pv 1))) pss_nil)
      (pss_cons (ps_par (i := 2) (j := 3) (by rfl) scTurn.nd rfl rfl (by decide) rfl rfl (pa_cons (pv 1) (pa_cons pe_str pa_nil)) (by rfl))
      (pss_cons (ps_for PassesOwn.never rfl
          (pi_range1 rfl mr (pa_cons (pe_callB call_len_str (by rfl) ml PySem.boot_len (pa_cons (pv 1) pa_nil)) pa_nil))
          (pg_name (i := 4) scTurn.nd rfl (.inl rfl))
          (pss_cons (ps_set (i := 5) scTurn.nd rfl (.inl rfl) (pe_call GD hr (by rfl) gD FD.kp bD .nil pass0
              (pa_cons (pv 0) (pa_cons (pe_callB call_len_str (by rfl) ml PySem.boot_len (pa_cons (pv 2) pa_nil)) pa_nil))))
          (pss_one (ps_par (i := 3) (j := 2) (by rfl) scTurn.nd rfl rfl (by decide) rfl rfl
            (pa_cons (pe_op op_add_str (pv 3) (pe_ix ix_str (pv 2) (pv 5) (fun _ _ => rfl)))
            (pa_cons (pe_op op_add_str (pe_slice C8.sl_txt (pv 2) po_none (po_some (pv 5)))
              (pe_slice C8.sl_txt (pv 2) (po_some (pe_op op_add (pv 5) pe_int)) po_none)) pa_nil)) (by rfl)))))
      (pss_one (ps_ret (pv 3))))), ?_⟩
    refine ⟨_, rfl, r, 3, rfl, by decide, by decide, R, fun H1 k g1 k0 k1 => ⟨rfl, _, rfl, ?_⟩⟩
    refine ite2 (fun _ => ⟨_, rfl, q _ _ g1 (List.Perm.refl _)⟩) (fun _ => ?_)
    refine ⟨_, rfl, _, _, rfl, ?_⟩
    have hz : (S gs).length ≤ sizeLine := by rw [S_len]; exact small hl
    refine ⟨_, rfl, _, rfl, hz, _, rfl, by omega, by rw [S_len]; omega, ?_⟩
    refine for_range (lo := 0) (n := ((S gs).length : Int).toNat)
      (fun i σ H' => ∃ (ls fs : List Nat) (v4 v5 : Option V), σ = [some (.ref r), some (.str (S gs)), some (.str (S ls)), some (.str (S fs)), v4, v5] ∧
        Go r H H' ∧ (fs ++ ls).Perm gs ∧ ls.length + i = gs.length) ⟨gs, [], none, none, rfl, g1, List.Perm.refl _, rfl⟩ ?_ ?_
    · rintro i σ H' hi ⟨ls, fs, v4, v5, rfl, g, hp, hli⟩
      rw [S_len] at hi
      have hls : ls.length ≤ 1000 := by omega
      have hfs : fs.length ≤ 1000 := by
        have e := hp.length_eq
        rw [List.length_append] at e
        omega
      refine ⟨_, rfl, _, rfl, _, rfl, by rw [S_len]; exact small hls, r, _, rfl, by rw [S_len]; omega, by rw [S_len]; omega, g.rng, fun H2 k g2 k0 k1 => ?_⟩
      rw [S_len] at k1
      obtain ⟨j, rfl⟩ := Int.eq_ofNat_of_zero_le k0
      have hj : j < ls.length := by omega
      have e1 : Txt.slice (S ls) none (some (j : Int)) = S (ls.take j) := slice_to (by omega)
      have e2 : Txt.slice (S ls) (some ((j : Int) + 1)) none = S (ls.drop (j + 1)) := slice_from (a := ls) (i := (j : Int) + 1) (by omega)
      refine ⟨_, rfl, _, rfl, _, rfl, _, _, ls[j], rfl, rfl, by rw [S_len]; exact small hls, atI_nat (List.getElem?_eq_getElem hj), _, _, rfl, rfl, ?_, ?_⟩
      · rw [S_len]
        show fs.length + 1 ≤ sizeLine
        exact small1000 hfs
      refine ⟨_, rfl, _, rfl, _, rfl, _, rfl, by rw [S_len]; exact small hls, _, rfl, _, rfl, _, _, rfl, rfl, _, rfl, _, rfl, by rw [S_len]; exact small hls, _, _, rfl, rfl, ?_, ?_⟩
      · rw [e1, e2, S_len, S_len, List.length_take, List.length_drop]
        exact Nat.le_trans (by omega) (small hls)
      refine ⟨_, _, rfl, ls.take j ++ ls.drop (j + 1), fs ++ [ls[j]], some (.int (0 + (i : Int))), some (.int (j : Int)), ?_, g.trans g2, ?_, ?_⟩
      · rw [e1, e2, S_cat, S_cat]
        rfl
      · refine List.Perm.trans ?_ hp
        have e3 : ls = ls.take j ++ ls[j] :: ls.drop (j + 1) := by
          rw [List.getElem_cons_drop, List.take_append_drop]
        rw [List.append_assoc]
        refine List.Perm.append_left _ ?_
        conv => rhs; rw [e3]
        rw [List.singleton_append]
        exact List.perm_middle.symm
      · rw [List.length_append, List.length_take, List.length_drop]
        omega
    · rintro σ H' ⟨ls, fs, v4, v5, rfl, g, hp, hli⟩
      rw [S_len] at hli
      have e : ls = [] := List.eq_nil_of_length_eq_zero (by omega)
      subst e
      rw [List.append_nil] at hp
      exact ⟨_, rfl, q _ _ g hp⟩
abbrev sWord : Stmt := topS 90
theorem scWord : FnScope ["_law_rng", "_law_signs", "_law_most", "_law_k"]
    ["_law_rng", "_law_signs", "_law_most"] (defScope sWord) :=
  ⟨rfl, rfl, rfl, by decide +kernel, rfl, by decide +kernel, by decide +kernel⟩
theorem ok_word {f fD fP : Addr} {fd fdD fdP : FuncData} (F : Fun K "_law_word" "_law_word" sWord f fd)
    (FD : Fun K "_law_draw" "_law_draw" sDraw fD fdD) (bD : Binds K fdD ["_law_rng", "_law_sides"] [])
    (gD : mg "_law_draw" = some (.ref fD))
    (FP : Fun K "_law_pick" "_law_pick" sPick fP fdP) (bP : Binds K fdP ["_law_rng", "_law_things"] [])
    (gP : mg "_law_pick" = some (.ref fP)) (mi : mg "int" = none) (ml : mg "len" = none)
    (mr : mg "range" = none) :
    FnOk P w K mg base CX0 3 f fd ["_law_rng", "_law_signs", "_law_most"] spWord := by
  have GD : FnOk P w K mg base CX0 1 fD fdD ["_law_rng", "_law_sides"] spDraw := ok_draw FD mi ml
  have GP : FnOk P w K mg base CX0 2 fP fdP ["_law_rng", "_law_things"] (spPick K) := ok_pick FP FD bD gD mi ml
  refine F.ok scWord (fun vs H Q E h => ?_) (fun cdv A outer s H vs Q E hr h => ?_)
  · obtain ⟨r, gs, m, rfl, _⟩ := h
    rfl
  · obtain ⟨r, gs, m, rfl, h0, h1, m0, m1, R, q⟩ := h
    have hr1 : Room 1 _ := hr.mono (by decide)
    refine ⟨_, pss_one (ps_ret (pe_join pe_str (pe_lc (own := [("_law_k", 3)]) (g := gName 3) (tt := tYes) rfl scWord.nd
        (pi_range1 rfl mr (pa_cons (pe_call GD hr1 (by rfl) gD FD.kp bD .nil pass0 (pa_cons (pv 0) (pa_cons (pe_op op_add (pv 2) pe_int) pa_nil))) pa_nil))
        (blkOk_by (N := ["_law_rng", "_law_signs", "_law_most", "_law_k"]) (sc := defScope sWord) (by decide +kernel))
        (fun _ _ _ _ _ => pg_name (i := 3) scWord.nd rfl (Or.inl rfl)) (fun _ _ _ _ _ => pts_nil)
        (fun _ _ _ _ _ => pe_call GP hr (by rfl) gP FP.kp bP .nil pass0 (pa_cons (pv 0) (pa_cons (pv 1) pa_nil)))))), ?_⟩
    refine ⟨⟨_, rfl⟩, _, rfl, _, rfl, _, _, rfl, rfl, r, _, rfl, by omega, by omega, R, fun H1 k g1 k0 k1 => ?_⟩
    obtain ⟨n, rfl⟩ := Int.eq_ofNat_of_zero_le k0
    refine ⟨_, rfl, by omega, by omega, fun D nD => ?_⟩
    obtain ⟨xr, er⟩ := g1.rng.ex
    have nDr : D ≠ r := (ne_of_none er nD).symm
    refine lc_range (lo := 0) (n := (n : Int).toNat)
      (fun i H' => ∃ cs : List Nat, H' D = some (.lst (cs.map fun c => V.str (S [c]))) ∧ (∀ c ∈ cs, c ∈ gs) ∧ cs.length = i ∧ Go r H1 H')
      ⟨[], upd_same, (fun c hc => nomatch hc), rfl, (Go.refl g1.rng).same (same_new nD)⟩ ?_ ?_
    · rintro i H' hi ⟨cs, hD, hc, hn, g⟩
      refine ⟨rfl, _, rfl, _, rfl, r, _, rfl, g.rng, .inr ⟨gs, rfl, h0, h1, fun H2 c g2 hcm => ?_⟩⟩
      refine ⟨_, g2.1 _ _ nDr hD, ?_, ?_⟩
      · rw [List.length_map]
        exact small1000 (by omega)
      · refine ⟨cs ++ [c], ?_, fun x hx => ?_, by rw [List.length_append, hn]; rfl, ?_⟩
        · rw [upd_same, List.map_append]
          rfl
        · rcases List.mem_append.mp hx with h | h
          · exact hc x h
          · rw [List.mem_singleton.mp h]; exact hcm
        · exact (g.trans g2).put nD
    · rintro H' ⟨cs, hD, hc, hn, g⟩
      refine ⟨_, D, cs.map (fun c => S [c]), rfl, rfl, .inl (.inl (.inl ?_)), ?_, ?_⟩
      · rw [hD, List.map_map]
        rfl
      · rw [one_len]
        show cs.length + _ * 0 ≤ _
        omega
      · rw [joinC]
        exact q _ _ (g1.trans g) hc (by omega)
abbrev sIs : Stmt := topS 28
theorem scIs : FnScope ["letters", "turn"] ["letters", "turn"] (defScope sIs) :=
  ⟨rfl, rfl, rfl, by decide +kernel, rfl, by decide +kernel, by decide +kernel⟩
theorem ok_is {f : Addr} {fd : FuncData} (F : Fun K "is_turn" "is_turn" sIs f fd) (ms : mg "sorted" = none) :
    FnOk P w K mg base CX0 1 f fd ["letters", "turn"] spIs := by
  refine F.ok scIs (fun vs H Q E h => ?_) (fun cdv A outer s H vs Q E hr h => ?_)
  · obtain ⟨gs, t, rfl, _⟩ := h
    rfl
  · obtain ⟨gs, t, rfl, l1, l2, c1, c2, q⟩ := h
    refine ⟨_, pss_one (ps_ret (pe_cmpR (op_eqD hr.units) (pe_callB (call_sortedTx rfl) (by rfl) ms (by decide +kernel) (pa_cons (pv 1) pa_nil))
      (pe_callB (call_sortedTx rfl) (by rfl) ms (by decide +kernel) (pa_cons (pv 0) pa_nil)) (nomark _))), ?_⟩
    refine ⟨_, rfl, S t, rfl, l2, fun ys1 p1 hp1 hs1 n1 => ⟨_, rfl, S gs, rfl, l1, fun ys2 p2 hp2 hs2 n2 => ?_⟩⟩
    obtain ⟨ls, rfl, h1⟩ := signs_of (zs := t) hp1
    obtain ⟨ms', rfl, h2⟩ := signs_of (zs := gs) hp2
    have s1 := same_new (o := .lst ((ls.map S).map V.str)) n1
    have s2 := same_new (o := .lst ((ms'.map S).map V.str)) n2
    refine ⟨_, _, .lst (.inl (.inl (s2 _ _ upd_same))) (dp_all ls), .lst (.inl (.inl upd_same)) (dp_all ms'), shp_tx (small_of h1 c2), shp_tx (small_of h2 c1), ?_⟩
    rw [show PyData.eqv (.list (ls.map fun c => PyData.str (S c))) (.list (ms'.map fun c => PyData.str (S c))) = decide (ls = ms') from eqvAll_tx ls ms', signs_eq h1 h2 hs1 hs2]
    exact q _ (s1.trans s2)
abbrev sLTurned : Stmt := topS 91
theorem scLTurned : FnScope ["_law_signs", "_law_my_turn", "_law_shown", "_law_sign"]
    ["_law_signs", "_law_my_turn", "_law_shown"] (defScope sLTurned) :=
  ⟨rfl, rfl, rfl, by decide +kernel, rfl, by decide +kernel, by decide +kernel⟩
theorem ok_lturned {f : Addr} {fd : FuncData} (F : Fun K "_law_turned" "_law_turned" sLTurned f fd) :
    FnOk P w K mg base CX0 1 f fd ["_law_signs", "_law_my_turn", "_law_shown"] spTd := by
  refine F.ok scLTurned (fun vs H Q E h => ?_) (fun cdv A outer s H vs Q E hr h => ?_)
  · obtain ⟨gs, t, xs, rfl, _⟩ := h
    rfl
  · obtain ⟨gs, t, xs, rfl, nd, hg, ht, hx, hm, q⟩ := h
    refine ⟨_, pss_one (ps_ret (pe_join pe_str (pe_lc (own := [("_law_sign", 3)]) (g := gName 3) (tt := tYes) rfl scLTurned.nd
        (pi_str (pv 2))
        (blkOk_by (N := ["_law_signs", "_law_my_turn", "_law_shown", "_law_sign"]) (sc := defScope sLTurned) (by decide +kernel))
        (fun _ _ _ _ _ => pg_name (i := 3) scLTurned.nd rfl (Or.inl rfl)) (fun _ _ _ _ _ => pts_nil)
        (fun _ _ _ _ _ => pe_ix ix_str (pv 1) (pe_m1 PySem.F.slot_str_index PySem.F.type_str_index mt_sindex (pv 0) (pv 3))
          (fun _ _ => rfl))))), ?_⟩
    refine ⟨⟨_, rfl⟩, _, rfl, _, rfl, fun D nD => ?_⟩
    refine lc_it (walk_str (z := S xs)) (fun i H' => H' = upd H D (.lst (((xs.take i).map (tau gs t)).map fun c => V.str (S [c])))) rfl (fun _ _ _ _ => trivial) ?_ ?_
    · rintro i x H' H'' hi rfl ⟨rfl, c, hc, rfl⟩
      have hc2 : xs[i]? = some c := by rw [← List.getElem?_toArray]; exact hc
      have hcm : c ∈ gs := hm c (List.mem_of_getElem? hc2)
      obtain ⟨rest, ho⟩ := occ1 hcm
      refine ⟨rfl, _, rfl, _, rfl, ⟨_, rfl⟩, _, rfl, _, _, _, rest, rfl, rfl, ho, ?_⟩
      refine ⟨_, _, tau gs t c, rfl, rfl, by rw [S_len]; exact small (by omega), atI_nat (tau_at hcm ht), _, upd_same, ?_, ?_⟩
      · rw [List.length_map, List.length_map, List.length_take]
        exact small1000 (by omega)
      · rw [upd_upd, List.take_add_one, hc2, List.map_append, List.map_append]
        rfl
    · rintro H' rfl
      have e : xs.take (S xs).cps.size = xs := List.take_of_length_le (Nat.le_of_eq rfl)
      rw [e]
      refine ⟨_, D, (xs.map (tau gs t)).map (fun c => S [c]), rfl, rfl, .inl (.inl (.inl ?_)), ?_, ?_⟩
      · rw [upd_same]
        simp only [List.map_map]
        rfl
      · rw [one_len, List.length_map]
        show xs.length + _ * 0 ≤ _
        omega
      · rw [joinC]
        exact q _ (same_new nD)
abbrev sCheck : Stmt := topS 27
theorem scCheck : FnScope ["letters", "text", "at", "letter"] ["letters", "text"] (defScope sCheck) :=
  ⟨rfl, rfl, rfl, by decide +kernel, rfl, by decide +kernel, by decide +kernel⟩
theorem ok_check {f : Addr} {fd : FuncData} (F : Fun K "check_text" "check_text" sCheck f fd) (me : mg "enumerate" = none) :
    FnOk P w K mg base CX0 1 f fd ["letters", "text"] spCk := by
  refine F.ok scCheck (fun vs H Q E h => ?_) (fun cdv A outer s H vs Q E hr h => ?_)
  · obtain ⟨gs, xs, rfl, _⟩ := h
    rfl
  · obtain ⟨gs, xs, rfl, hm, q⟩ := h
    refine ⟨_, pss_one (ps_for PassesOwn.never rfl (pi_enS (by rfl) me (pa_cons (pv 1) pa_nil))
      (pg_tup rfl (pgs_cons (pg_name (i := 2) scCheck.nd rfl (.inl rfl)) (pgs_cons (pg_name (i := 3) scCheck.nd rfl (.inl rfl)) pgs_nil)))
      (pss_one (ps_if (pt_cmpR op_notIn_sign (pv 3) (pv 0) rfl) pss_never pss_nil))), ?_⟩
    refine ⟨_, rfl, _, rfl, for_it (walkE (z := S xs)) (fun i σ H' => ∃ v2 v3, σ = [some (.str (S gs)), some (.str (S xs)), v2, v3] ∧ Same H H')
      ⟨none, none, rfl, Same.refl _⟩ (fun _ _ _ _ _ => trivial) ?_ ?_⟩
    · rintro i x σ H' H'' hi ⟨v2, v3, rfl, s1⟩ ⟨T, c, rfl, nT, hc, rfl⟩
      have hc2 : xs[i]? = some c := by rw [← List.getElem?_toArray]; exact hc
      have hcm : c ∈ gs := hm c (List.mem_of_getElem? hc2)
      refine ⟨T, _, rfl, .inl (.inl upd_same), rfl, _, _, rfl, _, _, rfl, rfl, ?_⟩
      refine ⟨_, rfl, _, rfl, c, _, rfl, rfl, _, rfl, ?_⟩
      refine iteNS hcm ?_
      exact ⟨_, _, rfl, s1.trans (same_new nT)⟩
    · rintro σ H' ⟨v2, v3, rfl, s1⟩
      exact q _ s1
abbrev sTurned : Stmt := topS 29
theorem scTurned : FnScope ["letters", "turn", "text", "into", "letter"] ["letters", "turn", "text"] (defScope sTurned) :=
  ⟨rfl, rfl, rfl, by decide +kernel, rfl, by decide +kernel, by decide +kernel⟩
theorem ok_turned {f fC : Addr} {fd fdC : FuncData} (F : Fun K "turned" "turned" sTurned f fd)
    (FC : Fun K "check_text" "check_text" sCheck fC fdC) (bC : Binds K fdC ["letters", "text"] []) (gC : mg "check_text" = some (.ref fC))
    (me : mg "enumerate" = none) (md : mg "dict" = none) (mz : mg "zip" = none) :
    FnOk P w K mg base CX0 2 f fd ["letters", "turn", "text"] spTd := by
  have GC : FnOk P w K mg base CX0 1 fC fdC ["letters", "text"] spCk := ok_check FC me
  refine F.ok scTurned (fun vs H Q E h => ?_) (fun cdv A outer s H vs Q E hr h => ?_)
  · obtain ⟨gs, t, xs, rfl, _⟩ := h
    rfl
  · obtain ⟨gs, t, xs, rfl, nd, hg, ht, hx, hm, q⟩ := h
    have hu := hu_of hr
    refine ⟨_, pss_cons (ps_expr (pe_call GC hr (by rfl) gC FC.kp bC .nil pass0 (pa_cons (pv 0) (pa_cons (pv 2) pa_nil))))
      (pss_cons (ps_set (i := 3) scTurned.nd rfl (.inr rfl) (pe_dz (by rfl) md (by rfl) mz (pa_cons (pv 0) (pa_cons (pv 1) pa_nil))))
      (pss_one (ps_ret (pe_join pe_str (pe_lc (own := [("letter", 4)]) (g := gName 4) (tt := tYes) rfl scTurned.nd
        (pi_str (pv 2))
        (blkOk_by (N := ["letters", "turn", "text", "into", "letter"]) (sc := defScope sTurned) (by decide +kernel))
        (fun _ _ _ _ _ => pg_name (i := 4) scTurned.nd rfl (Or.inl rfl)) (fun _ _ _ _ _ => pts_nil)
        (fun _ _ _ _ _ => pe_dget hu (pv 3) (pv 4) (fun _ _ => rfl))))))), ?_⟩
    refine ⟨_, rfl, _, rfl, gs, xs, rfl, hm, fun H1 s1 => ?_⟩
    refine ⟨_, rfl, _, rfl, S gs, S t, rfl, ?_, fun d nd1 => ?_⟩
    · show min gs.length t.length ≤ sizeLine
      exact small (by omega)
    refine ⟨⟨_, rfl⟩, _, rfl, _, rfl, fun D nD => ?_⟩
    have ndD : d ≠ D := fun e => by
      rw [← e, upd_same] at nD
      cases nD
    refine lc_it (walk_str (z := S xs)) (fun i H' => H' = upd (upd H1 d (.dK (mergeK [] (zipS (S gs) (S t))))) D (.lst (((xs.take i).map (tau gs t)).map fun c => V.str (S [c])))) rfl (fun _ _ _ _ => trivial) ?_ ?_
    · rintro i x H' H'' hi rfl ⟨rfl, c, hc, rfl⟩
      have hc2 : xs[i]? = some c := by rw [← List.getElem?_toArray]; exact hc
      have hcm : c ∈ gs := hm c (List.mem_of_getElem? hc2)
      have hget : DGet (upd (upd H1 d (.dK (mergeK [] (zipS (S gs) (S t))))) D (.lst (((xs.take i).map (tau gs t)).map fun c => V.str (S [c])))) d
          (.str (S [c])) (some (.str (S [tau gs t c]))) := by
        rw [← dz_get nd ht hcm]
        exact DGet.k (k := Sum.inr (S [c])) (by rw [upd_ne ndD, upd_same])
      refine ⟨rfl, _, rfl, _, rfl, d, _, rfl, hget, _, upd_same, ?_, ?_⟩
      · rw [List.length_map, List.length_map, List.length_take]
        exact small1000 (by omega)
      · rw [upd_upd, List.take_add_one, hc2, List.map_append, List.map_append]
        rfl
    · rintro H' rfl
      have e : xs.take (S xs).cps.size = xs := List.take_of_length_le (Nat.le_of_eq rfl)
      rw [e]
      refine ⟨_, D, (xs.map (tau gs t)).map (fun c => S [c]), rfl, rfl, .inl (.inl (.inl ?_)), ?_, ?_⟩
      · rw [upd_same]
        simp only [List.map_map]
        rfl
      · rw [one_len, List.length_map]
        show xs.length + _ * 0 ≤ _
        omega
      · rw [joinC]
        exact q _ ((s1.trans (same_new nd1)).trans (same_new nD))
abbrev sSame : Stmt := topS 85
theorem scSame : FnScope ["_law_found", "_law_due", "_law_a", "_law_b"] ["_law_found", "_law_due"] (defScope sSame) :=
  ⟨rfl, rfl, rfl, by decide +kernel, rfl, by decide +kernel, by decide +kernel⟩
theorem same_step {f : Addr} {fd : FuncData} {n : Nat} (F : Fun K "_law_same" "_law_same" sSame f fd) (T : SameT mg)
    (bS : Binds K fd ["_law_found", "_law_due"] []) (gS : mg "_law_same" = some (.ref f))
    (GS : FnOk P w K mg base CX0 n f fd ["_law_found", "_law_due"] (spSm K n)) :
    FnOk P w K mg base CX0 (n + 1) f fd ["_law_found", "_law_due"] (spSm K (n + 1)) := by
  refine F.ok scSame (fun vs H Q E h => ?_) (fun cdv A outer s H vs Q E hr h => ?_)
  · obtain ⟨x, y, rfl, _⟩ := h
    rfl
  · obtain ⟨x, y, rfl, h, q⟩ := h
    refine ⟨_, pss_cons (ps_if (pt_val (pe_callB call_isiT (by rfl) T.isi (by decide +kernel) (pa_cons (pv 1) (pa_cons
          (pe_tup (pa_cons (pe_bltn (v := .ty "list") (u := .type "list") (by rfl) T.list (by decide +kernel) rfl)
            (pa_cons (pe_bltn (v := .ty "tuple") (u := .type "tuple") (by rfl) T.tuple (by decide +kernel) rfl) pa_nil))) pa_nil))))
        (pss_cons (ps_if (PW.pt (pw_or
            (pt_cmpR op_ne (pe_callB call_isi (by rfl) T.isi (by decide +kernel) (pa_cons (pv 0) (pa_cons (pe_bltn (v := .ty "list") (u := .type "list") (by rfl) T.list (by decide +kernel) rfl) pa_nil)))
              (pe_callB call_isi (by rfl) T.isi (by decide +kernel) (pa_cons (pv 1) (pa_cons (pe_bltn (v := .ty "list") (u := .type "list") (by rfl) T.list (by decide +kernel) rfl) pa_nil))) (nomark _))
            (pw_or1 (pt_cmpR op_ne (pe_callB call_isi (by rfl) T.isi (by decide +kernel) (pa_cons (pv 0) (pa_cons (pe_bltn (v := .ty "tuple") (u := .type "tuple") (by rfl) T.tuple (by decide +kernel) rfl) pa_nil)))
              (pe_callB call_isi (by rfl) T.isi (by decide +kernel) (pa_cons (pv 1) (pa_cons (pe_bltn (v := .ty "tuple") (u := .type "tuple") (by rfl) T.tuple (by decide +kernel) rfl) pa_nil))) (nomark _)))))
          pss_never pss_nil)
        (pss_one (ps_ret (pe_and (pe_cmpR op_eq (pe_callB call_len (by rfl) T.len PySem.boot_len (pa_cons (pv 0) pa_nil)) (pe_callB call_len (by rfl) T.len PySem.boot_len (pa_cons (pv 1) pa_nil)) (nomark _))
          (pe_one (pe_callB (cr_all rfl) (by rfl) T.all (by decide +kernel) (pa_cons
            (pe_lc (own := [("_law_a", 2), ("_law_b", 3)]) (g := gTup K 2 (gCons (gName 2) (gCons (gName 3) gNil))) (tt := tYes) rfl scSame.nd
              (pi_zipA (by rfl) T.zip (pa_cons (pv 0) (pa_cons (pv 1) pa_nil)))
              (blkOk_by (N := ["_law_found", "_law_due", "_law_a", "_law_b"]) (sc := defScope sSame) (by decide +kernel))
              (fun _ _ _ _ _ => pg_tup rfl (pgs_cons (pg_name (i := 2) scSame.nd rfl (Or.inl rfl)) (pgs_cons (pg_name (i := 3) scSame.nd rfl (Or.inl rfl)) pgs_nil)))
              (fun _ _ _ _ _ => pts_nil)
              (fun _ _ _ _ _ => pe_call GS hr (by rfl) gS F.kp bS .nil pass0 (pa_cons (pv 2) (pa_cons (pv 3) pa_nil)))) pa_nil)))))))
        pss_nil)
      (pss_cons (ps_if (PW.pt (pw_or (pt_cmpR op_isN (pv 1) pe_non (nomark _)) (pw_or1 (pt_cmpR op_isN (pv 0) pe_non (nomark _)))))
        (pss_one (ps_ret (pe_and (pe_cmpR op_isN (pv 1) pe_non (nomark _)) (pe_one (pe_cmpR op_isN (pv 0) pe_non (nomark _)))))) pss_nil)
      (pss_cons (ps_if (PW.pt (pw_or
            (pt_cmpR op_ne (pe_callB call_isi (by rfl) T.isi (by decide +kernel) (pa_cons (pv 1) (pa_cons (pe_bltn (v := .ty "bool") (u := .type "bool") (by rfl) T.bool (by decide +kernel) rfl) pa_nil)))
              (pe_callB call_isi (by rfl) T.isi (by decide +kernel) (pa_cons (pv 0) (pa_cons (pe_bltn (v := .ty "bool") (u := .type "bool") (by rfl) T.bool (by decide +kernel) rfl) pa_nil))) (nomark _))
            (pw_or1 (pt_cmpR op_ne (pe_callB call_isi (by rfl) T.isi (by decide +kernel) (pa_cons (pv 1) (pa_cons (pe_bltn (v := .ty "int") (u := .type "int") (by rfl) T.int (by decide +kernel) rfl) pa_nil)))
              (pe_callB call_isi (by rfl) T.isi (by decide +kernel) (pa_cons (pv 0) (pa_cons (pe_bltn (v := .ty "int") (u := .type "int") (by rfl) T.int (by decide +kernel) rfl) pa_nil))) (nomark _)))))
          pss_never pss_nil)
      (pss_one (ps_ret (pe_and (pe_cmpR op_eq (pe_callB call_isi (by rfl) T.isi (by decide +kernel) (pa_cons (pv 1) (pa_cons (pe_bltn (v := .ty "str") (u := .type "str") (by rfl) T.str (by decide +kernel) rfl) pa_nil)))
              (pe_callB call_isi (by rfl) T.isi (by decide +kernel) (pa_cons (pv 0) (pa_cons (pe_bltn (v := .ty "str") (u := .type "str") (by rfl) T.str (by decide +kernel) rfl) pa_nil))) (nomark _))
        (pe_one (pe_cmpR op_eq (pv 0) (pv 1) (nomark _)))))))), ?_⟩
    rcases h with ⟨rfl, hf⟩ | ⟨a, b, xs, ys, rfl, rfl, hab, l1, l2, k⟩
    · obtain ⟨t, hty, k1, k2, ⟨b1, k3⟩, ⟨b2, k4⟩, ⟨b3, k5⟩⟩ := flat_ty (K := K) hf
      refine ⟨_, rfl, (by show 2 ≤ sizeLine; decide), fun tp ntp => ?_⟩
      have s1 := same_new (o := .tup [.ty "list", .ty "tuple"]) ntp
      refine ⟨x, tp, _, .type t, [.type "list", .type "tuple"], false, rfl, upd_same, .cons (.ty _) (.cons (.ty _) .nil), hty _, kit2 k1 k2, false, rfl, iteF ?_⟩
      by_cases hx : x = .non
      · subst hx
        refine ⟨_, rfl, rfl, _, rfl, ?_⟩
        rw [decide_eq_true rfl]
        refine ⟨_, rfl, rfl, true, by rw [decide_eq_true rfl], iteT ⟨_, rfl, rfl, ?_⟩⟩
        rw [decide_eq_true rfl]
        exact q _ s1
      · refine ⟨_, rfl, rfl, _, rfl, ?_⟩
        rw [decide_eq_false hx]
        refine ⟨_, rfl, rfl, _, rfl, ?_⟩
        rw [decide_eq_false hx]
        refine ⟨_, rfl, x, .ty "bool", .type t, .type "bool", b1, rfl, .ty _, hty _, kit_ty k3, _, rfl, x, .ty "bool", .type t, .type "bool", b1, rfl, .ty _, hty _, kit_ty k3, rfl, _, rfl, ?_⟩
        refine iteNS rfl ?_
        refine ⟨_, rfl, x, .ty "int", .type t, .type "int", b2, rfl, .ty _, hty _, kit_ty k4, _, rfl, x, .ty "int", .type t, .type "int", b2, rfl, .ty _, hty _, kit_ty k4, rfl, _, rfl, ?_⟩
        refine iteNS rfl ?_
        refine ⟨_, rfl, x, .ty "str", .type t, .type "str", b3, rfl, .ty _, hty _, kit_ty k5, _, rfl, x, .ty "str", .type t, .type "str", b3, rfl, .ty _, hty _, kit_ty k5, rfl, true, by rw [decide_eq_true rfl], iteT ?_⟩
        refine ⟨_, rfl, _, rfl, ?_, ?_⟩
        · cases x with
          | non => exact absurd rfl hx
          | bl b => rfl
          | int i => rfl
          | str z => rfl
          | _ => exact hf.elim
        · rw [decide_eq_true rfl]
          exact q _ s1
    · refine ⟨_, rfl, (by show 2 ≤ sizeLine; decide), fun tp ntp => ?_⟩
      have s1 := same_new (o := .tup [.ty "list", .ty "tuple"]) ntp
      have turn : ∀ (D : Addr) (nD : (upd H tp (.tup [.ty "list", .ty "tuple"])) D = none) (i : Nat) (x : V) (H' H'' : Hp),
          (Same (upd H tp (.tup [.ty "list", .ty "tuple"])) H' ∧ H' D = some (.lst ((List.replicate i true).map V.bl))) → i < xs.length →
          YPair (fun i => xs[i]?) (fun i => ys[i]?) i H' x H'' →
          gTup K 2 (gCons (gName 2) (gCons (gName 3) gNil)) x [some (.ref a), some (.ref b), none, none] H'' fun σ2 H2 =>
            wipe σ2 [2, 3] = wipe [some (.ref a), some (.ref b), none, none] [2, 3] ∧ tYes σ2 H2 fun c H3 =>
            if c = true then tCall (spSm K n) [] E0 (tCons (tVar 2) (tCons (tVar 3) tNil)) σ2 H3 fun y H4 => ∃ acc, H4 D = some (.lst acc) ∧ acc.length < sizeLine ∧
              (Same (upd H tp (.tup [.ty "list", .ty "tuple"])) (upd H4 D (.lst (acc ++ [y]))) ∧ (upd H4 D (.lst (acc ++ [y]))) D = some (.lst ((List.replicate (i + 1) true).map V.bl)))
            else (Same (upd H tp (.tup [.ty "list", .ty "tuple"])) H3 ∧ H3 D = some (.lst ((List.replicate (i + 1) true).map V.bl))) := by
        rintro D nD i x H' H'' ⟨sm, hD⟩ hi ⟨T, u, v, rfl, nT, rfl, hu, hv⟩
        have s2 := same_new (o := .tup [u, v]) nT
        refine ⟨T, _, rfl, .inl (.inl upd_same), rfl, _, _, rfl, _, _, rfl, rfl, rfl, ?_⟩
        refine ⟨_, rfl, _, rfl, u, v, rfl, (k i u v hu hv).same ((s1.trans sm).trans s2), fun H4 s4 => ?_⟩
        refine ⟨_, s4 _ _ (s2 _ _ hD), ?_, fun b o e => ?_, ?_⟩
        · rw [List.length_map, List.length_replicate]
          exact small1000 (by omega)
        · rw [upd_ne (ne_of_none e nD)]
          exact s4 _ _ (s2 _ _ (sm _ _ e))
        · rw [upd_same, List.replicate_succ', List.map_append]
          rfl
      have fin : ∀ (D : Addr) (H' : Hp), (Same (upd H tp (.tup [.ty "list", .ty "tuple"])) H' ∧ H' D = some (.lst ((List.replicate xs.length true).map V.bl))) →
          rAll K [.ref D] H' fun v H' => Q v H' := by
        rintro D H' ⟨sm, hD⟩
        refine ⟨D, _, rfl, .inl (.inl hD), ?_⟩
        have e : (List.replicate xs.length true).all id = true := by
          rw [List.all_eq_true]
          intro c hc
          rw [List.eq_of_mem_replicate hc]
          rfl
        rw [e]
        exact q _ (s1.trans sm)
      rcases hab with ⟨ha, hb⟩ | ⟨ha, hb⟩
      · have ha := s1.seq ha
        have hb := s1.seq hb
        refine ⟨.ref b, tp, _, .type "list", [.type "list", .type "tuple"], true, rfl, upd_same, .cons (.ty _) (.cons (.ty _) .nil), tyL hb, kit2 (r := true) (s := false) (by decide +kernel) (by decide +kernel), true, rfl, iteT ?_⟩
        refine ⟨_, rfl, .ref a, .ty "list", .type "list", .type "list", true, rfl, .ty _, tyL ha, kit_ty (by decide +kernel), _, rfl, .ref b, .ty "list", .type "list", .type "list", true, rfl, .ty _, tyL hb, kit_ty (by decide +kernel), rfl, _, rfl, ?_⟩
        refine iteNS rfl ?_
        refine ⟨_, rfl, .ref a, .ty "tuple", .type "list", .type "tuple", false, rfl, .ty _, tyL ha, kit_ty (by decide +kernel), _, rfl, .ref b, .ty "tuple", .type "list", .type "tuple", false, rfl, .ty _, tyL hb, kit_ty (by decide +kernel), rfl, _, rfl, ?_⟩
        refine iteNS rfl ?_
        refine ⟨_, rfl, _, xs.length, rfl, .inl ⟨_, ha, rfl⟩, _, rfl, _, xs.length, rfl, .inl ⟨_, hb, l2⟩, rfl, true, by rw [decide_eq_true rfl], iteT ?_⟩
        refine ⟨_, rfl, _, rfl, a, b, xs, ys, rfl, .inl ⟨ha, hb, fun D nD => ?_⟩⟩
        refine lc_it (walk_zip (K := K) (a := a) (b := b) (xs := xs) (ys := ys) (n := xs.length) (by omega))
          (fun i H' => Same (upd H tp (.tup [.ty "list", .ty "tuple"])) H' ∧ H' D = some (.lst ((List.replicate i true).map V.bl)))
          ⟨same_new nD, upd_same⟩ (fun i H' _ ⟨sm, _⟩ => ⟨sm.seq ha, sm.seq hb⟩) (fun i x H' H'' hi p y => turn D nD i x H' H'' p hi y) (fun H' p => fin D H' p)
      · have ha := same_t s1 ha
        have hb := same_t s1 hb
        refine ⟨.ref b, tp, _, .type "tuple", [.type "list", .type "tuple"], true, rfl, upd_same, .cons (.ty _) (.cons (.ty _) .nil), tyT hb, kit2 (r := false) (s := true) (by decide +kernel) (by decide +kernel), true, rfl, iteT ?_⟩
        refine ⟨_, rfl, .ref a, .ty "list", .type "tuple", .type "list", false, rfl, .ty _, tyT ha, kit_ty (by decide +kernel), _, rfl, .ref b, .ty "list", .type "tuple", .type "list", false, rfl, .ty _, tyT hb, kit_ty (by decide +kernel), rfl, _, rfl, ?_⟩
        refine iteNS rfl ?_
        refine ⟨_, rfl, .ref a, .ty "tuple", .type "tuple", .type "tuple", true, rfl, .ty _, tyT ha, kit_ty (by decide +kernel), _, rfl, .ref b, .ty "tuple", .type "tuple", .type "tuple", true, rfl, .ty _, tyT hb, kit_ty (by decide +kernel), rfl, _, rfl, ?_⟩
        refine iteNS rfl ?_
        refine ⟨_, rfl, _, xs.length, rfl, .inr ⟨_, ha, rfl⟩, _, rfl, _, xs.length, rfl, .inr ⟨_, hb, l2⟩, rfl, true, by rw [decide_eq_true rfl], iteT ?_⟩
        refine ⟨_, rfl, _, rfl, a, b, xs, ys, rfl, .inr ⟨ha, hb, fun D nD => ?_⟩⟩
        refine lc_it (walk_zT (K := K) (a := a) (b := b) (xs := xs) (ys := ys) (n := xs.length) (by omega))
          (fun i H' => Same (upd H tp (.tup [.ty "list", .ty "tuple"])) H' ∧ H' D = some (.lst ((List.replicate i true).map V.bl)))
          ⟨same_new nD, upd_same⟩ (fun i H' _ ⟨sm, _⟩ => ⟨same_t sm ha, same_t sm hb⟩) (fun i x H' H'' hi p y => turn D nD i x H' H'' p hi y) (fun H' p => fin D H' p)

theorem ok_same {f : Addr} {fd : FuncData} (F : Fun K "_law_same" "_law_same" sSame f fd) (T : SameT mg)
    (bS : Binds K fd ["_law_found", "_law_due"] []) (gS : mg "_law_same" = some (.ref f)) :
    ∀ n, FnOk P w K mg base CX0 n f fd ["_law_found", "_law_due"] (spSm K n)
  | 0 => ⟨fun vs H Q E h => (let ⟨_, _, _, h, _⟩ := h; h.elim), fun A outer s H args us vs Q E _ _ _ _ h => (let ⟨_, _, _, h, _⟩ := h; h.elim)⟩
  | n + 1 => same_step F T bS gS (ok_same F T bS gS n)
abbrev sField : Stmt := topS 86
theorem scField : FnScope ["_law_e"] ["_law_e"] (defScope sField) :=
  ⟨rfl, rfl, rfl, by decide +kernel, rfl, by decide +kernel, by decide +kernel⟩
theorem ok_field {f : Addr} {fd : FuncData} (F : Fun K "_law_field" "_law_field" sField f fd) :
    FnP P w K mg base 1 f fd ["_law_e"] (spFldN K) := by
  refine fn_ofP F scField (fun a cls d vs H Q E h => ?_) (fun cdv A outer s H vs Q a oe cls d hz hf hr h => ?_)
  · obtain ⟨code, v, rfl, _⟩ := h
    rfl
  · obtain ⟨code, v, rfl, ⟨C, dd, fs, rfl, rfl, hd, T, nc, lc, h1, h0⟩, q⟩ := h
    have hp : (a, oe) ∈ (L2H.cxH CX0 P w K mg base ["_law_e"] "_law_field" (defScope sField) f cdv A outer s H E0 (a, oe)).pn := List.mem_singleton.mpr rfl
    refine ⟨_, pss_cons (ps_if (pt_cmpR op_in_seq (pe_xg hp hz hf (pv 0)) (pe_tup (pa_cons pe_str (pa_cons pe_str pa_nil))) (by rfl)) (pss_one (ps_ret (pe_xg hp hz hf (pv 0)))) pss_nil)
      (pss_cons (ps_if (pt_cmpR op_in_seq (pe_xg hp hz hf (pv 0)) (pe_tup (pa_cons pe_str (pa_cons pe_str (pa_cons pe_str pa_nil)))) (by rfl)) (pss_one (ps_ret (pe_xg hp hz hf (pv 0)))) pss_nil)
      (pss_cons (ps_if (pt_cmpR op_in_seq (pe_xg hp hz hf (pv 0)) (pe_tup (pa_cons pe_str (pa_cons pe_str (pa_cons pe_str (pa_cons pe_str (pa_cons pe_str (pa_cons pe_str pa_nil))))))) (by rfl)) (pss_one (ps_ret (pe_xg hp hz hf (pv 0)))) pss_nil)
      (pss_cons (ps_if (pt_cmpR op_in_seq (pe_xg hp hz hf (pv 0)) (pe_tup (pa_cons pe_str (pa_cons pe_str pa_nil))) (by rfl)) (pss_one (ps_ret (pe_xg hp hz hf (pv 0)))) pss_nil)
      (pss_one (ps_ret (pe_ifExp (pt_cmpR op_eq (pe_xg hp hz hf (pv 0)) pe_str (nomark _)) (pe_xg hp hz hf (pv 0)) pe_non)))))), ?_⟩
    have s0 := Same.refl H
    refine ⟨_, rfl, rfl, C, dd, fs, _, rfl, T, nc, rfl, s0 _ _ hd, lc, (by show 2 ≤ sizeLine; decide), fun t1 n1 => ?_⟩
    have s1 := s0.trans (same_new (o := .tup fldA) n1)
    refine ⟨t1, fldA, rfl, .inr (.inl (.inl upd_same)), rfl, rfl, ?_⟩
    by_cases b1 : inV (.str code) fldA = true
    · obtain ⟨np, lp⟩ := h1 "position" (by unfold fldOf; rw [if_pos b1])
      exact ⟨true, congrArg V.bl b1, iteT ⟨_, rfl, rfl, C, dd, fs, _, rfl, T, np, rfl, s1 _ _ hd, lp, q _ s1⟩⟩
    refine ⟨false, congrArg V.bl (Bool.eq_false_iff.mpr b1), iteF ?_⟩
    refine ⟨_, rfl, rfl, C, dd, fs, _, rfl, T, nc, rfl, s1 _ _ hd, lc, (by show 3 ≤ sizeLine; decide), fun t2 n2 => ?_⟩
    have s2 := s1.trans (same_new (o := .tup fldB) n2)
    refine ⟨t2, fldB, rfl, .inr (.inl (.inl upd_same)), rfl, rfl, ?_⟩
    by_cases b2 : inV (.str code) fldB = true
    · obtain ⟨np, lp⟩ := h1 "limit" (by unfold fldOf; rw [if_neg b1, if_pos b2])
      exact ⟨true, congrArg V.bl b2, iteT ⟨_, rfl, rfl, C, dd, fs, _, rfl, T, np, rfl, s2 _ _ hd, lp, q _ s2⟩⟩
    refine ⟨false, congrArg V.bl (Bool.eq_false_iff.mpr b2), iteF ?_⟩
    refine ⟨_, rfl, rfl, C, dd, fs, _, rfl, T, nc, rfl, s2 _ _ hd, lc, (by show 6 ≤ sizeLine; decide), fun t3 n3 => ?_⟩
    have s3 := s2.trans (same_new (o := .tup fldC) n3)
    refine ⟨t3, fldC, rfl, .inr (.inl (.inl upd_same)), rfl, rfl, ?_⟩
    by_cases b3 : inV (.str code) fldC = true
    · obtain ⟨np, lp⟩ := h1 "name" (by unfold fldOf; rw [if_neg b1, if_neg b2, if_pos b3])
      exact ⟨true, congrArg V.bl b3, iteT ⟨_, rfl, rfl, C, dd, fs, _, rfl, T, np, rfl, s3 _ _ hd, lp, q _ s3⟩⟩
    refine ⟨false, congrArg V.bl (Bool.eq_false_iff.mpr b3), iteF ?_⟩
    refine ⟨_, rfl, rfl, C, dd, fs, _, rfl, T, nc, rfl, s3 _ _ hd, lc, (by show 2 ≤ sizeLine; decide), fun t4 n4 => ?_⟩
    have s4 := s3.trans (same_new (o := .tup fldD) n4)
    refine ⟨t4, fldD, rfl, .inr (.inl (.inl upd_same)), rfl, rfl, ?_⟩
    by_cases b4 : inV (.str code) fldD = true
    · obtain ⟨np, lp⟩ := h1 "index" (by unfold fldOf; rw [if_neg b1, if_neg b2, if_neg b3, if_pos b4])
      exact ⟨true, congrArg V.bl b4, iteT ⟨_, rfl, rfl, C, dd, fs, _, rfl, T, np, rfl, s4 _ _ hd, lp, q _ s4⟩⟩
    refine ⟨false, congrArg V.bl (Bool.eq_false_iff.mpr b4), iteF ?_⟩
    refine ⟨_, rfl, rfl, C, dd, fs, _, rfl, T, nc, rfl, s4 _ _ hd, lc, rfl, ?_⟩
    by_cases b5 : decide (V.str code = V.str (Str.ofString "InvalidMachine")) = true
    · obtain ⟨np, lp⟩ := h1 "room" (by unfold fldOf; rw [if_neg b1, if_neg b2, if_neg b3, if_neg b4, if_pos b5])
      exact ⟨true, congrArg V.bl b5, iteT ⟨_, rfl, rfl, C, dd, fs, _, rfl, T, np, rfl, s4 _ _ hd, lp, q _ s4⟩⟩
    · have e := h0 (by unfold fldOf; rw [if_neg b1, if_neg b2, if_neg b3, if_neg b4, if_neg b5])
      subst e
      exact ⟨false, congrArg V.bl (Bool.eq_false_iff.mpr b5), iteF (q _ s4)⟩
abbrev sTry : Stmt := topS 87
theorem scTry : FnScope ["_law_ask", "_law_e"] ["_law_ask"] (defScope sTry) :=
  ⟨rfl, rfl, rfl, by decide +kernel, rfl, by decide +kernel, by decide +kernel⟩
theorem try_gives {X : Cx} {g fF CF CM : Addr} {cdg : Value} {q : Str} {fdF : FuncData} (mF : X.mg "FillError" = some (.ref CF)) (mM : X.mg "Missing" = some (.ref CM))
    (FP : FnP X.prog X.w X.K X.mg X.base 1 fF fdF ["_law_e"] (spFldN X.K)) (gF : X.mg "_law_field" = some (.ref fF)) (kF : PySem.W.keepIn X.K (.ref fF) = true)
    (bF : Binds X.K fdF ["_law_e"] []) (hr : Room 2 X.A) :
    LamX.GivesTo X ["_law_ask", "_law_e"] "_law_try" (defScope sTry) g cdg (defBody sTry) "_law_ask" q (TryN X.K CF CM) := by
  intro f c' s H Q tl act hc h
  have hrH : L2H.RoomH 1 (X.A.deeper (envOfC "_law_try" (defScope sTry) s.heap.objs.size g cdg)) := L2H.roomH_of (hr.deeper _)
  refine ⟨_, pss_one (ps_two (X := (cxOf C8.CX0 X.prog X.w X.K X.mg X.base ["_law_ask", "_law_e"] "_law_try" (defScope sTry) g cdg X.A X.stack s H C8.E0).nox) (c1 := .ref CF) (c2 := .ref CM) (i := 1)
      (tb := fun W D σ H => ∃ Ech : XK, (∀ cls d σ' H', Ech cls d H' → W cls d σ' H') ∧ σ[0]? = some (some (.ref f)) ∧ H c' = some (LamX.CodeO c' q) ∧
        tl Ech H (fun v H1 => 2 ≤ sizeLine ∧ ∀ t, H1 t = none → D.rt (.ref t) (upd H1 t (.tup [.str (Str.ofString "value"), v]))))
      (ts := fun a cls d => tRet (tTup (tCons (tXg X.K a cls d "code" (tVar 1)) (tCons (fun σ H Q => tCons (tVar 1) tNil σ H fun vs H1 => spFldN X.K a cls d vs H1 Q E0) tNil))))
      rfl rfl scTry.nd rfl rfl (by rfl) mF (by decide) (by rfl) mM (by decide)
      (fun W pn xe tk _ => ?_)
      (fun a oe cls d pn hz hf => pss_one (ps_ret (pe_tup (pa_cons (pe_xg (X := (cxOf C8.CX0 X.prog X.w X.K X.mg X.base ["_law_ask", "_law_e"] "_law_try" (defScope sTry) g cdg X.A X.stack s H C8.E0).nox.suite a ((a, oe) :: pn)) (List.mem_cons_self ..) hz hf (pv 1))
        (pa_cons (pe_callP (X := (cxOf C8.CX0 X.prog X.w X.K X.mg X.base ["_law_ask", "_law_e"] "_law_try" (defScope sTry) g cdg X.A X.stack s H C8.E0).nox.suite a ((a, oe) :: pn)) (List.mem_cons_self ..) hz hf FP ⟨hrH.dp, hrH.un⟩ (by rfl) gF kF bF (pa_cons (pv 1) pa_nil)) pa_nil)))))), ?_⟩
  · refine ⟨fun pins s' σ H' D I h' => ?_⟩
    obtain ⟨Ech, hW, h1, h2, h3⟩ := h'
    refine (pss_one (ps_ret (pe_tup (pa_cons pe_str (pa_cons (act W pn xe Ech _ _ tk hW) pa_nil))))).run pins s' σ H' D I ⟨h1, h2, ?_⟩
    exact h3
  · refine ⟨_, fun cls d σ' H' hE => ?_, rfl, hc, h⟩
    obtain ⟨e1, code, v, ER, q⟩ := hE
    refine ⟨e1, fun a na hlen => ?_⟩
    have h1 : (σ'.set 1 (some (.ref a)))[1]? = some (some (.ref a)) := List.getElem?_set_self (by rw [hlen]; show 1 < 2; decide)
    obtain ⟨C, dd, fs, rfl, rfl, hd, T, nc, lc, hv⟩ := id ER
    refine ⟨_, h1, rfl, C, dd, fs, _, rfl, T, nc, rfl, hd, lc, _, h1, code, v, rfl, ER, fun H2 s2 => ?_⟩
    exact ⟨(by show 2 ≤ sizeLine; decide), fun t nt => q _ t s2 nt⟩
abbrev sInitIL : Stmt := inClass (topS 3) 0
theorem scInitIL : FnScope ["self"] ["self"] (defScope sInitIL) := ⟨rfl, rfl, rfl, by decide +kernel, rfl, by decide +kernel, by decide +kernel⟩
theorem ok_initIL {f C : Addr} {fd : FuncData} (F : Fun K "__init__" "InvalidLetters.__init__" sInitIL f fd) (T : ErrC K mg "InvalidLetters" C) :
    FnOk P w K mg base CX0 1 f fd ["self"] (spI0 K C "InvalidLetters") := by
  refine F.ok scInitIL (fun vs H Q E h => ?_) (fun cdv A outer s H vs Q E hr h => ?_)
  · obtain ⟨a, rfl, _⟩ := h
    rfl
  · obtain ⟨a, rfl, ha, q⟩ := h
    refine ⟨_, pss_one (ps_ost (pv 0) pe_str), ?_⟩
    exact ⟨_, rfl, a, C, rfl, T.ox, T.nc, .inl ⟨ha, fun dx n ne => q dx n ne⟩⟩
abbrev sInitUL : Stmt := inClass (topS 4) 0
theorem scInitUL : FnScope ["self", "position"] ["self", "position"] (defScope sInitUL) := ⟨rfl, rfl, rfl, by decide +kernel, rfl, by decide +kernel, by decide +kernel⟩
theorem ok_initUL {f C : Addr} {fd : FuncData} (F : Fun K "__init__" "UnknownLetter.__init__" sInitUL f fd) (T : ErrC K mg "UnknownLetter" C) :
    FnOk P w K mg base CX0 1 f fd ["self", "position"] (spI1 K C "UnknownLetter") := by
  refine F.ok scInitUL (fun vs H Q E h => ?_) (fun cdv A outer s H vs Q E hr h => ?_)
  · obtain ⟨a, v, rfl, _⟩ := h
    rfl
  · obtain ⟨a, v, rfl, ha, q⟩ := h
    refine ⟨_, pss_cons (ps_ost (pv 0) pe_str) (pss_one (ps_ost (pv 0) (pv 1))), ?_⟩
    refine ⟨_, rfl, a, C, rfl, T.ox, T.nc, .inl ⟨ha, fun dx n ne => ?_⟩⟩
    refine ⟨_, rfl, _, rfl, a, C, rfl, T.ox, T.np, .inr ⟨dx, _, upd_same, by rw [upd_ne ne, upd_same], by decide, q dx n ne⟩⟩
abbrev sCheckL : Stmt := topS 25
theorem scCheckL : FnScope ["letters", "at", "letter"] ["letters"] (defScope sCheckL) :=
  ⟨rfl, rfl, rfl, by decide +kernel, rfl, by decide +kernel, by decide +kernel⟩
theorem ok_checkL {f fI C : Addr} {fd fdI : FuncData} (F : Fun K "check_letters" "check_letters" sCheckL f fd) (T : ErrC K mg "InvalidLetters" C)
    (FI : Fun K "__init__" "InvalidLetters.__init__" sInitIL fI fdI) (bI : Binds K fdI ["self"] []) (iC : PySem.W.findIn K (.ref C) "__init__" = some (some (.ref fI))) (tI : PySem.W.typeIn K (.ref fI) = some (.type "function"))
    (me : mg "enumerate" = none) (ml : mg "len" = none) (mL : ∃ t, mg "LEAST_LETTERS" = some (.int 2 t)) (mM : ∃ t, mg "MOST_LETTERS" = some (.int 4 t)) (mA : ∃ t, mg "LOWERCASE" = some (.str "abcdefghijklmnopqrstuvwxyz" t)) :
    FnOk P w K mg base (L2.CX P w) 3 f fd ["letters"] (spCL C) := by
  have GI : FnOk P w K mg base CX0 1 fI fdI ["self"] (spI0 K C "InvalidLetters") := ok_initIL FI T
  obtain ⟨tL, mL⟩ := mL
  obtain ⟨tM, mM⟩ := mM
  obtain ⟨tA, mA⟩ := mA
  refine F.okX scCheckL (fun vs H Q E h => ?_) (fun cdv A outer s H vs Q E hr h => ?_)
  · obtain ⟨cs, rfl, _⟩ := h
    rfl
  · obtain ⟨cs, rfl, hl, qv, qe⟩ := h
    refine ⟨_, pss_cons (ps_if (pt_not (pt_chain op_le op_le (pe_glob (v := .int 2) (by rfl) mL ⟨_, rfl⟩) (pe_callB call_len_str (by rfl) ml PySem.boot_len (pa_cons (pv 0) pa_nil)) (pe_glob (v := .int 4) (by rfl) mM ⟨_, rfl⟩)))
        (pss_one (ps_raise rfl (takes_of rfl rfl rfl rfl) (pmk0 T.ox iC tI GI hr bI pass0 (by rfl) T.gl))) pss_nil)
      (pss_one (ps_for (passes_of rfl) rfl (pi_enS (by rfl) me (pa_cons (pv 0) pa_nil))
        (pg_tup rfl (pgs_cons (pg_name (i := 1) scCheckL.nd rfl (.inl rfl)) (pgs_cons (pg_name (i := 2) scCheckL.nd rfl (.inl rfl)) pgs_nil)))
        (pss_one (ps_if (PW.pt (pw_or (pt_cmpR op_notIn_sign (pv 2) (pe_glob (v := .str (Str.ofString "abcdefghijklmnopqrstuvwxyz")) (by rfl) mA ⟨_, rfl⟩) rfl) (pw_or1 (pt_cmpR op_in_sign (pv 2) (pe_slice C8.sl_txt (pv 0) po_none (po_some (pv 1))) rfl))))
          (pss_one (ps_raise rfl (takes_of rfl rfl rfl rfl) (pmk0 T.ox iC tI GI hr bI pass0 (by rfl) T.gl))) pss_nil)))), ?_⟩
    have hz : (S cs).length ≤ sizeLine := by rw [S_len]; exact small hl
    -- a raise of it
    have bad : ∀ (H1 : Hp), Same H H1 → ¬ Valid cs → tMkO C (spI0 K C "InvalidLetters") [] tNil [] H1 fun cls d H' => E cls d H' := by
      intro H1 s1 hv
      refine ⟨Nat.zero_le _, fun a na => ⟨a, rfl, upd_same, fun dx nd ne => ⟨rfl, dx, _, upd_same, by rw [upd_ne ne, upd_same], ?_, ?_⟩⟩⟩
      · exact (after0 (C := C) (fs := []) na nd ne).1
      · exact qe hv _ _ (s1.trans (after0 na nd ne).2) upd_same
    have hbs : ((S cs).length : Int) = (cs.length : Int) := by rw [S_len]
    refine ⟨_, rfl, _, rfl, hz, _, _, rfl, rfl, _, rfl, ?_⟩
    rw [hbs]
    refine ite2 (fun h2 => ?_) (fun h2 => ?_)
    rotate_left
    · refine ⟨false, rfl, iteT ?_⟩
      refine bad _ (Same.refl _) fun v => h2 (decide_eq_true ?_)
      have := v.lo
      omega
    refine ⟨_, _, rfl, rfl, _, rfl, ?_⟩
    have hlo : 2 ≤ cs.length := by
      have := of_decide_eq_true h2
      omega
    by_cases h4 : cs.length ≤ 4
    rotate_left
    · have e : decide ((cs.length : Int) ≤ 4) = false := decide_eq_false (by omega)
      rw [e]
      exact iteT (bad _ (Same.refl _) fun v => h4 v.hi)
    have e : decide ((cs.length : Int) ≤ 4) = true := decide_eq_true (by omega)
    rw [e]
    refine iteF ?_
    refine ⟨_, rfl, _, rfl, for_it (walkE (z := S cs)) (fun i σ H' => ∃ v1 v2, σ = [some (.str (S cs)), v1, v2] ∧ Same H H' ∧ (∀ c ∈ cs.take i, 97 ≤ c ∧ c ≤ 122) ∧ (cs.take i).Nodup)
      ⟨none, none, rfl, Same.refl _, (fun c hc => by rw [List.take_zero] at hc; cases hc), by rw [List.take_zero]; exact List.Pairwise.nil⟩ (fun _ _ _ _ _ => trivial) ?_ ?_⟩
    · rintro i x σ H' H'' hi ⟨v1, v2, rfl, s1, haz, hnd⟩ ⟨T, c, rfl, nT, hc, rfl⟩
      have hc2 : cs[i]? = some c := by rw [← List.getElem?_toArray]; exact hc
      have s2 := s1.trans (same_new (o := .tup [.int (i : Nat), .str ⟨#[c]⟩]) nT)
      refine ⟨T, _, rfl, .inl (.inl upd_same), rfl, _, _, rfl, _, _, rfl, rfl, ?_⟩
      refine ⟨_, rfl, c, _, rfl, rfl, _, rfl, ?_⟩
      have hcm : c ∈ cs := List.mem_of_getElem? hc2
      have hil : i < cs.length := (List.getElem?_eq_some_iff.mp hc2).1
      by_cases hl2 : 97 ≤ c ∧ c ≤ 122
      rotate_left
      · have e : (!decide (c ∈ (Str.ofString "abcdefghijklmnopqrstuvwxyz").cps.toList)) = true := by
          rw [az]
          show (!decide (c ∈ List.range' 97 26)) = true
          rw [decide_eq_false fun h => hl2 (by have := List.mem_range'.mp h; omega)]
          rfl
        rw [e]
        refine iteT (iteT ?_)
        exact bad _ s2 fun v => hl2 (v.az c hcm)
      have e : (!decide (c ∈ (Str.ofString "abcdefghijklmnopqrstuvwxyz").cps.toList)) = false := by
        rw [az]
        show (!decide (c ∈ List.range' 97 26)) = false
        rw [decide_eq_true (List.mem_range'.mpr ⟨c - 97, by omega, by omega⟩)]
        rfl
      rw [e]
      refine ⟨_, rfl, _, rfl, _, rfl, _, rfl, _, rfl, hz, c, _, rfl, rfl, _, rfl, ?_⟩
      rw [slice_to (a := cs) (i := ((i : Nat) : Int)) (by omega)]
      show (if decide (c ∈ cs.take (((i : Nat) : Int).toNat)) = true then _ else _)
      rw [Int.toNat_natCast]
      have ht : cs.take (i + 1) = cs.take i ++ [c] := by rw [List.take_add_one, hc2]; rfl
      refine ite2 (fun hin => ?_) (fun hin => ?_)
      · refine bad _ s2 fun v => ?_
        have nd2 : (cs.take i ++ [c]).Nodup := by
          rw [← ht]
          exact (List.take_sublist _ _).nodup v.nd
        have := (List.nodup_append.mp nd2).2.2 c (of_decide_eq_true hin) c (List.mem_singleton.mpr rfl)
        exact this rfl
      · refine ⟨_, _, rfl, s2, ?_, ?_⟩
        · rw [ht]
          intro x hx
          rcases List.mem_append.mp hx with h | h
          · exact haz x h
          · rw [List.mem_singleton.mp h]; exact hl2
        · rw [ht]
          refine List.nodup_append.mpr ⟨hnd, by simp, fun z hz z' hz' e => ?_⟩
          rw [List.mem_singleton.mp hz'] at e
          rw [e] at hz
          exact hin (decide_eq_true hz)
    · rintro σ H' ⟨v1, v2, rfl, s1, haz, hnd⟩
      have e : cs.take (S cs).cps.size = cs := List.take_of_length_le (Nat.le_of_eq rfl)
      rw [e] at haz hnd
      exact qv ⟨hlo, h4, haz, hnd⟩ _ s1
abbrev sCheckT : Stmt := topS 27
theorem scCheckT : FnScope ["letters", "text", "at", "letter"] ["letters", "text"] (defScope sCheckT) :=
  ⟨rfl, rfl, rfl, by decide +kernel, rfl, by decide +kernel, by decide +kernel⟩
theorem ok_checkT {f fI C : Addr} {fd fdI : FuncData} (F : Fun K "check_text" "check_text" sCheckT f fd) (T : ErrC K mg "UnknownLetter" C)
    (FI : Fun K "__init__" "UnknownLetter.__init__" sInitUL fI fdI) (bI : Binds K fdI ["self", "position"] []) (iC : PySem.W.findIn K (.ref C) "__init__" = some (some (.ref fI))) (tI : PySem.W.typeIn K (.ref fI) = some (.type "function"))
    (me : mg "enumerate" = none) :
    FnOk P w K mg base (L2.CX P w) 3 f fd ["letters", "text"] (spCT C) := by
  have GI : FnOk P w K mg base CX0 1 fI fdI ["self", "position"] (spI1 K C "UnknownLetter") := ok_initUL FI T
  refine F.okX scCheckT (fun vs H Q E h => ?_) (fun cdv A outer s H vs Q E hr h => ?_)
  · obtain ⟨gs, xs, rfl, _⟩ := h
    rfl
  · obtain ⟨gs, xs, rfl, qv, qe⟩ := h
    refine ⟨_, pss_one (ps_for (passes_of rfl) rfl (pi_enS (by rfl) me (pa_cons (pv 1) pa_nil))
      (pg_tup rfl (pgs_cons (pg_name (i := 2) scCheckT.nd rfl (.inl rfl)) (pgs_cons (pg_name (i := 3) scCheckT.nd rfl (.inl rfl)) pgs_nil)))
      (pss_one (ps_if (pt_cmpR op_notIn_sign (pv 3) (pv 0) rfl)
        (pss_one (ps_raise rfl (takes_of rfl rfl rfl rfl) (pmk_oex T.ox iC tI GI hr bI .nil pass0 (by rfl) T.gl (pa_cons (pv 2) pa_nil)))) pss_nil))), ?_⟩
    refine ⟨_, rfl, _, rfl, for_it (walkE (z := S xs)) (fun i σ H' => ∃ v2 v3, σ = [some (.str (S gs)), some (.str (S xs)), v2, v3] ∧ Same H H' ∧ ∀ (j c' : Nat), j < i → xs[j]? = some c' → c' ∈ gs)
      ⟨none, none, rfl, Same.refl _, (fun j c' h => absurd h (Nat.not_lt_zero _))⟩ (fun _ _ _ _ _ => trivial) ?_ ?_⟩
    · rintro i x σ H' H'' hi ⟨v2, v3, rfl, s1, hall⟩ ⟨T', c, rfl, nT, hc, rfl⟩
      have hc2 : xs[i]? = some c := by rw [← List.getElem?_toArray]; exact hc
      have s2 := s1.trans (same_new (o := .tup [.int (i : Nat), .str ⟨#[c]⟩]) nT)
      refine ⟨T', _, rfl, .inl (.inl upd_same), rfl, _, _, rfl, _, _, rfl, rfl, ?_⟩
      refine ⟨_, rfl, _, rfl, c, _, rfl, rfl, _, rfl, ?_⟩
      by_cases hcm : c ∈ gs
      · refine iteNS hcm ?_
        refine ⟨_, _, rfl, s2, fun j c' hj hx => ?_⟩
        by_cases e : j = i
        · rw [e, hc2] at hx
          rw [← Option.some.inj hx]
          exact hcm
        · exact hall j c' (by omega) hx
      · have e : (!decide (c ∈ (S gs).cps.toList)) = true := by
          show (!decide (c ∈ gs)) = true
          rw [decide_eq_false hcm]
          rfl
        rw [e]
        refine iteT ⟨_, rfl, (by show 1 ≤ 1000; decide), fun a na => ⟨a, _, rfl, upd_same, fun dx nd ne => ⟨rfl, dx, _, ?_, upd_same, ?_, ?_⟩⟩⟩
        · rw [upd_ne ne.symm, upd_same]
        · exact (after0 (C := C) (fs := []) na nd ne).1
        · exact qe i c hc2 hcm hall _ _ (s2.trans (after1 na nd ne).2) upd_same
    · rintro σ H' ⟨v2, v3, rfl, s1, hall⟩
      refine qv (fun c hc => ?_) _ s1
      obtain ⟨j, hj⟩ := List.mem_iff_getElem?.mp hc
      exact hall j c (List.getElem?_eq_some_iff.mp hj).1 hj
abbrev sBk : Stmt := topS 43
theorem scBk : FnScope ["item"] ["item"] (defScope sBk) := ⟨rfl, rfl, rfl, by decide +kernel, rfl, by decide +kernel, by decide +kernel⟩
theorem ok_bk {f : Addr} {fd : FuncData} (F : Fun K "is_blank" "is_blank" sBk f fd) (ml : mg "len" = none) : FnOk P w K mg base CX0 1 f fd ["item"] spBk := by
  refine F.ok scBk (fun vs H Q E h => ?_) (fun cdv A outer s H vs Q E hr h => ?_)
  · obtain ⟨x, rfl, _⟩ := h
    rfl
  · obtain ⟨x, rfl, hl, q⟩ := h
    refine ⟨_, pss_one (ps_ret (pe_cmpR op_gt (pe_callB call_len_str (by rfl) ml PySem.boot_len (pa_cons (pv 0) pa_nil)) pe_int (nomark _))), ?_⟩
    refine ⟨_, rfl, _, rfl, by rw [S_len]; exact small hl, _, _, rfl, rfl, ?_⟩
    have e : decide (((S x).length : Int) > 1) = decide (1 < x.length) := by
      rw [decide_eq_decide, S_len]
      omega
    show Q (.bl (decide (((S x).length : Int) > 1))) H
    rw [e]
    exact q _ (Same.refl _)
abbrev sIt : Stmt := topS 46
theorem scIt : FnScope ["letters", "item"] ["letters", "item"] (defScope sIt) := ⟨rfl, rfl, rfl, by decide +kernel, rfl, by decide +kernel, by decide +kernel⟩
theorem ok_it {f f1 : Addr} {fd fd1 : FuncData} (F : Fun K "item_text" "item_text" sIt f fd) (c1 : Cl P w K mg base "is_blank" 1 ["item"] spBk f1 fd1) (mP : ∃ t, mg "PLAIN_BLANK" = some (.str "{}" t)) :
    FnOk P w K mg base CX0 2 f fd ["letters", "item"] spIt := by
  obtain ⟨tP, mP⟩ := mP
  refine F.ok scIt (fun vs H Q E h => ?_) (fun cdv A outer s H vs Q E hr h => ?_)
  · obtain ⟨gs, x, rfl, _⟩ := h
    rfl
  · obtain ⟨gs, x, rfl, hg, hl, q⟩ := h
    refine ⟨_, pss_cons (ps_if (pt_not (pt_val (pe_cl c1 hr (by decide) (by rfl) (pa_cons (pv 1) pa_nil)))) (pss_one (ps_ret (pv 1))) pss_nil)
      (pss_cons (ps_if (pt_cmpR op_eq (pv 1) (pv 0) (nomark _)) (pss_one (ps_ret (pe_glob (v := .str (Str.ofString "{}")) (by rfl) mP ⟨_, rfl⟩))) pss_nil)
      (pss_one (ps_ret (pe_join pe_str (pe_lst (pa_cons pe_str (pa_cons (pv 1) (pa_cons pe_str pa_nil)))))))), ?_⟩
    refine ⟨_, rfl, x, rfl, hl, fun H1 s1 => ⟨_, rfl, ?_⟩⟩
    by_cases h1 : 1 < x.length
    rotate_left
    · rw [decide_eq_false h1]
      refine iteT ⟨_, rfl, ?_⟩
      have e : iTx gs x = x := by unfold iTx; rw [if_neg h1]
      have := q H1 s1
      rw [e] at this
      exact this
    rw [decide_eq_true h1]
    refine iteF ⟨_, rfl, _, rfl, rfl, _, rfl, ?_⟩
    by_cases h2 : x = gs
    · rw [decide_eq_true (by rw [h2])]
      have e : iTx gs x = [123, 125] := by unfold iTx; rw [if_pos h1, if_pos h2]
      have := q H1 s1
      rw [e] at this
      exact iteT this
    · rw [decide_eq_false (fun e => h2 (S_inj (V.str.inj e)))]
      refine iteF ⟨⟨_, rfl⟩, _, rfl, (by show 3 ≤ sizeLine; decide), fun p np => ?_⟩
      have e : iTx gs x = [123] ++ x ++ [125] := by unfold iTx; rw [if_pos h1, if_neg h2]
      have o1 : Str.ofString "{" = S [123] := by decide +kernel
      have o2 : Str.ofString "}" = S [125] := by decide +kernel
      refine ⟨_, p, [[123], x, [125]].map S, rfl, rfl, .inl (.inl (.inl ?_)), ?_, ?_⟩
      · rw [upd_same, o1, o2]
        rfl
      · rw [sum_len]
        show ([123] ++ (x ++ ([125] ++ []))).length + _ * 0 ≤ _
        rw [List.length_append, List.length_append]
        show 1 + (_ + 1) + _ * 0 ≤ _
        omega
      · rw [joinT]
        have := q _ (s1.trans (same_new (o := .lst [.str (Str.ofString "{"), tx x, .str (Str.ofString "}")]) np))
        rw [e] at this
        rw [show [[123], x, [125]].flatten = [123] ++ x ++ [125] by simp]
        exact this
abbrev sRt : Stmt := topS 47
theorem scRt : FnScope ["letters", "row", "item"] ["letters", "row"] (defScope sRt) := ⟨rfl, rfl, rfl, by decide +kernel, rfl, by decide +kernel, by decide +kernel⟩
theorem ok_rt {f f1 : Addr} {fd fd1 : FuncData} (F : Fun K "row_text" "row_text" sRt f fd) (ml : mg "len" = none) (c1 : Cl P w K mg base "item_text" 2 ["letters", "item"] spIt f1 fd1) (mE : ∃ t, mg "EMPTY_TEXT" = some (.str "-" t)) :
    FnOk P w K mg base CX0 3 f fd ["letters", "row"] (spRt K) := by
  obtain ⟨tE, mE⟩ := mE
  refine F.ok scRt (fun vs H Q E h => ?_) (fun cdv A outer s H vs Q E hr h => ?_)
  · obtain ⟨gs, a, its, rfl, _⟩ := h
    rfl
  · obtain ⟨gs, a, its, rfl, hg, hs, hl, hx, q⟩ := h
    refine ⟨_, pss_cons (ps_if (pt_cmpR op_eq (pe_callB call_len (by rfl) ml PySem.boot_len (pa_cons (pv 1) pa_nil)) pe_int (nomark _)) (pss_one (ps_ret (pe_glob (v := .str (Str.ofString "-")) (by rfl) mE ⟨_, rfl⟩))) pss_nil)
      (pss_one (ps_ret (pe_join pe_str (pe_lc (own := [("item", 2)]) (g := gName 2) (tt := tYes) rfl scRt.nd (pi_any (pv 1))
        (blkOk_by (N := ["letters", "row", "item"]) (sc := defScope sRt) (by decide +kernel))
        (fun _ _ _ _ _ => pg_name (i := 2) scRt.nd rfl (Or.inl rfl)) (fun _ _ _ _ _ => pts_nil)
        (fun _ _ _ _ _ => pe_cl c1 hr (by decide) (by rfl) (pa_cons (pv 0) (pa_cons (pv 2) pa_nil))))))), ?_⟩
    have hln : LenV K (.ref a) H its.length := hs.imp (fun h => ⟨_, h, (List.length_map ..).symm⟩) (fun h => ⟨_, h, (List.length_map ..).symm⟩)
    refine ⟨_, rfl, _, its.length, rfl, hln, rfl, _, rfl, ?_⟩
    by_cases h0 : its = []
    · subst h0
      rw [decide_eq_true (show V.int ((([] : List (List Nat)).length : Nat) : Int) = V.int 0 from rfl)]
      exact iteT (q H (Same.refl _))
    · have hne : its.length ≠ 0 := fun e => h0 (List.length_eq_zero_iff.mp e)
      rw [decide_eq_false (fun e => hne (by have := V.int.inj e; omega))]
      refine iteF ⟨⟨_, rfl⟩, it_any (a := a) (xs := its.map tx) (fun k hk => ⟨_, rfl, hk⟩) hs (Same.refl _) fun J W D nD => ?_⟩
      refine lc_it W (fun i H' => Same H H' ∧ H' D = some (.lst (((its.take i).map (iTx gs)).map tx))) ⟨same_new nD, upd_same⟩ (fun _ _ _ h => h.1) ?_ ?_
      · rintro i y H' H'' hi ⟨s1, hD⟩ ⟨rfl, hy⟩
        obtain ⟨x, hx2, rfl⟩ := get_tx hy
        have hxm := hx x (List.mem_of_getElem? hx2)
        refine ⟨rfl, _, rfl, _, rfl, gs, x, rfl, hg, by omega, fun H3 s3 => ?_⟩
        refine ⟨_, s3 _ _ hD, ?_, same_put (s1.trans s3) nD, ?_⟩
        · rw [List.length_map, List.length_map, List.length_take]
          exact small1000 (by omega)
        · rw [upd_same, List.take_add_one, hx2]
          simp
      · rintro H' ⟨s1, hD⟩
        rw [List.length_map, List.take_length] at hD
        refine ⟨_, D, (its.map (iTx gs)).map S, rfl, rfl, .inl (.inl (.inl ?_)), ?_, ?_⟩
        · rw [hD]
          simp
        · rw [sum_len]
          have := flat_len (f := iTx gs) (m := 902) (its := its) fun x hx' => Nat.le_trans iTx_len (by have := hx x hx'; omega)
          show _ + _ * 0 ≤ _
          have : its.length * 902 ≤ 900 * 902 := Nat.mul_le_mul_right _ hl
          omega
        · rw [joinT]
          have := q _ s1
          unfold rTx at this
          rw [if_neg h0] at this
          exact this
abbrev sTr : Stmt := topS 50
theorem scTr : FnScope ["letters", "turn", "row", "item"] ["letters", "turn", "row"] (defScope sTr) := ⟨rfl, rfl, rfl, by decide +kernel, rfl, by decide +kernel, by decide +kernel⟩
theorem ok_tr {f f1 : Addr} {fd fd1 : FuncData} (F : Fun K "turned_row" "turned_row" sTr f fd) (c1 : Cl P w K mg base "turned" 2 ["letters", "turn", "text"] spTd f1 fd1) :
    FnOk P w K mg base CX0 3 f fd ["letters", "turn", "row"] (spTr K) := by
  refine F.ok scTr (fun vs H Q E h => ?_) (fun cdv A outer s H vs Q E hr h => ?_)
  · obtain ⟨gs, t, a, its, rfl, _⟩ := h
    rfl
  · obtain ⟨gs, t, a, its, rfl, nd, hg, ht, hs, hl, hx, q⟩ := h
    refine ⟨_, pss_one (ps_ret (pe_lc (own := [("item", 3)]) (g := gName 3) (tt := tYes) rfl scTr.nd (pi_any (pv 2))
        (blkOk_by (N := ["letters", "turn", "row", "item"]) (sc := defScope sTr) (by decide +kernel))
        (fun _ _ _ _ _ => pg_name (i := 3) scTr.nd rfl (Or.inl rfl)) (fun _ _ _ _ _ => pts_nil)
        (fun _ _ _ _ _ => pe_cl c1 hr (by decide) (by rfl) (pa_cons (pv 0) (pa_cons (pv 1) (pa_cons (pv 3) pa_nil)))))), ?_⟩
    refine it_any (a := a) (xs := its.map tx) (fun k hk => ⟨_, rfl, hk⟩) hs (Same.refl _) fun J W D nD => ?_
    refine lc_it W (fun i H' => Same H H' ∧ H' D = some (.lst (((its.take i).map fun x => x.map (tau gs t)).map tx))) ⟨same_new nD, upd_same⟩ (fun _ _ _ h => h.1) ?_ ?_
    · rintro i y H' H'' hi ⟨s1, hD⟩ ⟨rfl, hy⟩
      obtain ⟨x, hx2, rfl⟩ := get_tx hy
      obtain ⟨hx3, hx4⟩ := hx x (List.mem_of_getElem? hx2)
      refine ⟨rfl, _, rfl, _, rfl, _, rfl, gs, t, x, rfl, nd, hg, ht, hx3, hx4, fun H3 s3 => ?_⟩
      refine ⟨_, s3 _ _ hD, ?_, same_put (s1.trans s3) nD, ?_⟩
      · rw [List.length_map, List.length_map, List.length_take]
        exact small1000 (by omega)
      · rw [upd_same, List.take_add_one, hx2]
        simp
    · rintro H' ⟨s1, hD⟩
      rw [List.length_map, List.take_length] at hD
      exact q _ _ s1 nD hD
abbrev sPut : Stmt := topS 51
theorem scPut : FnScope ["letters", "row", "inner", "made", "item"] ["letters", "row", "inner"] (defScope sPut) := ⟨rfl, rfl, rfl, by decide +kernel, rfl, by decide +kernel, by decide +kernel⟩
theorem ok_put {f f1 f2 : Addr} {fd fd1 fd2 : FuncData} (F : Fun K "put_row" "put_row" sPut f fd) (c1 : Cl P w K mg base "is_blank" 1 ["item"] spBk f1 fd1) (c2 : Cl P w K mg base "turned_row" 3 ["letters", "turn", "row"] (spTr K) f2 fd2) :
    FnOk P w K mg base CX0 4 f fd ["letters", "row", "inner"] (spPut K) := by
  refine F.ok scPut (fun vs H Q E h => ?_) (fun cdv A outer s H vs Q E hr h => ?_)
  · obtain ⟨gs, a, b, its, inn, rfl, _⟩ := h
    rfl
  · obtain ⟨gs, a, b, its, inn, rfl, nd, hg, hR, hs, hl, hi, hil, hix, q⟩ := h
    refine ⟨_, pss_cons (ps_set (i := 3) scPut.nd rfl (.inl rfl) (pe_lst pa_nil))
      (pss_cons (ps_for PassesOwn.never rfl (pi_any (pv 1)) (pg_name (i := 4) scPut.nd rfl (.inl rfl))
        (pss_one (ps_if (pt_val (pe_cl c1 hr (by decide) (by rfl) (pa_cons (pv 4) pa_nil)))
          (pss_one (ps_expr (pe_bm PySem.F.plainAttrs_list PySem.F.slot_list_extend PySem.F.type_list_extend mt_extend (pv 3) (pa_cons (pe_cl c2 hr (by decide) (by rfl) (pa_cons (pv 0) (pa_cons (pv 4) (pa_cons (pv 2) pa_nil)))) pa_nil))))
          (pss_one (ps_expr (pe_bm PySem.F.plainAttrs_list PySem.F.slot_list_append PySem.F.type_list_append mt_append (pv 3) (pa_cons (pv 4) pa_nil)))))))
      (pss_one (ps_ret (pv 3)))), ?_⟩
    refine ⟨Nat.zero_le _, fun D nD => ?_⟩
    have s0 := same_new (o := .lst []) nD
    refine it_any (a := a) (xs := its.map tx) (fun k hk => ⟨_, rfl, hk⟩) hs s0 fun J W => ?_
    have plen : ∀ l : List (List Nat), (putL gs l inn).length ≤ l.length * 901 := by
      intro l
      unfold putL
      induction l with
      | nil => exact Nat.zero_le _
      | cons x r ih =>
        rw [List.map_cons, List.flatten_cons, List.length_append, List.length_cons, Nat.add_mul]
        have : (if 1 < x.length then inn.map fun y => y.map (tau gs x) else [x]).length ≤ 901 := by
          split
          · rw [List.length_map]; omega
          · show 1 ≤ 901; omega
        omega
    refine for_it W (fun i σ H' => ∃ v, σ = [some (tx gs), some (.ref a), some (.ref b), some (.ref D), v] ∧ Same H H' ∧ H' D = some (.lst ((putL gs (its.take i) inn).map tx)))
      ⟨none, rfl, s0, upd_same⟩ (fun _ _ _ _ ⟨_, _, s, _⟩ => s) ?_ ?_
    · rintro i y σ H' H'' hi2 ⟨v, rfl, s1, hD⟩ ⟨rfl, hy⟩
      obtain ⟨x, hx, rfl⟩ := get_tx hy
      have hxm : x ∈ its := List.mem_of_getElem? hx
      have hil2 : i < its.length := (List.getElem?_eq_some_iff.mp hx).1
      have pl2 : (putL gs (its.take i) inn).length ≤ 900 * 901 := by
        refine Nat.le_trans (plen _) (Nat.mul_le_mul_right _ ?_)
        rw [List.length_take]
        omega
      have estep : putL gs (its.take (i + 1)) inn = putL gs (its.take i) inn ++ (if 1 < x.length then inn.map fun y => y.map (tau gs x) else [x]) := by
        unfold putL
        rw [List.take_add_one, hx]
        simp
      have hxl : x.length ≤ 1000 := by
        rcases hR x hxm with ⟨c, _, rfl⟩ | p
        · show 1 ≤ 1000; omega
        · rw [p.length_eq]; exact hg
      refine ⟨_, rfl, x, rfl, hxl, fun H3 s3 => ⟨_, rfl, ?_⟩⟩
      have hD3 := s3 _ _ hD
      by_cases h1 : 1 < x.length
      · rw [decide_eq_true h1]
        rw [if_pos h1] at estep
        have hxp : x.length = gs.length := by
          rcases hR x hxm with ⟨c, _, rfl⟩ | p
          · exact absurd h1 (by show ¬ 1 < 1; omega)
          · exact p.length_eq
        refine iteT ⟨_, rfl, .inl ⟨rfl, _, .inl (.inl hD3)⟩, ?_⟩
        refine ⟨_, rfl, _, rfl, _, rfl, gs, x, b, inn, rfl, nd, hg, hxp, hi.same (s1.trans s3), hil, hix, fun H4 p s4 np hp => ?_⟩
        refine ⟨D, p, _, _, rfl, rfl, s4 _ _ hD3, hp, ?_, ?_⟩
        · rw [List.length_map, List.length_map, List.length_map, sizeLine_eq]
          omega
        · refine ⟨_, rfl, same_put ((s1.trans s3).trans s4) nD, ?_⟩
          rw [upd_same, estep, List.map_append]
      · rw [decide_eq_false h1]
        rw [if_neg h1] at estep
        refine iteF ⟨_, rfl, .inl ⟨rfl, _, .inl (.inl hD3)⟩, ?_⟩
        refine ⟨_, rfl, D, _, _, rfl, rfl, hD3, ?_, ?_⟩
        · rw [List.length_map, sizeLine_eq]
          omega
        · refine ⟨_, rfl, same_put (s1.trans s3) nD, ?_⟩
          rw [upd_same, estep, List.map_append]
          rfl
    · rintro σ H' ⟨v, rfl, s1, hD⟩
      rw [List.length_map, List.take_length] at hD
      exact ⟨_, rfl, q _ _ s1 nD hD⟩
abbrev sBw : Stmt := topS 44
theorem scBw : FnScope ["letters", "text", "at", "end"] ["letters", "text", "at"] (defScope sBw) := ⟨rfl, rfl, rfl, by decide +kernel, rfl, by decide +kernel, by decide +kernel⟩
theorem ok_bw {f f1 : Addr} {fd fd1 : FuncData} (F : Fun K "blank_width" "blank_width" sBw f fd) (ml : mg "len" = none) (c1 : Cl P w K mg base "is_turn" 1 ["letters", "turn"] spIs f1 fd1) (mP : ∃ t, mg "PLAIN_BLANK" = some (.str "{}" t)) :
    FnOk P w K mg base CX0 2 f fd ["letters", "text", "at"] spBw := by
  obtain ⟨tP, mP⟩ := mP
  refine F.ok scBw (fun vs H Q E h => ?_) (fun cdv A outer s H vs Q E hr h => ?_)
  · obtain ⟨gs, pre, post, x, z, rfl, _⟩ := h
    rfl
  · obtain ⟨gs, pre, post, x, z, rfl, hg, hl, hc⟩ := h
    refine ⟨_, pss_cons (ps_if (pt_cmpR op_eq (pe_slice C8.sl_txt (pv 1) (po_some (pv 2)) (po_some (pe_op op_add (pv 2) pe_int))) (pe_glob (v := .str (Str.ofString "{}")) (by rfl) mP ⟨_, rfl⟩) (nomark _)) (pss_one (ps_ret pe_int)) pss_nil)
      (pss_cons (ps_set (i := 3) scBw.nd rfl (.inl rfl) (pe_op op_add (pe_op op_add (pv 2) pe_int) (pe_callB call_len_str (by rfl) ml PySem.boot_len (pa_cons (pv 0) pa_nil))))
      (pss_cons (ps_if (PW.pt (pw_and (pt_cmpR op_eq (pe_ix ix_str (pv 1) (pv 2) (fun _ _ => rfl)) pe_str (nomark _))
          (pw_and (pt_cmpR op_eq (pe_slice C8.sl_txt (pv 1) (po_some (pv 3)) (po_some (pe_op op_add (pv 3) pe_int))) pe_str (nomark _))
          (pw_and1 (pt_val (pe_cl c1 hr (by decide) (by rfl) (pa_cons (pv 0) (pa_cons (pe_slice C8.sl_txt (pv 1) (po_some (pe_op op_add (pv 2) pe_int)) (po_some (pv 3))) pa_nil))))))))
        (pss_one (ps_ret (pe_op op_add (pe_callB call_len_str (by rfl) ml PySem.boot_len (pa_cons (pv 0) pa_nil)) pe_int))) pss_nil)
      (pss_one (ps_ret pe_int)))), ?_⟩
    have hz : (S (pre ++ z ++ post)).length ≤ sizeLine := by rw [S_len]; exact small hl
    have ob : Str.ofString "{}" = S [123, 125] := by decide +kernel
    have o1 : Str.ofString "{" = S [123] := by decide +kernel
    have o2 : Str.ofString "}" = S [125] := by decide +kernel
    refine ⟨_, rfl, _, rfl, _, rfl, _, rfl, _, _, rfl, rfl, _, rfl, _, rfl, hz, rfl, _, rfl, ?_⟩
    rcases hc with ⟨rfl, q⟩ | ⟨hp, rfl, q⟩
    · rw [mid_app (p := pre) (z := [123, 125]) rfl (by simp), ob, decide_eq_true rfl]
      exact iteT (q _ (Same.refl _))
    · have hx2 : 2 ≤ x.length := by rw [hp.length_eq]; exact hg.lo
      have hx4 : x.length ≤ 4 := by rw [hp.length_eq]; exact hg.hi
      obtain ⟨c, r, rfl⟩ : ∃ c r, x = c :: r := by
        cases x with
        | nil => cases hx2
        | cons c r => exact ⟨c, r, rfl⟩
      have hcaz := hg.az c (hp.mem_iff.mp (List.mem_cons_self ..))
      have e1 : Txt.slice (S (pre ++ ([123] ++ (c :: r) ++ [125]) ++ post)) (some (pre.length : Int)) (some ((pre.length : Int) + 2)) = S [123, c] := by
        have e : pre ++ ([123] ++ (c :: r) ++ [125]) ++ post = pre ++ [123, c] ++ (r ++ [125] ++ post) := by simp
        rw [e]
        exact mid_app rfl (by simp)
      rw [e1, ob, decide_eq_false (fun e => by
        have := S_inj (V.str.inj e)
        injection this with _ h
        injection h with h
        omega)]
      have hzg : (S gs).length ≤ sizeLine := by rw [S_len]; exact small (by have := hg.hi; omega)
      refine iteF ⟨_, rfl, _, _, rfl, rfl, _, rfl, _, rfl, hzg, _, _, rfl, rfl, ?_⟩
      have hat : (pre ++ ([123] ++ (c :: r) ++ [125]) ++ post)[pre.length]? = some 123 := by simp
      refine ⟨_, rfl, _, rfl, _, _, 123, rfl, rfl, hz, atI_nat hat, rfl, _, rfl, ?_⟩
      rw [o1, decide_eq_true rfl]
      refine iteT ?_
      have hpl := hp.length_eq
      have hll : ((S gs).length : Int) = (((c :: r).length : Nat) : Int) := by rw [S_len, hpl]
      rw [hll]
      have e2 : Txt.slice (S (pre ++ ([123] ++ (c :: r) ++ [125]) ++ post)) (some ((pre.length : Int) + 1 + (((c :: r).length : Nat) : Int))) (some ((pre.length : Int) + 1 + (((c :: r).length : Nat) : Int) + 1)) = S [125] := by
        have e : pre ++ ([123] ++ (c :: r) ++ [125]) ++ post = (pre ++ [123] ++ (c :: r)) ++ [125] ++ post := by simp
        rw [e]
        refine mid_app ?_ ?_
        · simp only [List.length_append, List.length_singleton]
          omega
        · simp only [List.length_append, List.length_singleton]
          omega
      refine ⟨_, rfl, _, rfl, _, rfl, _, rfl, _, _, rfl, rfl, _, rfl, _, rfl, hz, rfl, _, rfl, ?_⟩
      rw [e2, o2, decide_eq_true rfl]
      refine iteT ?_
      have e3 : Txt.slice (S (pre ++ ([123] ++ (c :: r) ++ [125]) ++ post)) (some ((pre.length : Int) + 1)) (some ((pre.length : Int) + 1 + (((c :: r).length : Nat) : Int))) = S (c :: r) := by
        have e : pre ++ ([123] ++ (c :: r) ++ [125]) ++ post = (pre ++ [123]) ++ (c :: r) ++ ([125] ++ post) := by simp
        rw [e]
        refine mid_app ?_ ?_
        · simp only [List.length_append, List.length_singleton]
          omega
        · simp only [List.length_append, List.length_singleton]
          omega
      have gaz : ∀ d ∈ gs, d < 128 := fun d hd => by have := hg.az d hd; omega
      refine ⟨_, rfl, _, rfl, _, rfl, _, _, rfl, rfl, _, rfl, _, rfl, _, rfl, _, rfl, hz, ?_⟩
      rw [e3]
      refine ⟨gs, c :: r, rfl, by have := hg.hi; omega, by omega, gaz, (fun d hd => gaz d (hp.mem_iff.mp hd)), fun H1 s1 => ⟨_, rfl, ?_⟩⟩
      rw [decide_eq_true hp]
      refine iteT ⟨_, rfl, _, rfl, hzg, _, _, rfl, rfl, ?_⟩
      have hgl : ((S gs).length : Int) = (gs.length : Int) := by rw [S_len]
      rw [hgl]
      exact q _ s1
abbrev sRd : Stmt := topS 45
theorem scRd : FnScope ["letters", "text", "row", "at", "width"] ["letters", "text"] (defScope sRd) := ⟨rfl, rfl, rfl, by decide +kernel, rfl, by decide +kernel, by decide +kernel⟩
theorem ok_rd {f f1 : Addr} {fd fd1 : FuncData} (F : Fun K "read_row" "read_row" sRd f fd) (ml : mg "len" = none) (c1 : Cl P w K mg base "blank_width" 2 ["letters", "text", "at"] spBw f1 fd1) (mE : ∃ t, mg "EMPTY_TEXT" = some (.str "-" t)) :
    FnOk P w K mg base CX0 3 f fd ["letters", "text"] spRd := by
  obtain ⟨tE, mE⟩ := mE
  refine F.ok scRd (fun vs H Q E h => ?_) (fun cdv A outer s H vs Q E hr h => ?_)
  · obtain ⟨gs, t, its, rfl, _⟩ := h
    rfl
  · obtain ⟨gs, t, its, rfl, hg, hl, hrd, q⟩ := h
    refine ⟨_, pss_cons (ps_if (pt_cmpR op_eq (pv 1) (pe_glob (v := .str (Str.ofString "-")) (by rfl) mE ⟨_, rfl⟩) (nomark _)) (pss_one (ps_ret (pe_lst pa_nil))) pss_nil)
      (pss_cons (ps_if (pt_cmpR op_eq (pv 1) pe_str (nomark _)) pss_never pss_nil)
      (pss_cons (ps_set (i := 2) scRd.nd rfl (.inl rfl) (pe_lst pa_nil))
      (pss_cons (ps_set (i := 3) scRd.nd rfl (.inl rfl) pe_int)
      (pss_cons (ps_while PassesOwn.never (pt_cmpR op_lt (pv 3) (pe_callB call_len_str (by rfl) ml PySem.boot_len (pa_cons (pv 1) pa_nil)) (nomark _))
        (pss_one (ps_if (pt_cmpR op_in_sign (pe_ix ix_str (pv 1) (pv 3) (fun _ _ => rfl)) (pv 0) rfl)
          (pss_cons (ps_expr (pe_bm PySem.F.plainAttrs_list PySem.F.slot_list_append PySem.F.type_list_append mt_append (pv 2) (pa_cons (pe_ix ix_str (pv 1) (pv 3) (fun _ _ => rfl)) pa_nil)))
            (pss_one (ps_set (i := 3) scRd.nd rfl (.inl rfl) (pe_op op_add (pv 3) pe_int))))
          (pss_cons (ps_set (i := 4) scRd.nd rfl (.inl rfl) (pe_cl c1 hr (by decide) (by rfl) (pa_cons (pv 0) (pa_cons (pv 1) (pa_cons (pv 3) pa_nil)))))
          (pss_cons (ps_if (pt_cmpR op_eq (pv 4) pe_int (nomark _)) pss_never pss_nil)
          (pss_cons (ps_expr (pe_bm PySem.F.plainAttrs_list PySem.F.slot_list_append PySem.F.type_list_append mt_append (pv 2) (pa_cons
            (pe_ifExp (pt_cmpR op_eq (pv 4) pe_int (nomark _)) (pv 0) (pe_slice C8.sl_txt (pv 1) (po_some (pe_op op_add (pv 3) pe_int)) (po_some (pe_op op_sub (pe_op op_add (pv 3) (pv 4)) pe_int)))) pa_nil)))
            (pss_one (ps_set (i := 3) scRd.nd rfl (.inl rfl) (pe_op op_add (pv 3) (pv 4))))))))))
      (pss_one (ps_ret (pv 2))))))), ?_⟩
    have ob : Str.ofString "-" = S [45] := by decide +kernel
    refine ⟨_, rfl, rfl, _, rfl, ?_⟩
    rw [ob]
    rcases hrd with ⟨rfl, rfl⟩ | ⟨hne, zs, hf, rfl⟩
    · rw [decide_eq_true rfl]
      refine iteT ⟨Nat.zero_le _, fun p np => ?_⟩
      exact q _ p (same_new np) np upd_same
    obtain ⟨c0, r0, hz0, hc0⟩ : ∃ c r, zs.flatten = c :: r ∧ c ≠ 45 := by
      cases hf with
      | nil => exact absurd rfl hne
      | cons h1 h2 =>
        obtain ⟨c, r, e, h⟩ := form_head hg h1
        exact ⟨c, r ++ _, by rw [List.flatten_cons, e]; rfl, h⟩
    rw [decide_eq_false (fun e => by
      have := S_inj (V.str.inj e)
      rw [hz0] at this
      exact hc0 (List.cons.inj this).1)]
    refine iteF ⟨_, rfl, rfl, _, rfl, ?_⟩
    rw [empty_S, decide_eq_false (fun e => by
      have := S_inj (V.str.inj e)
      rw [hz0] at this
      cases this)]
    refine iteF ⟨Nat.zero_le _, fun D nD => ?_⟩
    have hz : (S zs.flatten).length ≤ sizeLine := by rw [S_len]; exact small hl
    have zl : ((S zs.flatten).length : Int) = (zs.flatten.length : Int) := by rw [S_len]
    have g123 : 123 ∉ gs := fun h => by have := hg.az _ h; omega
    refine ⟨fun m σ H' => ∃ dn its' zs' pre w, its = dn ++ its' ∧ Forms gs its' zs' ∧ zs.flatten = pre ++ zs'.flatten ∧ σ = [some (tx gs), some (tx zs.flatten), some (.ref D), some (.int (pre.length : Int)), w] ∧ Same H H' ∧ H' D = some (.lst (dn.map tx)) ∧ dn.length ≤ pre.length ∧ m = its'.length,
      ⟨its.length, [], its, zs, [], none, rfl, hf, rfl, rfl, same_new nD, upd_same, Nat.le_refl _, rfl⟩, ?_⟩
    rintro m σ H' ⟨dn, its', zs', pre, w, e1, hf', e2, rfl, s1, hD, hdn, rfl⟩
    refine ⟨_, rfl, _, rfl, _, rfl, hz, _, _, rfl, rfl, _, rfl, ?_⟩
    rw [zl]
    have e2l := congrArg List.length e2
    rw [List.length_append] at e2l
    cases hf' with
    | nil =>
      rw [decide_eq_false (by rw [e2l]; show ¬ (pre.length : Int) < ((pre.length + 0 : Nat) : Int); omega)]
      refine iteF ⟨_, rfl, ?_⟩
      rw [List.append_nil] at e1
      rw [← e1] at hD
      exact q _ _ s1 nD hD
    | @cons x z its2 zs2 h1 h2 =>
      have hzn : 0 < z.length := List.length_pos_iff.mpr (form_ne h1)
      rw [List.flatten_cons] at e2 e2l
      rw [List.length_append] at e2l
      rw [decide_eq_true (by omega)]
      have e3 : zs.flatten = pre ++ z ++ zs2.flatten := by rw [e2, List.append_assoc]
      have dnl : (dn.map tx).length < sizeLine := by rw [List.length_map]; exact small1000 (by omega)
      refine iteT ⟨fun σ' H'' => ∃ w', σ' = [some (tx gs), some (tx zs.flatten), some (.ref D), some (.int ((pre ++ z).length : Int)), w'] ∧ Same H H'' ∧ H'' D = some (.lst ((dn ++ [x]).map tx)),
        fun σ' H'' ⟨w', ea, eb, ec⟩ => ⟨its2.length, by show _ < its2.length + 1; omega, dn ++ [x], its2, zs2, pre ++ z, w', by rw [e1]; simp, h2, e3, ea, eb, ec, by rw [List.length_append, List.length_append]; show _ + 1 ≤ _; omega, rfl⟩, ?_⟩
      obtain ⟨c, zr, hzc⟩ : ∃ c r, z = c :: r := by
        obtain ⟨c, r, e, _⟩ := form_head hg h1
        exact ⟨c, r, e⟩
      have hat : (zs.flatten)[pre.length]? = some c := by rw [e3, hzc]; simp
      refine ⟨_, rfl, _, rfl, _, _, c, rfl, rfl, hz, atI_nat hat, _, rfl, c, _, rfl, rfl, _, rfl, ?_⟩
      show (if decide (c ∈ gs) = true then _ else _)
      cases h1 with
      | one hc =>
        obtain ⟨rfl, _⟩ := List.cons.inj hzc
        rw [decide_eq_true hc]
        refine iteT ⟨_, rfl, .inl ⟨rfl, _, .inl (.inl hD)⟩, _, rfl, _, rfl, _, _, _, rfl, rfl, hz, atI_nat hat, D, _, _, rfl, rfl, hD, dnl, ?_⟩
        refine ⟨_, rfl, _, _, rfl, rfl, ?_⟩
        refine ⟨w, ?_, same_put s1 nD, ?_⟩
        · rw [List.length_append]
          rfl
        · rw [upd_same, List.map_append]
          rfl
      | turn hp =>
        obtain ⟨rfl, _⟩ := List.cons.inj hzc
        rw [decide_eq_false g123]
        have hxl := hp.length_eq
        have hx2 : 2 ≤ x.length := by rw [hxl]; exact hg.lo
        refine iteF ⟨_, rfl, _, rfl, _, rfl, gs, pre, zs2.flatten, x, [123] ++ x ++ [125], by rw [e3]; rfl, hg, by rw [← e3]; exact hl, .inr ⟨hp, rfl, fun H3 s3 => ?_⟩⟩
        have hD3 := s3 _ _ hD
        refine ⟨_, rfl, rfl, _, rfl, ?_⟩
        rw [decide_eq_false (fun e => by have := V.int.inj e; omega)]
        refine iteF ⟨_, rfl, .inl ⟨rfl, _, .inl (.inl hD3)⟩, _, rfl, rfl, _, rfl, ?_⟩
        rw [decide_eq_false (fun e => by have := V.int.inj e; omega)]
        refine iteF ?_
        have e4 : Txt.slice (S zs.flatten) (some ((pre.length : Int) + 1)) (some ((pre.length : Int) + ((gs.length : Int) + 2) - 1)) = S x := by
          have e : zs.flatten = (pre ++ [123]) ++ x ++ ([125] ++ zs2.flatten) := by rw [e3]; simp
          rw [e]
          refine mid_app ?_ ?_
          · simp only [List.length_append, List.length_singleton]
            omega
          · simp only [List.length_append, List.length_singleton]
            omega
        refine ⟨_, rfl, _, rfl, _, _, rfl, rfl, _, rfl, _, rfl, _, rfl, _, _, rfl, rfl, _, _, rfl, rfl, _, rfl, _, rfl, hz, D, _, _, rfl, rfl, hD3, dnl, ?_⟩
        rw [e4]
        refine ⟨_, rfl, _, rfl, _, _, rfl, rfl, ?_⟩
        refine ⟨some (.int ((gs.length : Int) + 2)), ?_, same_put (s1.trans s3) nD, ?_⟩
        · have e : ((pre ++ ([123] ++ x ++ [125])).length : Int) = (pre.length : Int) + ((gs.length : Int) + 2) := by
            simp only [List.length_append, List.length_singleton]
            omega
          rw [e]
          rfl
        · rw [upd_same, List.map_append]
          rfl
      | plain =>
        obtain ⟨rfl, _⟩ := List.cons.inj hzc
        rw [decide_eq_false g123]
        refine iteF ⟨_, rfl, _, rfl, _, rfl, gs, pre, zs2.flatten, [], [123, 125], by rw [e3]; rfl, hg, by rw [← e3]; exact hl, .inl ⟨rfl, fun H3 s3 => ?_⟩⟩
        have hD3 := s3 _ _ hD
        refine ⟨_, rfl, rfl, _, rfl, ?_⟩
        rw [decide_eq_false (fun e => by have := V.int.inj e; omega)]
        refine iteF ⟨_, rfl, .inl ⟨rfl, _, .inl (.inl hD3)⟩, _, rfl, rfl, _, rfl, ?_⟩
        rw [decide_eq_true rfl]
        refine iteT ⟨_, rfl, D, _, _, rfl, rfl, hD3, dnl, ?_⟩
        refine ⟨_, rfl, _, rfl, _, _, rfl, rfl, ?_⟩
        refine ⟨some (.int 2), ?_, same_put (s1.trans s3) nD, ?_⟩
        · have e : ((pre ++ [123, 125]).length : Int) = (pre.length : Int) + 2 := by
            simp only [List.length_append]
            rfl
          rw [e]
          rfl
        · rw [upd_same, List.map_append]
          rfl
theorem ok_checkLn {f : Addr} {fd : FuncData} (F : Fun K "check_letters" "check_letters" sCheckL f fd)
    (me : mg "enumerate" = none) (ml : mg "len" = none) (mL : ∃ t, mg "LEAST_LETTERS" = some (.int 2 t)) (mM : ∃ t, mg "MOST_LETTERS" = some (.int 4 t)) (mA : ∃ t, mg "LOWERCASE" = some (.str "abcdefghijklmnopqrstuvwxyz" t)) :
    FnOk P w K mg base CX0 1 f fd ["letters"] spCLn := by
  obtain ⟨tL, mL⟩ := mL
  obtain ⟨tM, mM⟩ := mM
  obtain ⟨tA, mA⟩ := mA
  refine F.ok scCheckL (fun vs H Q E h => ?_) (fun cdv A outer s H vs Q E hr h => ?_)
  · obtain ⟨cs, rfl, _⟩ := h
    rfl
  · obtain ⟨cs, rfl, hg, q⟩ := h
    refine ⟨_, pss_cons (ps_if (pt_not (pt_chain op_le op_le (pe_glob (v := .int 2) (by rfl) mL ⟨_, rfl⟩) (pe_callB call_len_str (by rfl) ml PySem.boot_len (pa_cons (pv 0) pa_nil)) (pe_glob (v := .int 4) (by rfl) mM ⟨_, rfl⟩)))
        pss_never pss_nil)
      (pss_one (ps_for PassesOwn.never rfl (pi_enS (by rfl) me (pa_cons (pv 0) pa_nil))
        (pg_tup rfl (pgs_cons (pg_name (i := 1) scCheckL.nd rfl (.inl rfl)) (pgs_cons (pg_name (i := 2) scCheckL.nd rfl (.inl rfl)) pgs_nil)))
        (pss_one (ps_if (PW.pt (pw_or (pt_cmpR op_notIn_sign (pv 2) (pe_glob (v := .str (Str.ofString "abcdefghijklmnopqrstuvwxyz")) (by rfl) mA ⟨_, rfl⟩) rfl) (pw_or1 (pt_cmpR op_in_sign (pv 2) (pe_slice C8.sl_txt (pv 0) po_none (po_some (pv 1))) rfl))))
          pss_never pss_nil)))), ?_⟩
    have hz : (S cs).length ≤ sizeLine := by rw [S_len]; exact small (by have := hg.hi; omega)
    have hbs : ((S cs).length : Int) = (cs.length : Int) := by rw [S_len]
    refine ⟨_, rfl, _, rfl, hz, _, _, rfl, rfl, _, rfl, ?_⟩
    rw [hbs]
    have h1 := hg.lo
    have h2 := hg.hi
    refine ite2 (fun h => ?_) (fun h => absurd (decide_eq_true (by omega)) h)
    refine ⟨_, _, rfl, rfl, _, rfl, ?_⟩
    have e : decide ((cs.length : Int) ≤ 4) = true := decide_eq_true (by omega)
    rw [e]
    refine iteF ?_
    refine ⟨_, rfl, _, rfl, for_it (walkE (z := S cs)) (fun i σ H' => ∃ v1 v2, σ = [some (.str (S cs)), v1, v2] ∧ Same H H')
      ⟨none, none, rfl, Same.refl _⟩ (fun _ _ _ _ _ => trivial) ?_ ?_⟩
    · rintro i x σ H' H'' hi ⟨v1, v2, rfl, s1⟩ ⟨T, c, rfl, nT, hc, rfl⟩
      have hc2 : cs[i]? = some c := by rw [← List.getElem?_toArray]; exact hc
      have s2 := s1.trans (same_new (o := .tup [.int (i : Nat), .str ⟨#[c]⟩]) nT)
      refine ⟨T, _, rfl, .inl (.inl upd_same), rfl, _, _, rfl, _, _, rfl, rfl, ?_⟩
      refine ⟨_, rfl, c, _, rfl, rfl, _, rfl, ?_⟩
      have hcm : c ∈ cs := List.mem_of_getElem? hc2
      have hl2 := hg.az c hcm
      have e : (!decide (c ∈ (Str.ofString "abcdefghijklmnopqrstuvwxyz").cps.toList)) = false := by
        rw [az]
        show (!decide (c ∈ List.range' 97 26)) = false
        rw [decide_eq_true (List.mem_range'.mpr ⟨c - 97, by omega, by omega⟩)]
        rfl
      rw [e]
      refine ⟨_, rfl, _, rfl, _, rfl, _, rfl, _, rfl, hz, c, _, rfl, rfl, _, rfl, ?_⟩
      rw [slice_to (a := cs) (i := ((i : Nat) : Int)) (by omega)]
      show (if decide (c ∈ cs.take (((i : Nat) : Int).toNat)) = true then _ else _)
      rw [Int.toNat_natCast]
      have ht : cs.take (i + 1) = cs.take i ++ [c] := by rw [List.take_add_one, hc2]; rfl
      refine ite2 (fun hin => ?_) (fun hin => ⟨_, _, rfl, s2⟩)
      have nd2 : (cs.take i ++ [c]).Nodup := by
        rw [← ht]
        exact (List.take_sublist _ _).nodup hg.nd
      exact absurd rfl ((List.nodup_append.mp nd2).2.2 c (of_decide_eq_true hin) c (List.mem_singleton.mpr rfl))
    · rintro σ H' ⟨v1, v2, rfl, s1⟩
      exact q _ s1
abbrev sTi : Stmt := inClass (topS 52) 0
theorem scTi : FnScope ["self", "letters", "text"] ["self", "letters", "text"] (defScope sTi) := ⟨rfl, rfl, rfl, by decide +kernel, rfl, by decide +kernel, by decide +kernel⟩
theorem ok_ti {f f1 f2 C : Addr} {fd fd1 fd2 : FuncData} (F : Fun K "__init__" "Template.__init__" sTi f fd) (T : TmC K C) (mt : mg "tuple" = none)
    (c1 : Cl P w K mg base "check_letters" 1 ["letters"] spCLn f1 fd1) (c2 : Cl P w K mg base "read_row" 3 ["letters", "text"] spRd f2 fd2) :
    FnOk P w K mg base CX0 4 f fd ["self", "letters", "text"] (spTi C) := by
  refine F.ok scTi (fun vs H Q E h => ?_) (fun cdv A outer s H vs Q E hr h => ?_)
  · obtain ⟨x, dx, gs, t, its, rfl, _⟩ := h
    rfl
  · obtain ⟨x, dx, gs, t, its, rfl, hx, hg, hl, hrd, q⟩ := h
    refine ⟨_, pss_cons (ps_expr (pe_cl c1 hr (by decide) (by rfl) (pa_cons (pv 1) pa_nil)))
      (pss_cons (ps_fld (pv 0) (pv 1) (by rfl))
      (pss_one (ps_fld (pv 0) (pe_callTy call_tuple_of (by rfl) mt (by decide +kernel) (pa_cons (pe_cl c2 hr (by decide) (by rfl) (pa_cons (pv 1) (pa_cons (pv 2) pa_nil))) pa_nil)) (by rfl)))), ?_⟩
    refine ⟨_, rfl, gs, rfl, hg, fun H1 s1 => ?_⟩
    refine ⟨_, rfl, _, rfl, x, C, dx, _, rfl, s1 _ _ hx, T.cls, T.na, (by show 0 < 1000; decide), ?_⟩
    refine ⟨_, rfl, _, rfl, gs, t, its, rfl, hg, hl, hrd, fun H2 p s2 np hp => ?_⟩
    refine ⟨p, _, rfl, .inl ⟨.inl (.inl hp), fun l nl => ?_⟩⟩
    have h2 := s2 _ _ (upd_same (H := H1) (a := x) (o := .ins C dx (putF "alphabet" (tx gs) [])))
    have nxl : x ≠ l := ne_of_none h2 nl
    refine ⟨_, rfl, x, C, dx, _, rfl, by rw [upd_ne nxl]; exact h2, T.cls, T.np, (by show 1 < 1000; decide), ?_⟩
    refine q _ (fun b o nb e => ?_) ⟨dx, l, upd_same, by rw [upd_ne nxl.symm, upd_same]⟩
    rw [upd_ne nb]
    refine same_new nl _ _ (s2 _ _ ?_)
    rw [upd_ne nb]
    exact s1 _ _ e
/-- Template(letters, text) -/
theorem tm_mk {C : Addr} {σ : L2.St} {H : Hp} {Q : VK} {ta : TA} {gs t : List Nat} {its : List (List Nat)} (h : ∀ k : List V → Hp → Prop, (∀ H1, Same H H1 → k [tx gs, tx t] H1) → ta σ H k) (hg : Good gs) (hl : t.length ≤ 1000) (hrd : Rd gs its t)
    (q : ∀ H' p, Same H H' → H p = none → Tm C H' p gs its → Q (.ref p) H') : tMake C (spTi C) [] E0 ta σ H Q := by
  refine h _ fun H1 s1 x dx nx nd ne => ?_
  refine ⟨x, dx, gs, t, its, rfl, upd_same, hg, hl, hrd, fun H2 k tm => ⟨rfl, ?_⟩⟩
  have hn : H x = none := by
    cases e : H x with
    | none => rfl
    | some o => rw [s1 _ _ e] at nx; cases nx
  refine q _ _ (fun b o e => ?_) hn tm
  have e1 := s1 _ _ e
  refine k b o (ne_of_none e1 nx) ?_
  rw [upd_ne (ne_of_none e1 nx), upd_ne (ne_of_none e1 nd)]
  exact e1
abbrev sRow : Stmt := inClass (topS 52) 6
theorem scRow : FnScope ["self"] ["self"] (defScope sRow) := ⟨rfl, rfl, rfl, by decide +kernel, rfl, by decide +kernel, by decide +kernel⟩
theorem ok_row {f C : Addr} {fd : FuncData} (F : Fun K "row" "Template.row" sRow f fd) (T : TmC K C) (ml : mg "list" = none) :
    FnOk P w K mg base CX0 1 f fd ["self"] (spRow C) := by
  refine F.ok scRow (fun vs H Q E h => ?_) (fun cdv A outer s H vs Q E hr h => ?_)
  · obtain ⟨a, gs, its, rfl, _⟩ := h
    rfl
  · obtain ⟨a, gs, its, rfl, ⟨dx, p, ha, hp⟩, q⟩ := h
    refine ⟨_, pss_one (ps_ret (pe_callTy call_list_of (by rfl) ml (by decide +kernel) (pa_cons (pe_fld (pv 0) (by rfl)) pa_nil))), ?_⟩
    refine ⟨_, rfl, a, C, dx, _, _, rfl, ha, T.cls, T.np, rfl, p, _, rfl, .inr (.inl (.inl hp)), fun l nl => ?_⟩
    exact q _ l (same_new nl) nl upd_same
abbrev sText : Stmt := inClass (topS 52) 8
theorem scText : FnScope ["self"] ["self"] (defScope sText) := ⟨rfl, rfl, rfl, by decide +kernel, rfl, by decide +kernel, by decide +kernel⟩
theorem ok_text {f f1 C : Addr} {fd fd1 : FuncData} (F : Fun K "text" "Template.text" sText f fd) (T : TmC K C) (c1 : Cl P w K mg base "row_text" 3 ["letters", "row"] (spRt K) f1 fd1) :
    FnOk P w K mg base CX0 4 f fd ["self"] (spText C) := by
  refine F.ok scText (fun vs H Q E h => ?_) (fun cdv A outer s H vs Q E hr h => ?_)
  · obtain ⟨a, gs, its, rfl, _⟩ := h
    rfl
  · obtain ⟨a, gs, its, rfl, ⟨dx, p, ha, hp⟩, hg, hl, hx, q⟩ := h
    refine ⟨_, pss_one (ps_ret (pe_cl c1 hr (by decide) (by rfl) (pa_cons (pe_fld (pv 0) (by rfl)) (pa_cons (pe_fld (pv 0) (by rfl)) pa_nil)))), ?_⟩
    exact ⟨_, rfl, a, C, dx, _, _, rfl, ha, T.cls, T.na, rfl, _, rfl, a, C, dx, _, _, rfl, ha, T.cls, T.np, rfl, gs, p, its, rfl, hg, .inr (.inl (.inl hp)), hl, hx, q⟩
abbrev sFi : Stmt := inClass (topS 52) 9
theorem scFi : FnScope ["self", "text"] ["self", "text"] (defScope sFi) := ⟨rfl, rfl, rfl, by decide +kernel, rfl, by decide +kernel, by decide +kernel⟩
theorem ok_fi {f f1 f2 C : Addr} {fd fd1 fd2 : FuncData} (F : Fun K "fill" "Template.fill" sFi f fd) (T : TmC K C)
    (c1 : Cl P w K mg base "check_text" 1 ["letters", "text"] spCk f1 fd1) (c2 : Cl P w K mg base "put_row" 4 ["letters", "row", "inner"] (spPut K) f2 fd2) :
    FnOk P w K mg base CX0 5 f fd ["self", "text"] (spFi C) := by
  refine F.ok scFi (fun vs H Q E h => ?_) (fun cdv A outer s H vs Q E hr h => ?_)
  · obtain ⟨a, gs, its, xs, rfl, _⟩ := h
    rfl
  · obtain ⟨a, gs, its, xs, rfl, ⟨dx, p, ha, hp⟩, hg, hR, hl, hxl, hxm, q⟩ := h
    refine ⟨_, pss_cons (ps_expr (pe_cl c1 hr (by decide) (by rfl) (pa_cons (pe_fld (pv 0) (by rfl)) (pa_cons (pv 1) pa_nil))))
      (pss_one (ps_ret (pe_join pe_str (pe_cl c2 hr (by decide) (by rfl) (pa_cons (pe_fld (pv 0) (by rfl)) (pa_cons (pe_fld (pv 0) (by rfl)) (pa_cons (pe_lst (pa_cons (pv 1) pa_nil)) pa_nil))))))), ?_⟩
    refine ⟨_, rfl, a, C, dx, _, _, rfl, ha, T.cls, T.na, rfl, _, rfl, gs, xs, rfl, hxm, fun H1 s1 => ?_⟩
    have ha1 := s1 _ _ ha
    have hp1 := s1 _ _ hp
    refine ⟨⟨_, rfl⟩, _, rfl, a, C, dx, _, _, rfl, ha1, T.cls, T.na, rfl, _, rfl, a, C, dx, _, _, rfl, ha1, T.cls, T.np, rfl, _, rfl, (by show 1 ≤ sizeLine; decide), fun l nl => ?_⟩
    have s2 := same_new (o := .lst [tx xs]) nl
    refine ⟨gs, p, l, its, [xs], rfl, hg.nd, by have := hg.hi; omega, hR, .inr (.inl (.inl (s2 _ _ hp1))), hl, .inl (.inl (.inl upd_same)), (by show 1 ≤ 900; decide), ?_, fun H3 p3 s3 np3 hp3 => ?_⟩
    · intro x hx
      rw [List.mem_singleton.mp hx]
      exact ⟨hxl, hxm⟩
    · refine ⟨_, p3, (putL gs its [xs]).map S, rfl, rfl, .inl (.inl (.inl ?_)), ?_, ?_⟩
      · rw [hp3]
        simp
      · rw [sum_len]
        have h1 : (putL gs its [xs]).length ≤ its.length * 1 := put_len (Nat.le_refl _) (Nat.le_refl _)
        have h2 : ((putL gs its [xs]).map id).flatten.length ≤ (putL gs its [xs]).length * 1000 := flat_len (f := id) (m := 1000) fun y hy => by
          unfold putL at hy
          obtain ⟨l2, hl2, hy2⟩ := List.mem_flatten.mp hy
          obtain ⟨x, hx, rfl⟩ := List.mem_map.mp hl2
          split at hy2
          · obtain ⟨z, hz, rfl⟩ := List.mem_map.mp hy2
            rw [List.mem_singleton.mp hz]
            show (xs.map _).length ≤ 1000
            rw [List.length_map]
            exact hxl
          · rw [List.mem_singleton.mp hy2]
            show x.length ≤ 1000
            have := row_len hg hR x hx
            omega
        rw [List.map_id] at h2
        show _ + _ * 0 ≤ _
        omega
      · rw [joinT]
        exact q _ ((s1.trans s2).trans s3)
abbrev sWr : Stmt := inClass (topS 52) 14
theorem scWr : FnScope ["self", "row"] ["self", "row"] (defScope sWr) := ⟨rfl, rfl, rfl, by decide +kernel, rfl, by decide +kernel, by decide +kernel⟩
theorem ok_wr {f f1 fI C : Addr} {fd fd1 fdI : FuncData} (F : Fun K "with_row" "Template.with_row" sWr f fd) (T : TmC K C) (M : Mk K C fI) (gC : mg "Template" = some (.ref C))
    (GI : FnOk P w K mg base CX0 4 fI fdI ["self", "letters", "text"] (spTi C)) (bI : Binds K fdI ["self", "letters", "text"] []) (c1 : Cl P w K mg base "row_text" 3 ["letters", "row"] (spRt K) f1 fd1) :
    FnOk P w K mg base CX0 6 f fd ["self", "row"] (spWr K C) := by
  refine F.ok scWr (fun vs H Q E h => ?_) (fun cdv A outer s H vs Q E hr h => ?_)
  · obtain ⟨a, b, gs, its0, its, rfl, _⟩ := h
    rfl
  · obtain ⟨a, b, gs, its0, its, rfl, ⟨dx, p, ha, hp⟩, hg, hR, hb, hl, q⟩ := h
    refine ⟨_, pss_one (ps_ret (pe_make M GI hr (by rfl) gC bI .nil pass0 (pa_cons (pe_fld (pv 0) (by rfl)) (pa_cons (pe_cl c1 hr (by decide) (by rfl) (pa_cons (pe_fld (pv 0) (by rfl)) (pa_cons (pv 1) pa_nil))) pa_nil)))), ?_⟩
    refine tm_mk (gs := gs) (t := rTx gs its) (its := its) (fun k hk => ?_) hg (rTx_len hg hR hl) (rd_r hg.lo hR) q
    exact ⟨_, rfl, a, C, dx, _, _, rfl, ha, T.cls, T.na, rfl, _, rfl, a, C, dx, _, _, rfl, ha, T.cls, T.na, rfl, _, rfl, gs, b, its, rfl, by have := hg.hi; omega, hb, by omega, (fun x hx => by have := row_len hg hR x hx; omega), fun H1 s1 => hk _ s1⟩
abbrev sItems : Stmt := topS 92
theorem scItems : FnScope ["_law_rng", "_law_signs", "_law_most", "_law_found", "_law_k"] ["_law_rng", "_law_signs", "_law_most"] (defScope sItems) := ⟨rfl, rfl, rfl, by decide +kernel, rfl, by decide +kernel, by decide +kernel⟩
theorem ok_items {f f1 f2 f3 : Addr} {fd fd1 fd2 fd3 : FuncData} (F : Fun K "_law_items" "_law_items" sItems f fd) (mr : mg "range" = none)
    (c1 : Cl P w K mg base "_law_draw" 1 ["_law_rng", "_law_sides"] spDraw f1 fd1) (c2 : Cl P w K mg base "_law_turn" 2 ["_law_rng", "_law_signs"] spTurn f2 fd2) (c3 : Cl P w K mg base "_law_pick" 2 ["_law_rng", "_law_things"] (spPick K) f3 fd3) :
    FnOk P w K mg base CX0 3 f fd ["_law_rng", "_law_signs", "_law_most"] spItems := by
  refine F.ok scItems (fun vs H Q E h => ?_) (fun cdv A outer s H vs Q E hr h => ?_)
  · obtain ⟨r, gs, m, rfl, _⟩ := h
    rfl
  · obtain ⟨r, gs, m, rfl, hg, m0, m1, R, q⟩ := h
    refine ⟨_, pss_cons (ps_set (i := 3) scItems.nd rfl (.inl rfl) (pe_lst pa_nil))
      (pss_cons (ps_for PassesOwn.never rfl (pi_range1 rfl mr (pa_cons (pe_cl c1 hr (by decide) (by rfl) (pa_cons (pv 0) (pa_cons (pe_op op_add (pv 2) pe_int) pa_nil))) pa_nil)) (pg_name (i := 4) scItems.nd rfl (.inl rfl))
        (pss_one (ps_expr (pe_bm PySem.F.plainAttrs_list PySem.F.slot_list_append PySem.F.type_list_append mt_append (pv 3) (pa_cons
          (pe_ifExp (pt_cmpR op_eq (pe_cl c1 hr (by decide) (by rfl) (pa_cons (pv 0) (pa_cons pe_int pa_nil))) pe_int (nomark _)) (pe_cl c2 hr (by decide) (by rfl) (pa_cons (pv 0) (pa_cons (pv 1) pa_nil)))
            (pe_cl c3 hr (by decide) (by rfl) (pa_cons (pv 0) (pa_cons (pv 1) pa_nil)))) pa_nil)))))
      (pss_one (ps_ret (pv 3)))), ?_⟩
    refine ⟨Nat.zero_le _, fun D nD => ?_⟩
    have s0 := same_new (o := .lst []) nD
    obtain ⟨xr, er⟩ := R.ex
    have nDr : D ≠ r := (ne_of_none er nD).symm
    refine ⟨_, rfl, _, rfl, _, _, rfl, rfl, r, _, rfl, by omega, by omega, R.same s0, fun H1 k g1 k0 k1 => ?_⟩
    obtain ⟨n, rfl⟩ := Int.eq_ofNat_of_zero_le k0
    have G1 : Go r H H1 := Go.after R s0 g1
    refine ⟨_, rfl, by omega, by omega, ?_⟩
    refine for_range (lo := 0) (n := (n : Int).toNat)
      (fun i σ H' => ∃ v its, σ = [some (.ref r), some (tx gs), some (.int m), some (.ref D), v] ∧ Go r H H' ∧ H' D = some (.lst (its.map tx)) ∧ Row gs its ∧ its.length = i)
      ⟨none, [], rfl, G1, g1.1 _ _ nDr upd_same, (fun x hx => nomatch hx), rfl⟩ ?_ ?_
    · rintro i σ H' hi ⟨v, its, rfl, g, hD, hR, hl⟩
      refine ⟨_, rfl, .inl ⟨rfl, _, .inl (.inl hD)⟩, _, rfl, r, 2, rfl, by decide, by decide, g.rng, fun H2 d g2 d0 d1 => ?_⟩
      have hD2 := g2.1 _ _ nDr hD
      have dl : (its.map tx).length < sizeLine := by rw [List.length_map]; exact small1000 (by omega)
      refine ⟨rfl, _, rfl, ?_⟩
      refine ite2 (fun _ => ?_) (fun _ => ?_)
      · refine ⟨_, rfl, _, rfl, r, gs, rfl, by have := hg.hi; omega, g2.rng, fun H3 t g3 pt => ?_⟩
        refine ⟨D, _, _, rfl, rfl, g3.1 _ _ nDr hD2, dl, _, its ++ [t], rfl, ((g.trans g2).trans g3).put nD, ?_, fun x hx => ?_, by rw [List.length_append, hl]; rfl⟩
        · rw [upd_same, List.map_append]
          rfl
        · rcases List.mem_append.mp hx with h | h
          · exact hR x h
          · rw [List.mem_singleton.mp h]; exact .inr pt
      · refine ⟨_, rfl, _, rfl, r, _, rfl, g2.rng, .inr ⟨gs, rfl, by have := hg.lo; omega, by have := hg.hi; omega, fun H3 c g3 hc => ?_⟩⟩
        refine ⟨D, _, _, rfl, rfl, g3.1 _ _ nDr hD2, dl, _, its ++ [[c]], rfl, ((g.trans g2).trans g3).put nD, ?_, fun x hx => ?_, by rw [List.length_append, hl]; rfl⟩
        · rw [upd_same, List.map_append]
          rfl
        · rcases List.mem_append.mp hx with h | h
          · exact hR x h
          · rw [List.mem_singleton.mp h]; exact .inl ⟨c, hc, rfl⟩
    · rintro σ H' ⟨v, its, rfl, g, hD, hR, hl⟩
      exact ⟨_, rfl, q _ _ its g nD hD hR (by omega)⟩
abbrev sLx : Stmt := topS 93
theorem scLx : FnScope ["_law_signs", "_law_items_here", "_law_found", "_law_item"] ["_law_signs", "_law_items_here"] (defScope sLx) := ⟨rfl, rfl, rfl, by decide +kernel, rfl, by decide +kernel, by decide +kernel⟩
theorem ok_lx {f : Addr} {fd : FuncData} (F : Fun K "_law_text" "_law_text" sLx f fd) (ml : mg "len" = none) :
    FnOk P w K mg base CX0 1 f fd ["_law_signs", "_law_items_here"] (spLx K) := by
  refine F.ok scLx (fun vs H Q E h => ?_) (fun cdv A outer s H vs Q E hr h => ?_)
  · obtain ⟨gs, a, its, rfl, _⟩ := h
    rfl
  · obtain ⟨gs, a, its, rfl, hg, hR, hl, hs, q⟩ := h
    refine ⟨_, pss_cons (ps_set (i := 2) scLx.nd rfl (.inl rfl) (pe_join pe_str (pe_lc (own := [("_law_item", 3)]) (g := gName 3) (tt := tYes) rfl scLx.nd (pi_list (pv 1))
        (blkOk_by (N := ["_law_signs", "_law_items_here", "_law_found", "_law_item"]) (sc := defScope sLx) (by decide +kernel))
        (fun _ _ _ _ _ => pg_name (i := 3) scLx.nd rfl (Or.inl rfl)) (fun _ _ _ _ _ => pts_nil)
        (fun _ _ _ _ _ => pe_ifExp (pt_cmpR op_eq (pe_callB call_len_str (by rfl) ml PySem.boot_len (pa_cons (pv 3) pa_nil)) pe_int (nomark _)) (pv 3)
          (pe_ifExp (pt_cmpR op_eq (pv 3) (pv 0) (nomark _)) pe_str (pe_op op_add_str (pe_op op_add_str pe_str (pv 3)) pe_str))))))
      (pss_one (ps_ret (pe_ifExp (pt_cmpR (op_neD hr.units) (pv 1) (pe_lst pa_nil) (nomark _)) (pv 2) pe_str))), ?_⟩
    have o0 : Str.ofString "{}" = S [123, 125] := by decide +kernel
    have o1 : Str.ofString "{" = S [123] := by decide +kernel
    have o2 : Str.ofString "}" = S [125] := by decide +kernel
    refine ⟨⟨_, rfl⟩, _, rfl, a, rfl, ⟨_, hs⟩, fun D nD => ?_⟩
    refine lc_list (K := K) (a := a) (xs := its.map tx) (fun i H' => Same H H' ∧ H' D = some (.lst (((its.take i).map (iTx gs)).map tx))) ⟨same_new nD, upd_same⟩ (fun _ _ _ h => h.1.seq hs) ?_ ?_
    · rintro i y H' hy ⟨s1, hD⟩
      obtain ⟨x, hx2, rfl⟩ := get_tx hy
      have hxm := List.mem_of_getElem? hx2
      have hx4 := row_len hg hR x hxm
      have hx0 := row_pos hg hR x hxm
      have hzx : (S x).length ≤ sizeLine := by rw [S_len]; exact small (by omega)
      have dl : (((its.take i).map (iTx gs)).map tx).length < sizeLine := by
        rw [List.length_map, List.length_map, List.length_take]
        exact small1000 (by omega)
      have fin : ∀ z : List Nat, z = iTx gs x → ∃ acc, H' D = some (.lst acc) ∧ acc.length < sizeLine ∧ (Same H (upd H' D (.lst (acc ++ [tx z]))) ∧ upd H' D (.lst (acc ++ [tx z])) D = some (.lst (((its.take (i + 1)).map (iTx gs)).map tx))) := by
        rintro z rfl
        refine ⟨_, hD, dl, same_put s1 nD, ?_⟩
        rw [upd_same, List.take_add_one, hx2]
        simp
      refine ⟨rfl, _, rfl, _, rfl, hzx, rfl, _, rfl, ?_⟩
      by_cases h1 : x.length = 1
      · rw [decide_eq_true (by rw [S_len, h1]; rfl)]
        refine iteT ⟨_, rfl, fin x ?_⟩
        unfold iTx
        rw [if_neg (by omega)]
      · rw [decide_eq_false (fun e => h1 (by have := V.int.inj e; rw [S_len] at this; omega))]
        refine iteF ⟨_, rfl, _, rfl, rfl, _, rfl, ?_⟩
        by_cases h2 : x = gs
        · rw [decide_eq_true (by rw [h2]), o0]
          refine iteT (fin [123, 125] ?_)
          unfold iTx
          rw [if_pos (by omega), if_pos h2]
        · rw [decide_eq_false (fun e => h2 (S_inj (V.str.inj e)))]
          have e3 : S [123] ++ S x ++ S [125] = S ([123] ++ x ++ [125]) := by
            rw [show S [123] ++ S x = S ([123] ++ x) from S_cat _ _]
            exact S_cat _ _
          refine iteF ⟨_, rfl, _, _, rfl, rfl, ?_, _, _, rfl, rfl, ?_, ?_⟩
          · rw [o1, S_len, S_len]
            exact small (by show 1 + _ ≤ 1000; omega)
          · rw [o1, o2, show S [123] ++ S x = S ([123] ++ x) from S_cat _ _, S_len, S_len, List.length_append]
            exact small (by show 1 + _ + 1 ≤ 1000; omega)
          · rw [o1, o2, e3]
            refine fin _ ?_
            unfold iTx
            rw [if_pos (by omega), if_neg h2]
    · rintro H' ⟨s1, hD⟩
      rw [List.length_map, List.take_length] at hD
      refine ⟨_, D, (its.map (iTx gs)).map S, rfl, rfl, .inl (.inl (.inl ?_)), ?_, ?_⟩
      · rw [hD]
        simp
      · rw [sum_len]
        have := flat_len (f := iTx gs) (m := 6) (its := its) fun x hx => Nat.le_trans iTx_len (by have := row_len hg hR x hx; omega)
        show _ + _ * 0 ≤ _
        omega
      · rw [joinT]
        refine ⟨_, rfl, Nat.zero_le _, fun l nl => ?_⟩
        have s2 := same_new (o := .lst []) nl
        have ha : SqL K (upd H' l (.lst [])) a ((its.map S).map V.str) := by
          have := (s1.trans s2).seq hs
          rw [List.map_map]
          exact this
        have gaz : ∀ x ∈ its, ∀ k ∈ x, k < 128 := fun x hx k hk => by have := hg.az k (row_mem hR x hx k hk); omega
        refine ⟨_, _, .lst ha (dp_all its), .lst (.inl (.inl upd_same)) .nil, shp_tx gaz, by decide +kernel, ?_⟩
        rw [show PyData.eqv (.list (its.map fun c => PyData.str (S c))) (.list []) = decide (its = []) from eqvAll_tx its []]
        have qq := q _ (s1.trans s2)
        unfold rTx at qq
        by_cases h0 : its = []
        · rw [if_pos h0] at qq
          rw [decide_eq_true h0]
          exact ⟨false, rfl, iteF qq⟩
        · rw [if_neg h0] at qq
          rw [decide_eq_false h0]
          exact ⟨true, rfl, iteT ⟨_, rfl, qq⟩⟩
abbrev sLf : Stmt := topS 94
theorem scLf : FnScope ["_law_signs", "_law_items_here", "_law_shown", "_law_item"] ["_law_signs", "_law_items_here", "_law_shown"] (defScope sLf) := ⟨rfl, rfl, rfl, by decide +kernel, rfl, by decide +kernel, by decide +kernel⟩
theorem ok_lf {f f1 : Addr} {fd fd1 : FuncData} (F : Fun K "_law_fill" "_law_fill" sLf f fd) (ml : mg "len" = none) (c1 : Cl P w K mg base "_law_turned" 1 ["_law_signs", "_law_my_turn", "_law_shown"] spTd f1 fd1) :
    FnOk P w K mg base CX0 2 f fd ["_law_signs", "_law_items_here", "_law_shown"] (spLf K) := by
  refine F.ok scLf (fun vs H Q E h => ?_) (fun cdv A outer s H vs Q E hr h => ?_)
  · obtain ⟨gs, a, its, xs, rfl, _⟩ := h
    rfl
  · obtain ⟨gs, a, its, xs, rfl, hg, hR, hl, hs, hxl, hxm, q⟩ := h
    refine ⟨_, pss_one (ps_ret (pe_join pe_str (pe_lc (own := [("_law_item", 3)]) (g := gName 3) (tt := tYes) rfl scLf.nd (pi_list (pv 1))
        (blkOk_by (N := ["_law_signs", "_law_items_here", "_law_shown", "_law_item"]) (sc := defScope sLf) (by decide +kernel))
        (fun _ _ _ _ _ => pg_name (i := 3) scLf.nd rfl (Or.inl rfl)) (fun _ _ _ _ _ => pts_nil)
        (fun _ _ _ _ _ => pe_ifExp (pt_cmpR op_eq (pe_callB call_len_str (by rfl) ml PySem.boot_len (pa_cons (pv 3) pa_nil)) pe_int (nomark _)) (pv 3)
          (pe_cl c1 hr (by decide) (by rfl) (pa_cons (pv 0) (pa_cons (pv 3) (pa_cons (pv 2) pa_nil)))))))), ?_⟩
    refine ⟨⟨_, rfl⟩, _, rfl, a, rfl, ⟨_, hs⟩, fun D nD => ?_⟩
    refine lc_list (K := K) (a := a) (xs := its.map tx) (fun i H' => Same H H' ∧ H' D = some (.lst (((its.take i).map (lf1 gs xs)).map tx))) ⟨same_new nD, upd_same⟩ (fun _ _ _ h => h.1.seq hs) ?_ ?_
    · rintro i y H' hy ⟨s1, hD⟩
      obtain ⟨x, hx2, rfl⟩ := get_tx hy
      have hxi := List.mem_of_getElem? hx2
      have hx4 := row_len hg hR x hxi
      have hzx : (S x).length ≤ sizeLine := by rw [S_len]; exact small (by omega)
      have dl : (((its.take i).map (lf1 gs xs)).map tx).length < sizeLine := by
        rw [List.length_map, List.length_map, List.length_take]
        exact small1000 (by omega)
      have fin : ∀ (H4 : Hp) (z : List Nat), Same H' H4 → z = lf1 gs xs x → ∃ acc, H4 D = some (.lst acc) ∧ acc.length < sizeLine ∧ (Same H (upd H4 D (.lst (acc ++ [tx z]))) ∧ upd H4 D (.lst (acc ++ [tx z])) D = some (.lst (((its.take (i + 1)).map (lf1 gs xs)).map tx))) := by
        rintro H4 z s4 rfl
        refine ⟨_, s4 _ _ hD, dl, same_put (s1.trans s4) nD, ?_⟩
        rw [upd_same, List.take_add_one, hx2]
        simp
      refine ⟨rfl, _, rfl, _, rfl, hzx, rfl, _, rfl, ?_⟩
      by_cases h1 : x.length = 1
      · rw [decide_eq_true (by rw [S_len, h1]; rfl)]
        refine iteT ⟨_, rfl, fin _ x (Same.refl _) ?_⟩
        unfold lf1
        rw [if_pos h1]
      · rw [decide_eq_false (fun e => h1 (by have := V.int.inj e; rw [S_len] at this; omega))]
        have hxp : x.length = gs.length := by
          rcases hR x hxi with ⟨c, _, rfl⟩ | p
          · exact absurd rfl h1
          · exact p.length_eq
        refine iteF ⟨_, rfl, _, rfl, _, rfl, gs, x, xs, rfl, hg.nd, by have := hg.hi; omega, hxp, hxl, hxm, fun H4 s4 => ?_⟩
        refine fin _ _ s4 ?_
        unfold lf1
        rw [if_neg h1]
    · rintro H' ⟨s1, hD⟩
      rw [List.length_map, List.take_length] at hD
      refine ⟨_, D, (its.map (lf1 gs xs)).map S, rfl, rfl, .inl (.inl (.inl ?_)), ?_, ?_⟩
      · rw [hD]
        simp
      · rw [sum_len]
        have := flat_len (f := lf1 gs xs) (m := 1000) (its := its) fun x hx => by
          unfold lf1
          split
          · omega
          · rw [List.length_map]; exact hxl
        show _ + _ * 0 ≤ _
        omega
      · rw [joinT, lf_eq hg hR]
        exact q _ s1
abbrev sLtm : Stmt := topS 95
theorem scLtm : FnScope ["_law_signs", "_law_items_here"] ["_law_signs", "_law_items_here"] (defScope sLtm) := ⟨rfl, rfl, rfl, by decide +kernel, rfl, by decide +kernel, by decide +kernel⟩
theorem ok_ltm {f f1 fI C : Addr} {fd fd1 fdI : FuncData} (F : Fun K "_law_template" "_law_template" sLtm f fd) (M : Mk K C fI) (gC : mg "Template" = some (.ref C))
    (GI : FnOk P w K mg base CX0 4 fI fdI ["self", "letters", "text"] (spTi C)) (bI : Binds K fdI ["self", "letters", "text"] []) (c1 : Cl P w K mg base "_law_text" 1 ["_law_signs", "_law_items_here"] (spLx K) f1 fd1) :
    FnOk P w K mg base CX0 6 f fd ["_law_signs", "_law_items_here"] (spLt K C) := by
  refine F.ok scLtm (fun vs H Q E h => ?_) (fun cdv A outer s H vs Q E hr h => ?_)
  · obtain ⟨gs, a, its, rfl, _⟩ := h
    rfl
  · obtain ⟨gs, a, its, rfl, hg, hR, hl, hs, q⟩ := h
    refine ⟨_, pss_one (ps_ret (pe_make M GI hr (by rfl) gC bI .nil pass0 (pa_cons (pv 0) (pa_cons (pe_cl c1 hr (by decide) (by rfl) (pa_cons (pv 0) (pa_cons (pv 1) pa_nil))) pa_nil)))), ?_⟩
    refine tm_mk (gs := gs) (t := rTx gs its) (its := its) (fun k hk => ?_) hg (rTx_len hg hR (by omega)) (rd_r hg.lo hR) q
    exact ⟨_, rfl, _, rfl, _, rfl, gs, a, its, rfl, hg, hR, hl, hs, fun H1 s1 => hk _ s1⟩
abbrev sLr : Stmt := inClass (topS 52) 3
theorem scLr : FnScope ["self"] ["self"] (defScope sLr) := ⟨rfl, rfl, rfl, by decide +kernel, rfl, by decide +kernel, by decide +kernel⟩
theorem ok_lr {f C : Addr} {fd : FuncData} (F : Fun K "letters" "Template.letters" sLr f fd) (T : TmC K C) : FnOk P w K mg base CX0 1 f fd ["self"] (spLr C) := by
  refine F.ok scLr (fun vs H Q E h => ?_) (fun cdv A outer s H vs Q E hr h => ?_)
  · obtain ⟨a, gs, its, rfl, _⟩ := h
    rfl
  · obtain ⟨a, gs, its, rfl, ⟨dx, p, ha, hp⟩, q⟩ := h
    refine ⟨_, pss_one (ps_ret (pe_fld (pv 0) (by rfl))), ?_⟩
    exact ⟨_, rfl, a, C, dx, _, _, rfl, ha, T.cls, T.na, rfl, q⟩
abbrev sCS : Stmt := topS 26
theorem scCS : FnScope ["letters", "other"] ["letters", "other"] (defScope sCS) := ⟨rfl, rfl, rfl, by decide +kernel, rfl, by decide +kernel, by decide +kernel⟩
theorem ok_cs {f : Addr} {fd : FuncData} (F : Fun K "check_same_letters" "check_same_letters" sCS f fd) : FnOk P w K mg base CX0 1 f fd ["letters", "other"] spCS := by
  refine F.ok scCS (fun vs H Q E h => ?_) (fun cdv A outer s H vs Q E hr h => ?_)
  · obtain ⟨gs, rfl, _⟩ := h
    rfl
  · obtain ⟨gs, rfl, q⟩ := h
    refine ⟨_, pss_one (ps_if (pt_cmpR op_ne (pv 0) (pv 1) (nomark _)) pss_never pss_nil), ?_⟩
    exact ⟨_, rfl, _, rfl, rfl, _, rfl, iteNS rfl q⟩
abbrev sInitLD : Stmt := inClass (topS 5) 0
theorem scInitLD : FnScope ["self"] ["self"] (defScope sInitLD) := ⟨rfl, rfl, rfl, by decide +kernel, rfl, by decide +kernel, by decide +kernel⟩
theorem ok_initLD {f C : Addr} {fd : FuncData} (F : Fun K "__init__" "LettersDiffer.__init__" sInitLD f fd) (T : ErrC K mg "LettersDiffer" C) :
    FnOk P w K mg base CX0 1 f fd ["self"] (spI0 K C "LettersDiffer") := by
  refine F.ok scInitLD (fun vs H Q E h => ?_) (fun cdv A outer s H vs Q E hr h => ?_)
  · obtain ⟨a, rfl, _⟩ := h
    rfl
  · obtain ⟨a, rfl, ha, q⟩ := h
    refine ⟨_, pss_one (ps_ost (pv 0) pe_str), ?_⟩
    exact ⟨_, rfl, a, C, rfl, T.ox, T.nc, .inl ⟨ha, fun dx n ne => q dx n ne⟩⟩
theorem ok_csX {f fI C : Addr} {fd fdI : FuncData} (F : Fun K "check_same_letters" "check_same_letters" sCS f fd) (T : ErrC K mg "LettersDiffer" C)
    (FI : Fun K "__init__" "LettersDiffer.__init__" sInitLD fI fdI) (bI : Binds K fdI ["self"] []) (iC : PySem.W.findIn K (.ref C) "__init__" = some (some (.ref fI))) (tI : PySem.W.typeIn K (.ref fI) = some (.type "function")) :
    FnOk P w K mg base (L2.CX P w) 3 f fd ["letters", "other"] (spCSX C) := by
  have GI : FnOk P w K mg base CX0 1 fI fdI ["self"] (spI0 K C "LettersDiffer") := ok_initLD FI T
  refine F.okX scCS (fun vs H Q E h => ?_) (fun cdv A outer s H vs Q E hr h => ?_)
  · obtain ⟨gs, hs, rfl, _⟩ := h
    rfl
  · obtain ⟨gs, hs, rfl, ne, q⟩ := h
    refine ⟨_, pss_one (ps_if (pt_cmpR op_ne (pv 0) (pv 1) (nomark _)) (pss_one (ps_raise rfl (takes_of rfl rfl rfl rfl) (pmk0 T.ox iC tI GI hr bI pass0 (by rfl) T.gl))) pss_nil), ?_⟩
    refine ⟨_, rfl, _, rfl, rfl, _, rfl, ?_⟩
    rw [decide_eq_false (fun e => ne (S_inj (V.str.inj e)))]
    refine iteT ⟨Nat.zero_le _, fun a na => ⟨a, rfl, upd_same, fun dx nd nx => ⟨rfl, dx, _, upd_same, by rw [upd_ne nx, upd_same], ?_, ?_⟩⟩⟩
    · exact (after0 (C := C) (fs := []) na nd nx).1
    · exact q _ _ (after0 na nd nx).2 upd_same
abbrev sMi : Stmt := inClass (topS 52) 13
theorem scMi : FnScope ["self"] ["self"] (defScope sMi) := ⟨rfl, rfl, rfl, by decide +kernel, rfl, by decide +kernel, by decide +kernel⟩
theorem ok_mi {f f2 C : Addr} {fd fd2 : FuncData} (F : Fun K "mirrored" "Template.mirrored" sMi f fd) (T : TmC K C)
    (m2 : Meth K C "with_row" f2) (GW : FnOk P w K mg base CX0 6 f2 fd2 ["self", "row"] (spWr K C)) (bW : Binds K fd2 ["self", "row"] []) :
    FnOk P w K mg base CX0 7 f fd ["self"] (spMi C) := by
  refine F.ok scMi (fun vs H Q E h => ?_) (fun cdv A outer s H vs Q E hr h => ?_)
  · obtain ⟨a, gs, its, rfl, _⟩ := h
    rfl
  · obtain ⟨a, gs, its, rfl, ⟨dx, p, ha, hp⟩, hg, hR, hl, q⟩ := h
    refine ⟨_, pss_one (ps_ret (pe_meth (pv 0) T.cls m2 GW hr bW .nil pass0 (pa_cons (pe_backT (pe_fld (pv 0) (by rfl))) pa_nil))), ?_⟩
    refine ⟨_, rfl, a, dx, _, rfl, ha, by rfl, ?_⟩
    refine ⟨_, rfl, a, C, dx, _, _, rfl, ha, T.cls, T.np, rfl, p, _, rfl, .inl (.inl hp), fun l nl => ?_⟩
    have s1 := same_new (o := .tup (its.map tx).reverse) nl
    refine ⟨a, l, gs, its, its.reverse, rfl, ⟨dx, p, s1 _ _ ha, s1 _ _ hp⟩, hg, row_rev hR, .inr (.inl (.inl ?_)), by rw [List.length_reverse]; exact hl, fun H2 r s2 nr tm => ?_⟩
    · rw [upd_same, List.map_reverse]
    · have hn : H r = none := by
        cases e : H r with
        | none => rfl
        | some o => rw [s1 _ _ e] at nr; cases nr
      exact q _ _ (s1.trans s2) hn tm
abbrev sLAt : Stmt := topS 56
theorem scLAt : FnScope ["text", "place"] ["text", "place"] (defScope sLAt) := ⟨rfl, rfl, rfl, by decide +kernel, rfl, by decide +kernel, by decide +kernel⟩
theorem ok_lat {f : Addr} {fd : FuncData} (F : Fun K "letter_at" "letter_at" sLAt f fd) (ml : mg "len" = none) : FnOk P w K mg base CX0 1 f fd ["text", "place"] spLAt := by
  refine F.ok scLAt (fun vs H Q E h => ?_) (fun cdv A outer s H vs Q E hr h => ?_)
  · obtain ⟨a, i, rfl, _⟩ := h
    rfl
  · obtain ⟨a, i, rfl, hl, q⟩ := h
    refine ⟨_, pss_one (ps_ret (pe_ifExp (pt_cmpR op_lt (pv 1) (pe_callB call_len_str (by rfl) ml PySem.boot_len (pa_cons (pv 0) pa_nil)) (nomark _)) (pe_ix ix_str (pv 0) (pv 1) (fun _ _ => rfl)) pe_non)), ?_⟩
    have za : (S a).length ≤ sizeLine := by rw [S_len]; exact small hl
    refine ⟨_, rfl, _, rfl, _, rfl, za, _, _, rfl, rfl, _, rfl, ?_⟩
    rw [S_len]
    unfold ltV at q
    cases hc : a[i]? with
    | none =>
      rw [hc] at q
      have := List.getElem?_eq_none_iff.mp hc
      rw [decide_eq_false (by omega)]
      exact iteF q
    | some c =>
      rw [hc] at q
      have := (List.getElem?_eq_some_iff.mp hc).1
      rw [decide_eq_true (by omega)]
      exact iteT ⟨_, rfl, _, rfl, _, _, c, rfl, rfl, za, atI_nat hc, q⟩
abbrev sCSz : Stmt := topS 57
theorem scCSz : FnScope ["first", "second", "alike", "most", "middle"] ["first", "second"] (defScope sCSz) := ⟨rfl, rfl, rfl, by decide +kernel, rfl, by decide +kernel, by decide +kernel⟩
theorem ok_csz {f : Addr} {fd : FuncData} (F : Fun K "common_size" "common_size" sCSz f fd) (ml : mg "len" = none) (mm : mg "min" = none) : FnOk P w K mg base CX0 1 f fd ["first", "second"] spCSz := by
  refine F.ok scCSz (fun vs H Q E h => ?_) (fun cdv A outer s H vs Q E hr h => ?_)
  · obtain ⟨a, b, rfl, _⟩ := h
    rfl
  · obtain ⟨a, b, rfl, ha, hb, q⟩ := h
    refine ⟨_, pss_cons (ps_set (i := 2) scCSz.nd rfl (.inl rfl) pe_int)
      (pss_cons (ps_set (i := 3) scCSz.nd rfl (.inl rfl) (pe_callB (call_min2 rfl) (by rfl) mm (by decide +kernel) (pa_cons (pe_callB call_len_str (by rfl) ml PySem.boot_len (pa_cons (pv 0) pa_nil)) (pa_cons (pe_callB call_len_str (by rfl) ml PySem.boot_len (pa_cons (pv 1) pa_nil)) pa_nil))))
      (pss_cons (ps_while PassesOwn.never (pt_cmpR op_lt (pv 2) (pv 3) (nomark _))
        (pss_cons (ps_set (i := 4) scCSz.nd rfl (.inl rfl) (pe_op op_fdiv (pe_op op_add (pe_op op_add (pv 2) (pv 3)) pe_int) pe_int))
        (pss_one (ps_if (pt_cmpR op_eq (pe_slice C8.sl_txt (pv 0) (po_some (pv 2)) (po_some (pv 4))) (pe_slice C8.sl_txt (pv 1) (po_some (pv 2)) (po_some (pv 4))) (nomark _))
          (pss_one (ps_set (i := 2) scCSz.nd rfl (.inl rfl) (pv 4)))
          (pss_one (ps_set (i := 3) scCSz.nd rfl (.inl rfl) (pe_op op_sub (pv 4) pe_int)))))))
      (pss_one (ps_ret (pv 2))))), ?_⟩
    have za : (S a).length ≤ sizeLine := by rw [S_len]; exact small ha
    have zb : (S b).length ≤ sizeLine := by rw [S_len]; exact small hb
    have hle := cpl_le a b
    refine ⟨_, rfl, _, rfl, za, _, rfl, _, rfl, zb, _, _, rfl, ?_⟩
    rw [S_len, S_len]
    refine ⟨fun m σ H' => ∃ (k t : Nat) (v : Option V), σ = [some (tx a), some (tx b), some (.int (k : Int)), some (.int (t : Int)), v] ∧ H' = H ∧ k ≤ cpl a b ∧ cpl a b ≤ t ∧ t ≤ a.length ∧ t ≤ b.length ∧ m = t - k,
      ⟨_, 0, min a.length b.length, none, ?_, rfl, Nat.zero_le _, by omega, by omega, by omega, rfl⟩, ?_⟩
    · have e : (if ((b.length : Nat) : Int) < ((a.length : Nat) : Int) then ((b.length : Nat) : Int) else ((a.length : Nat) : Int)) = ((min a.length b.length : Nat) : Int) := by
        by_cases h : ((b.length : Nat) : Int) < ((a.length : Nat) : Int)
        · rw [if_pos h]
          omega
        · rw [if_neg h]
          omega
      rw [e]
      rfl
    rintro m σ H' ⟨k, t, v, rfl, rfl, h1, h2, h3, h4, rfl⟩
    refine ⟨_, rfl, _, rfl, _, _, rfl, rfl, _, rfl, ?_⟩
    by_cases hkt : k < t
    · rw [decide_eq_true (by omega)]
      refine iteT ⟨fun σ' H'' => ∃ (k' t' : Nat) (v' : Option V), σ' = [some (tx a), some (tx b), some (.int (k' : Int)), some (.int (t' : Int)), v'] ∧ H'' = H' ∧ k' ≤ cpl a b ∧ cpl a b ≤ t' ∧ t' ≤ a.length ∧ t' ≤ b.length ∧ t' - k' < t - k,
        fun σ' H'' ⟨k', t', v', ea, eb, a1, a2, a3, a4, a5⟩ => ⟨_, a5, k', t', v', ea, eb, a1, a2, a3, a4, rfl⟩, ?_⟩
      refine ⟨_, rfl, _, rfl, _, _, rfl, rfl, _, _, rfl, rfl, _, _, rfl, rfl, ⟨by omega, by decide⟩, ?_⟩
      have em : ((k : Int) + (t : Int) + 1) / 2 = (((k + t + 1) / 2 : Nat) : Int) := by omega
      dsimp only
      rw [em]
      have hm1 : k < (k + t + 1) / 2 := by omega
      have hm2 : (k + t + 1) / 2 ≤ t := by omega
      generalize (k + t + 1) / 2 = mi at hm1 hm2
      refine ⟨_, rfl, _, rfl, _, rfl, _, rfl, _, rfl, _, rfl, za, _, rfl, _, rfl, _, rfl, _, rfl, _, rfl, _, rfl, zb, rfl, _, rfl, ?_⟩
      rw [slice_mid, slice_mid]
      have key := cpl_mid (a := a) (b := b) (k := k) (m := mi) h1 (by omega) (by omega) (by omega)
      by_cases hq : mi ≤ cpl a b
      · rw [decide_eq_true (by rw [key.mpr hq])]
        exact iteT ⟨_, rfl, mi, t, some (.int (mi : Int)), rfl, rfl, hq, h2, h3, h4, by omega⟩
      · rw [decide_eq_false (fun e => hq (key.mp (S_inj (V.str.inj e))))]
        refine iteF ⟨_, rfl, _, _, rfl, rfl, k, mi - 1, some (.int (mi : Int)), ?_, rfl, h1, by omega, by omega, by omega, by omega⟩
        have e : ((mi - 1 : Nat) : Int) = (mi : Int) - 1 := by omega
        rw [e]
        rfl
    · rw [decide_eq_false (by omega)]
      have e : k = cpl a b := by omega
      subst e
      exact iteF ⟨_, rfl, q⟩
abbrev sFD : Stmt := topS 58
theorem scFD : FnScope ["first", "second", "place"] ["first", "second"] (defScope sFD) := ⟨rfl, rfl, rfl, by decide +kernel, rfl, by decide +kernel, by decide +kernel⟩
theorem ok_fdf {f f1 f2 : Addr} {fd fd1 fd2 : FuncData} (F : Fun K "first_difference" "first_difference" sFD f fd) (c1 : Cl P w K mg base "common_size" 1 ["first", "second"] spCSz f1 fd1) (c2 : Cl P w K mg base "letter_at" 1 ["text", "place"] spLAt f2 fd2) :
    FnOk P w K mg base CX0 2 f fd ["first", "second"] spFD := by
  refine F.ok scFD (fun vs H Q E h => ?_) (fun cdv A outer s H vs Q E hr h => ?_)
  · obtain ⟨a, b, rfl, _⟩ := h
    rfl
  · obtain ⟨a, b, rfl, ha, hb, q0, q⟩ := h
    refine ⟨_, pss_cons (ps_if (pt_cmpR op_eq (pv 0) (pv 1) (nomark _)) (pss_one (ps_ret pe_non)) pss_nil)
      (pss_cons (ps_set (i := 2) scFD.nd rfl (.inl rfl) (pe_cl c1 hr (by decide) (by rfl) (pa_cons (pv 0) (pa_cons (pv 1) pa_nil))))
      (pss_one (ps_ret (pe_tup (pa_cons (pv 2) (pa_cons (pe_cl c2 hr (by decide) (by rfl) (pa_cons (pv 0) (pa_cons (pv 2) pa_nil))) (pa_cons (pe_cl c2 hr (by decide) (by rfl) (pa_cons (pv 1) (pa_cons (pv 2) pa_nil))) pa_nil))))))), ?_⟩
    refine ⟨_, rfl, _, rfl, rfl, _, rfl, ?_⟩
    by_cases h : a = b
    · rw [decide_eq_true (by rw [h])]
      exact iteT (q0 h)
    · rw [decide_eq_false (fun e => h (S_inj (V.str.inj e)))]
      refine iteF ⟨_, rfl, _, rfl, a, b, rfl, ha, hb, ?_⟩
      refine ⟨_, rfl, _, rfl, _, rfl, a, _, rfl, ha, _, rfl, _, rfl, b, _, rfl, hb, (by show 3 ≤ sizeLine; decide), fun p np => ?_⟩
      exact q h _ p (same_new np) np upd_same
abbrev sLW : Stmt := topS 59
theorem scLW : FnScope ["letters", "one", "other"] ["letters", "one", "other"] (defScope sLW) := ⟨rfl, rfl, rfl, by decide +kernel, rfl, by decide +kernel, by decide +kernel⟩
theorem ok_lw {f : Addr} {fd : FuncData} (F : Fun K "letters_word" "letters_word" sLW f fd) : FnOk P w K mg base CX0 1 f fd ["letters", "one", "other"] spLW := by
  refine F.ok scLW (fun vs H Q E h => ?_) (fun cdv A outer s H vs Q E hr h => ?_)
  · obtain ⟨gs, c, d, rfl, _⟩ := h
    rfl
  · obtain ⟨gs, c, d, rfl, hc, hd, q⟩ := h
    refine ⟨_, pss_one (ps_ret (pe_ifExp (pt_cmpR op_lt (pe_m1 PySem.F.slot_str_index PySem.F.type_str_index mt_sindex (pv 0) (pv 1)) (pe_m1 PySem.F.slot_str_index PySem.F.type_str_index mt_sindex (pv 0) (pv 2)) (nomark _)) pe_str pe_str)), ?_⟩
    obtain ⟨r1, o1⟩ := occ1 hc
    obtain ⟨r2, o2⟩ := occ1 hd
    refine ⟨_, rfl, ⟨_, rfl⟩, _, rfl, _, _, _, r1, rfl, rfl, o1, _, rfl, ⟨_, rfl⟩, _, rfl, _, _, _, r2, rfl, rfl, o2, _, _, rfl, rfl, _, rfl, ?_⟩
    by_cases h : gs.idxOf c < gs.idxOf d
    · rw [if_pos h] at q
      rw [decide_eq_true (by omega)]
      exact iteT q
    · rw [if_neg h] at q
      rw [decide_eq_false (by omega)]
      exact iteF q
abbrev sTW : Stmt := topS 60
theorem scTW : FnScope ["letters", "first", "second", "found", "place", "one", "other"] ["letters", "first", "second"] (defScope sTW) := ⟨rfl, rfl, rfl, by decide +kernel, rfl, by decide +kernel, by decide +kernel⟩
theorem ok_tw {f f1 f2 : Addr} {fd fd1 fd2 : FuncData} (F : Fun K "texts_word" "texts_word" sTW f fd) (c1 : Cl P w K mg base "first_difference" 2 ["first", "second"] spFD f1 fd1) (c2 : Cl P w K mg base "letters_word" 1 ["letters", "one", "other"] spLW f2 fd2) :
    FnOk P w K mg base CX0 3 f fd ["letters", "first", "second"] spTW := by
  refine F.ok scTW (fun vs H Q E h => ?_) (fun cdv A outer s H vs Q E hr h => ?_)
  · obtain ⟨gs, a, b, rfl, _⟩ := h
    rfl
  · obtain ⟨gs, a, b, rfl, ha, hb, ma, mb, q⟩ := h
    refine ⟨_, pss_cons (ps_set (i := 3) scTW.nd rfl (.inl rfl) (pe_cl c1 hr (by decide) (by rfl) (pa_cons (pv 1) (pa_cons (pv 2) pa_nil))))
      (pss_cons (ps_if (pt_cmpR op_isN (pv 3) pe_non (nomark _)) (pss_one (ps_ret pe_str)) pss_nil)
      (pss_cons (ps_asg (pv 3) (pg_tup rfl (pgs_cons (pg_name (i := 4) scTW.nd rfl (.inl rfl)) (pgs_cons (pg_name (i := 5) scTW.nd rfl (.inl rfl)) (pgs_cons (pg_name (i := 6) scTW.nd rfl (.inl rfl)) pgs_nil)))))
      (pss_cons (ps_if (pt_cmpR op_isN (pv 5) pe_non (nomark _)) (pss_one (ps_ret pe_str)) pss_nil)
      (pss_cons (ps_if (pt_cmpR op_isN (pv 6) pe_non (nomark _)) (pss_one (ps_ret pe_str)) pss_nil)
      (pss_one (ps_ret (pe_cl c2 hr (by decide) (by rfl) (pa_cons (pv 0) (pa_cons (pv 5) (pa_cons (pv 6) pa_nil)))))))))), ?_⟩
    unfold cmpW at q
    refine ⟨_, rfl, _, rfl, a, b, rfl, ha, hb, fun h => ?_, fun h H1 p s1 np hp => ?_⟩
    · rw [if_pos h] at q
      refine ⟨_, rfl, rfl, true, rfl, iteT (q _ (Same.refl _))⟩
    · rw [if_neg h] at q
      refine ⟨_, rfl, rfl, false, rfl, iteF ⟨_, rfl, p, _, rfl, .inl (.inl hp), rfl, _, _, rfl, _, _, rfl, _, _, rfl, rfl, ?_⟩⟩
      unfold ltV
      cases h1 : a[cpl a b]? with
      | none =>
        rw [h1] at q
        exact ⟨_, rfl, rfl, true, rfl, iteT (q _ s1)⟩
      | some c =>
        refine ⟨_, rfl, rfl, false, rfl, iteF ?_⟩
        cases h2 : b[cpl a b]? with
        | none =>
          rw [h1, h2] at q
          exact ⟨_, rfl, rfl, true, rfl, iteT (q _ s1)⟩
        | some d =>
          rw [h1, h2] at q
          refine ⟨_, rfl, rfl, false, rfl, iteF ?_⟩
          exact ⟨_, rfl, _, rfl, _, rfl, gs, c, d, rfl, ma c (List.mem_of_getElem? h1), mb d (List.mem_of_getElem? h2), q _ s1⟩
abbrev sDi : Stmt := topS 61
theorem scDi : FnScope ["one", "other", "text"] ["one", "other", "text"] (defScope sDi) := ⟨rfl, rfl, rfl, by decide +kernel, rfl, by decide +kernel, by decide +kernel⟩
theorem ok_di {f fS fLr pLr fF f2 C : Addr} {fd fdS fdLr fdF fd2 : FuncData} (F : Fun K "difference" "difference" sDi f fd) (T : TmC K C) (PLr : PropOf K C "letters" pLr fLr) (GLr : FnOk P w K mg base CX0 1 fLr fdLr ["self"] (spLr C)) (bLr : Binds K fdLr ["self"] [])
    (cS : Cl P w K mg base "check_same_letters" 1 ["letters", "other"] spCS fS fdS) (mF : Meth K C "fill" fF) (GF : FnOk P w K mg base CX0 5 fF fdF ["self", "text"] (spFi C)) (bF : Binds K fdF ["self", "text"] []) (c2 : Cl P w K mg base "first_difference" 2 ["first", "second"] spFD f2 fd2) :
    FnOk P w K mg base CX0 6 f fd ["one", "other", "text"] (spDi C) := by
  refine F.ok scDi (fun vs H Q E h => ?_) (fun cdv A outer s H vs Q E hr h => ?_)
  · obtain ⟨p1, p2, gs, xs, i1, i2, rfl, _⟩ := h
    rfl
  · obtain ⟨p1, p2, gs, xs, i1, i2, rfl, W, hxl, hxm, hl1, hl2, q0, q⟩ := h
    refine ⟨_, pss_cons (ps_expr (pe_cl cS hr (by decide) (by rfl) (pa_cons (pe_prop (pv 0) T.cls PLr GLr (hr.mono (by decide)) bLr .nil pass0 (by rfl)) (pa_cons (pe_prop (pv 1) T.cls PLr GLr (hr.mono (by decide)) bLr .nil pass0 (by rfl)) pa_nil))))
      (pss_one (ps_ret (pe_cl c2 hr (by decide) (by rfl) (pa_cons (pe_meth (pv 0) T.cls mF GF (hr.mono (by decide)) bF .nil pass0 (pa_cons (pv 2) pa_nil)) (pa_cons (pe_meth (pv 1) T.cls mF GF (hr.mono (by decide)) bF .nil pass0 (pa_cons (pv 2) pa_nil)) pa_nil))))), ?_⟩
    obtain ⟨d1, _, a1, _⟩ := id W.t1
    obtain ⟨d2, _, a2, _⟩ := id W.t2
    have hR1 := W.l1
    have hR2 := W.l2
    refine ⟨_, rfl, p1, d1, _, rfl, a1, p1, gs, i1, rfl, W.t1, _, rfl, p2, d2, _, rfl, a2, p2, gs, i2, rfl, W.t2, gs, rfl, ?_⟩
    refine ⟨_, rfl, p1, d1, _, rfl, a1, rfl, _, rfl, p1, gs, i1, xs, rfl, W.t1, W.g1, W.r1, by omega, hxl, hxm, fun H1 s1 => ?_⟩
    refine ⟨_, rfl, p2, d2, _, rfl, s1 _ _ a2, rfl, _, rfl, p2, gs, i2, xs, rfl, W.t2.same s1, W.g2, W.r2, by omega, hxl, hxm, fun H2 s2 => ?_⟩
    exact ⟨_, _, rfl, hl1, hl2, fun e => q0 e _ (s1.trans s2), fun e H3 p s3 np hp => q e _ p ((s1.trans s2).trans s3) (none_of (s1.trans s2) np) hp⟩
abbrev sCm : Stmt := topS 62
theorem scCm : FnScope ["one", "other", "text"] ["one", "other", "text"] (defScope sCm) := ⟨rfl, rfl, rfl, by decide +kernel, rfl, by decide +kernel, by decide +kernel⟩
theorem ok_cm {f fS fLr pLr fF f2 C : Addr} {fd fdS fdLr fdF fd2 : FuncData} (F : Fun K "compared" "compared" sCm f fd) (T : TmC K C) (PLr : PropOf K C "letters" pLr fLr) (GLr : FnOk P w K mg base CX0 1 fLr fdLr ["self"] (spLr C)) (bLr : Binds K fdLr ["self"] [])
    (cS : Cl P w K mg base "check_same_letters" 1 ["letters", "other"] spCS fS fdS) (mF : Meth K C "fill" fF) (GF : FnOk P w K mg base CX0 5 fF fdF ["self", "text"] (spFi C)) (bF : Binds K fdF ["self", "text"] []) (c2 : Cl P w K mg base "texts_word" 3 ["letters", "first", "second"] spTW f2 fd2) :
    FnOk P w K mg base CX0 6 f fd ["one", "other", "text"] (spCm C) := by
  refine F.ok scCm (fun vs H Q E h => ?_) (fun cdv A outer s H vs Q E hr h => ?_)
  · obtain ⟨p1, p2, gs, xs, i1, i2, rfl, _⟩ := h
    rfl
  · obtain ⟨p1, p2, gs, xs, i1, i2, rfl, W, hxl, hxm, hl1, hl2, q⟩ := h
    refine ⟨_, pss_cons (ps_expr (pe_cl cS hr (by decide) (by rfl) (pa_cons (pe_prop (pv 0) T.cls PLr GLr (hr.mono (by decide)) bLr .nil pass0 (by rfl)) (pa_cons (pe_prop (pv 1) T.cls PLr GLr (hr.mono (by decide)) bLr .nil pass0 (by rfl)) pa_nil))))
      (pss_one (ps_ret (pe_cl c2 hr (by decide) (by rfl) (pa_cons (pe_prop (pv 0) T.cls PLr GLr (hr.mono (by decide)) bLr .nil pass0 (by rfl)) (pa_cons (pe_meth (pv 0) T.cls mF GF (hr.mono (by decide)) bF .nil pass0 (pa_cons (pv 2) pa_nil)) (pa_cons (pe_meth (pv 1) T.cls mF GF (hr.mono (by decide)) bF .nil pass0 (pa_cons (pv 2) pa_nil)) pa_nil)))))), ?_⟩
    obtain ⟨d1, _, a1, _⟩ := id W.t1
    obtain ⟨d2, _, a2, _⟩ := id W.t2
    have hR1 := W.l1
    have hR2 := W.l2
    refine ⟨_, rfl, p1, d1, _, rfl, a1, p1, gs, i1, rfl, W.t1, _, rfl, p2, d2, _, rfl, a2, p2, gs, i2, rfl, W.t2, gs, rfl, ?_⟩
    refine ⟨_, rfl, p1, d1, _, rfl, a1, p1, gs, i1, rfl, W.t1, ?_⟩
    refine ⟨_, rfl, p1, d1, _, rfl, a1, rfl, _, rfl, p1, gs, i1, xs, rfl, W.t1, W.g1, W.r1, by omega, hxl, hxm, fun H1 s1 => ?_⟩
    refine ⟨_, rfl, p2, d2, _, rfl, s1 _ _ a2, rfl, _, rfl, p2, gs, i2, xs, rfl, W.t2.same s1, W.g2, W.r2, by omega, hxl, hxm, fun H2 s2 => ?_⟩
    exact ⟨_, _, _, rfl, hl1, hl2, fill_mem W.g1 W.r1 hxm, fill_mem W.g2 W.r2 hxm, fun H3 s3 => q _ ((s1.trans s2).trans s3)⟩
theorem ok_fiX {f f1 C CT : Addr} {fd fd1 : FuncData} (F : Fun K "fill" "Template.fill" sFi f fd) (T : TmC K C)
    (G1 : FnOk P w K mg base (L2.CX P w) 3 f1 fd1 ["letters", "text"] (spCT CT)) (g1 : mg "check_text" = some (.ref f1)) (k1 : PySem.W.keepIn K (.ref f1) = true) (b1 : Binds K fd1 ["letters", "text"] []) :
    FnOk P w K mg base (L2.CX P w) 4 f fd ["self", "text"] (spFiX C CT) := by
  refine F.okX scFi (fun vs H Q E h => ?_) (fun cdv A outer s H vs Q E hr h => ?_)
  · obtain ⟨a, gs, xs, its, i, rfl, _⟩ := h
    rfl
  · obtain ⟨a, gs, xs, its, i, rfl, ⟨dx, p, ha, hp⟩, hb, q⟩ := h
    refine ⟨_, pss_cons (ps_expr (pe_call G1 hr (by rfl) g1 k1 b1 .nil (passes_call (takes_of rfl rfl rfl rfl) (fun _ _ _ _ h => h)) (pa_cons (pe_fld (pv 0) (by rfl)) (pa_cons (pv 1) pa_nil)))) pss_never, ?_⟩
    refine ⟨_, rfl, a, C, dx, _, _, rfl, ha, T.cls, T.na, rfl, _, rfl, gs, xs, rfl, fun hall H' s2 => ?_, fun j c hc hn hall H' d s2 hd => ?_⟩
    · obtain ⟨c, h1, h2, _⟩ := hb
      exact absurd (hall c (List.mem_of_getElem? h1)) h2
    · have e := hb.one ⟨c, hc, hn, hall⟩
      subst e
      exact q _ _ s2 hd
theorem ok_diU {f fS fLr pLr fF f2 C CT : Addr} {fd fdS fdLr fdF fd2 : FuncData} (F : Fun K "difference" "difference" sDi f fd) (T : TmC K C) (PLr : PropOf K C "letters" pLr fLr) (GLr : FnOk P w K mg base CX0 1 fLr fdLr ["self"] (spLr C)) (bLr : Binds K fdLr ["self"] [])
    (cS : Cl P w K mg base "check_same_letters" 1 ["letters", "other"] spCS fS fdS) (mF : Meth K C "fill" fF) (GFX : FnOk P w K mg base (L2.CX P w) 4 fF fdF ["self", "text"] (spFiX C CT)) (bF : Binds K fdF ["self", "text"] []) (c2 : Cl P w K mg base "first_difference" 2 ["first", "second"] spFD f2 fd2) :
    FnOk P w K mg base (L2.CX P w) 5 f fd ["one", "other", "text"] (spDfU C CT) := by
  refine F.okX scDi (fun vs H Q E h => ?_) (fun cdv A outer s H vs Q E hr h => ?_)
  · obtain ⟨p1, p2, gs, xs, i1, i2, i, rfl, _⟩ := h
    rfl
  · obtain ⟨p1, p2, gs, xs, i1, i2, i, rfl, W, hb, q⟩ := h
    refine ⟨_, pss_cons (ps_expr (pe_cl cS hr (by decide) (by rfl) (pa_cons (pe_prop (pv 0) T.cls PLr GLr (hr.mono (by decide)) bLr .nil pass0 (by rfl)) (pa_cons (pe_prop (pv 1) T.cls PLr GLr (hr.mono (by decide)) bLr .nil pass0 (by rfl)) pa_nil))))
      (pss_one (ps_ret (pe_cl c2 hr (by decide) (by rfl) (pa_cons (pe_meth (pv 0) T.cls mF GFX (hr.mono (by decide)) bF .nil (passes_call (takes_of rfl rfl rfl rfl) (fun _ _ _ _ h => h)) (pa_cons (pv 2) pa_nil)) (pa_cons pe_nv pa_nil))))), ?_⟩
    obtain ⟨d1, _, a1, _⟩ := id W.t1
    obtain ⟨d2, _, a2, _⟩ := id W.t2
    refine ⟨_, rfl, p1, d1, _, rfl, a1, p1, gs, i1, rfl, W.t1, _, rfl, p2, d2, _, rfl, a2, p2, gs, i2, rfl, W.t2, gs, rfl, ?_⟩
    exact ⟨_, rfl, p1, d1, _, rfl, a1, rfl, _, rfl, p1, gs, xs, i1, i, rfl, W.t1, hb, q⟩
theorem ok_cmU {f fS fLr pLr fF f2 C CT : Addr} {fd fdS fdLr fdF fd2 : FuncData} (F : Fun K "compared" "compared" sCm f fd) (T : TmC K C) (PLr : PropOf K C "letters" pLr fLr) (GLr : FnOk P w K mg base CX0 1 fLr fdLr ["self"] (spLr C)) (bLr : Binds K fdLr ["self"] [])
    (cS : Cl P w K mg base "check_same_letters" 1 ["letters", "other"] spCS fS fdS) (mF : Meth K C "fill" fF) (GFX : FnOk P w K mg base (L2.CX P w) 4 fF fdF ["self", "text"] (spFiX C CT)) (bF : Binds K fdF ["self", "text"] []) (c2 : Cl P w K mg base "texts_word" 3 ["letters", "first", "second"] spTW f2 fd2) :
    FnOk P w K mg base (L2.CX P w) 5 f fd ["one", "other", "text"] (spDfU C CT) := by
  refine F.okX scCm (fun vs H Q E h => ?_) (fun cdv A outer s H vs Q E hr h => ?_)
  · obtain ⟨p1, p2, gs, xs, i1, i2, i, rfl, _⟩ := h
    rfl
  · obtain ⟨p1, p2, gs, xs, i1, i2, i, rfl, W, hb, q⟩ := h
    refine ⟨_, pss_cons (ps_expr (pe_cl cS hr (by decide) (by rfl) (pa_cons (pe_prop (pv 0) T.cls PLr GLr (hr.mono (by decide)) bLr .nil pass0 (by rfl)) (pa_cons (pe_prop (pv 1) T.cls PLr GLr (hr.mono (by decide)) bLr .nil pass0 (by rfl)) pa_nil))))
      (pss_one (ps_ret (pe_cl c2 hr (by decide) (by rfl) (pa_cons (pe_prop (pv 0) T.cls PLr GLr (hr.mono (by decide)) bLr .nil pass0 (by rfl)) (pa_cons (pe_meth (pv 0) T.cls mF GFX (hr.mono (by decide)) bF .nil (passes_call (takes_of rfl rfl rfl rfl) (fun _ _ _ _ h => h)) (pa_cons (pv 2) pa_nil)) (pa_cons pe_nv pa_nil)))))), ?_⟩
    obtain ⟨d1, _, a1, _⟩ := id W.t1
    obtain ⟨d2, _, a2, _⟩ := id W.t2
    refine ⟨_, rfl, p1, d1, _, rfl, a1, p1, gs, i1, rfl, W.t1, _, rfl, p2, d2, _, rfl, a2, p2, gs, i2, rfl, W.t2, gs, rfl, ?_⟩
    refine ⟨_, rfl, p1, d1, _, rfl, a1, p1, gs, i1, rfl, W.t1, ?_⟩
    exact ⟨_, rfl, p1, d1, _, rfl, a1, rfl, _, rfl, p1, gs, xs, i1, i, rfl, W.t1, hb, q⟩
theorem ok_diL {f fS fLr pLr C CD : Addr} {fd fdS fdLr : FuncData} (F : Fun K "difference" "difference" sDi f fd) (T : TmC K C) (PLr : PropOf K C "letters" pLr fLr) (GLr : FnOk P w K mg base CX0 1 fLr fdLr ["self"] (spLr C)) (bLr : Binds K fdLr ["self"] [])
    (GS : FnOk P w K mg base (L2.CX P w) 3 fS fdS ["letters", "other"] (spCSX CD)) (gS : mg "check_same_letters" = some (.ref fS)) (kS : PySem.W.keepIn K (.ref fS) = true) (bS : Binds K fdS ["letters", "other"] []) :
    FnOk P w K mg base (L2.CX P w) 4 f fd ["one", "other", "text"] (spLD3 C CD) := by
  refine F.okX scDi (fun vs H Q E h => ?_) (fun cdv A outer s H vs Q E hr h => ?_)
  · obtain ⟨p1, p2, y, gs, hs, i1, i2, rfl, _⟩ := h
    rfl
  · obtain ⟨p1, p2, y, gs, hs, i1, i2, rfl, W, ne, q⟩ := h
    refine ⟨_, pss_cons (ps_expr (pe_call GS hr (by rfl) gS kS bS .nil (passes_call (takes_of rfl rfl rfl rfl) (fun _ _ _ _ h => h)) (pa_cons (pe_prop (pv 0) T.cls PLr GLr (hr.mono (by decide)) bLr .nil pass0 (by rfl)) (pa_cons (pe_prop (pv 1) T.cls PLr GLr (hr.mono (by decide)) bLr .nil pass0 (by rfl)) pa_nil)))) pss_never, ?_⟩
    obtain ⟨d1, _, a1, _⟩ := id W.t1
    obtain ⟨d2, _, a2, _⟩ := id W.t2
    exact ⟨_, rfl, p1, d1, _, rfl, a1, p1, gs, i1, rfl, W.t1, _, rfl, p2, d2, _, rfl, a2, p2, hs, i2, rfl, W.t2, gs, hs, rfl, ne, q⟩
theorem ok_cmL {f fS fLr pLr C CD : Addr} {fd fdS fdLr : FuncData} (F : Fun K "compared" "compared" sCm f fd) (T : TmC K C) (PLr : PropOf K C "letters" pLr fLr) (GLr : FnOk P w K mg base CX0 1 fLr fdLr ["self"] (spLr C)) (bLr : Binds K fdLr ["self"] [])
    (GS : FnOk P w K mg base (L2.CX P w) 3 fS fdS ["letters", "other"] (spCSX CD)) (gS : mg "check_same_letters" = some (.ref fS)) (kS : PySem.W.keepIn K (.ref fS) = true) (bS : Binds K fdS ["letters", "other"] []) :
    FnOk P w K mg base (L2.CX P w) 4 f fd ["one", "other", "text"] (spLD3 C CD) := by
  refine F.okX scCm (fun vs H Q E h => ?_) (fun cdv A outer s H vs Q E hr h => ?_)
  · obtain ⟨p1, p2, y, gs, hs, i1, i2, rfl, _⟩ := h
    rfl
  · obtain ⟨p1, p2, y, gs, hs, i1, i2, rfl, W, ne, q⟩ := h
    refine ⟨_, pss_cons (ps_expr (pe_call GS hr (by rfl) gS kS bS .nil (passes_call (takes_of rfl rfl rfl rfl) (fun _ _ _ _ h => h)) (pa_cons (pe_prop (pv 0) T.cls PLr GLr (hr.mono (by decide)) bLr .nil pass0 (by rfl)) (pa_cons (pe_prop (pv 1) T.cls PLr GLr (hr.mono (by decide)) bLr .nil pass0 (by rfl)) pa_nil)))) pss_never, ?_⟩
    obtain ⟨d1, _, a1, _⟩ := id W.t1
    obtain ⟨d2, _, a2, _⟩ := id W.t2
    exact ⟨_, rfl, p1, d1, _, rfl, a1, p1, gs, i1, rfl, W.t1, _, rfl, p2, d2, _, rfl, a2, p2, hs, i2, rfl, W.t2, gs, hs, rfl, ne, q⟩
abbrev sCo : Stmt := topS 75
theorem scCo : FnScope ["one", "other", "letters", "many", "decisions", "rows", "answers", "words"] ["one", "other"] (defScope sCo) := ⟨rfl, rfl, rfl, by decide +kernel, rfl, by decide +kernel, by decide +kernel⟩
theorem ok_coL {f fS fLr pLr C CD : Addr} {fd fdS fdLr : FuncData} (F : Fun K "comparison" "comparison" sCo f fd) (T : TmC K C) (PLr : PropOf K C "letters" pLr fLr) (GLr : FnOk P w K mg base CX0 1 fLr fdLr ["self"] (spLr C)) (bLr : Binds K fdLr ["self"] [])
    (GS : FnOk P w K mg base (L2.CX P w) 3 fS fdS ["letters", "other"] (spCSX CD)) (gS : mg "check_same_letters" = some (.ref fS)) (kS : PySem.W.keepIn K (.ref fS) = true) (bS : Binds K fdS ["letters", "other"] []) :
    FnOk P w K mg base (L2.CX P w) 4 f fd ["one", "other"] (spLD2 C CD) := by
  refine F.okX scCo (fun vs H Q E h => ?_) (fun cdv A outer s H vs Q E hr h => ?_)
  · obtain ⟨p1, p2, gs, hs, i1, i2, rfl, _⟩ := h
    rfl
  · obtain ⟨p1, p2, gs, hs, i1, i2, rfl, W, ne, q⟩ := h
    refine ⟨_, pss_cons (ps_set (i := 2) scCo.nd rfl (.inl rfl) (pe_prop (pv 0) T.cls PLr GLr (hr.mono (by decide)) bLr .nil pass0 (by rfl))) (pss_cons (ps_expr (pe_call GS hr (by rfl) gS kS bS .nil (passes_call (takes_of rfl rfl rfl rfl) (fun _ _ _ _ h => h)) (pa_cons (pv 2) (pa_cons (pe_prop (pv 1) T.cls PLr GLr (hr.mono (by decide)) bLr .nil pass0 (by rfl)) pa_nil)))) pss_never), ?_⟩
    obtain ⟨d1, _, a1, _⟩ := id W.t1
    obtain ⟨d2, _, a2, _⟩ := id W.t2
    exact ⟨_, rfl, p1, d1, _, rfl, a1, p1, gs, i1, rfl, W.t1, _, rfl, _, rfl, p2, d2, _, rfl, a2, p2, hs, i2, rfl, W.t2, gs, hs, rfl, ne, q⟩
abbrev sMp : Stmt := topS 38
theorem scMp : FnScope ["machine", "answers", "told", "old"] ["machine", "answers"] (defScope sMp) := ⟨rfl, rfl, rfl, by decide +kernel, rfl, by decide +kernel, by decide +kernel⟩
theorem ok_mpN {f : Addr} {fd : FuncData} (F : Fun K "mapped" "mapped" sMp f fd) : FnOk P w K mg base CX0 1 f fd ["machine", "answers"] spNo :=
  F.ok scMp (fun vs H Q E h => h.elim) (fun cdv A outer s H vs Q E hr h => h.elim)
abbrev sWt : Stmt := topS 76
theorem scWt : FnScope ["one", "other", "words", "word"] ["one", "other", "words"] (defScope sWt) := ⟨rfl, rfl, rfl, by decide +kernel, rfl, by decide +kernel, by decide +kernel⟩
theorem ok_wtL {f f1 f2 C CD : Addr} {fd fd1 fd2 : FuncData} (F : Fun K "worded_texts" "worded_texts" sWt f fd) (c1 : Cl P w K mg base "mapped" 1 ["machine", "answers"] spNo f1 fd1)
    (G2 : FnOk P w K mg base (L2.CX P w) 4 f2 fd2 ["one", "other"] (spLD2 C CD)) (g2 : mg "comparison" = some (.ref f2)) (k2 : PySem.W.keepIn K (.ref f2) = true) (b2 : Binds K fd2 ["one", "other"] []) :
    FnOk P w K mg base (L2.CX P w) 5 f fd ["one", "other", "words"] (spLD3 C CD) := by
  refine F.okX scWt (fun vs H Q E h => ?_) (fun cdv A outer s H vs Q E hr h => ?_)
  · obtain ⟨p1, p2, y, gs, hs, i1, i2, rfl, _⟩ := h
    rfl
  · obtain ⟨p1, p2, y, gs, hs, i1, i2, rfl, W, ne, q⟩ := h
    refine ⟨_, pss_one (ps_ret (pe_cl c1 hr (by decide) (by rfl) (pa_cons (pe_call G2 hr (by rfl) g2 k2 b2 .nil (passes_call (takes_of rfl rfl rfl rfl) (fun _ _ _ _ h => h)) (pa_cons (pv 0) (pa_cons (pv 1) pa_nil))) (pa_cons pe_nv pa_nil)))), ?_⟩
    exact ⟨_, rfl, _, rfl, p1, p2, gs, hs, i1, i2, rfl, W, ne, q⟩
abbrev sEqT : Stmt := topS 77
theorem scEqT : FnScope ["one", "other"] ["one", "other"] (defScope sEqT) := ⟨rfl, rfl, rfl, by decide +kernel, rfl, by decide +kernel, by decide +kernel⟩
theorem ok_eqL {f f2 C CD : Addr} {fd fd2 : FuncData} (F : Fun K "equal_texts" "equal_texts" sEqT f fd)
    (G2 : FnOk P w K mg base (L2.CX P w) 5 f2 fd2 ["one", "other", "words"] (spLD3 C CD)) (g2 : mg "worded_texts" = some (.ref f2)) (k2 : PySem.W.keepIn K (.ref f2) = true) (b2 : Binds K fd2 ["one", "other", "words"] []) :
    FnOk P w K mg base (L2.CX P w) 6 f fd ["one", "other"] (spLD2 C CD) := by
  refine F.okX scEqT (fun vs H Q E h => ?_) (fun cdv A outer s H vs Q E hr h => ?_)
  · obtain ⟨p1, p2, gs, hs, i1, i2, rfl, _⟩ := h
    rfl
  · obtain ⟨p1, p2, gs, hs, i1, i2, rfl, W, ne, q⟩ := h
    refine ⟨_, pss_one (ps_ret (pe_call G2 hr (by rfl) g2 k2 b2 .nil (passes_call (takes_of rfl rfl rfl rfl) (fun _ _ _ _ h => h)) (pa_cons (pv 0) (pa_cons (pv 1) (pa_cons (pe_tup (pa_cons pe_str pa_nil)) pa_nil))))), ?_⟩
    refine ⟨_, rfl, _, rfl, (by show 1 ≤ sizeLine; decide), fun t nt => ?_⟩
    exact ⟨p1, p2, _, gs, hs, i1, i2, rfl, W.same (same_new nt), ne, fun H' d s2 hd => q _ _ ((same_new nt).trans s2) hd⟩
abbrev sBeT : Stmt := topS 78
theorem scBeT : FnScope ["one", "other"] ["one", "other"] (defScope sBeT) := ⟨rfl, rfl, rfl, by decide +kernel, rfl, by decide +kernel, by decide +kernel⟩
theorem ok_beL {f f2 C CD : Addr} {fd fd2 : FuncData} (F : Fun K "begins_texts" "begins_texts" sBeT f fd)
    (G2 : FnOk P w K mg base (L2.CX P w) 5 f2 fd2 ["one", "other", "words"] (spLD3 C CD)) (g2 : mg "worded_texts" = some (.ref f2)) (k2 : PySem.W.keepIn K (.ref f2) = true) (b2 : Binds K fd2 ["one", "other", "words"] []) :
    FnOk P w K mg base (L2.CX P w) 6 f fd ["one", "other"] (spLD2 C CD) := by
  refine F.okX scBeT (fun vs H Q E h => ?_) (fun cdv A outer s H vs Q E hr h => ?_)
  · obtain ⟨p1, p2, gs, hs, i1, i2, rfl, _⟩ := h
    rfl
  · obtain ⟨p1, p2, gs, hs, i1, i2, rfl, W, ne, q⟩ := h
    refine ⟨_, pss_one (ps_ret (pe_call G2 hr (by rfl) g2 k2 b2 .nil (passes_call (takes_of rfl rfl rfl rfl) (fun _ _ _ _ h => h)) (pa_cons (pv 0) (pa_cons (pv 1) (pa_cons (pe_tup (pa_cons pe_str (pa_cons pe_str pa_nil))) pa_nil))))), ?_⟩
    refine ⟨_, rfl, _, rfl, (by show 2 ≤ sizeLine; decide), fun t nt => ?_⟩
    exact ⟨p1, p2, _, gs, hs, i1, i2, rfl, W.same (same_new nt), ne, fun H' d s2 hd => q _ _ ((same_new nt).trans s2) hd⟩
abbrev sLeT : Stmt := topS 80
theorem scLeT : FnScope ["one", "other"] ["one", "other"] (defScope sLeT) := ⟨rfl, rfl, rfl, by decide +kernel, rfl, by decide +kernel, by decide +kernel⟩
theorem ok_leL {f f2 C CD : Addr} {fd fd2 : FuncData} (F : Fun K "less_texts" "less_texts" sLeT f fd)
    (G2 : FnOk P w K mg base (L2.CX P w) 5 f2 fd2 ["one", "other", "words"] (spLD3 C CD)) (g2 : mg "worded_texts" = some (.ref f2)) (k2 : PySem.W.keepIn K (.ref f2) = true) (b2 : Binds K fd2 ["one", "other", "words"] []) :
    FnOk P w K mg base (L2.CX P w) 6 f fd ["one", "other"] (spLD2 C CD) := by
  refine F.okX scLeT (fun vs H Q E h => ?_) (fun cdv A outer s H vs Q E hr h => ?_)
  · obtain ⟨p1, p2, gs, hs, i1, i2, rfl, _⟩ := h
    rfl
  · obtain ⟨p1, p2, gs, hs, i1, i2, rfl, W, ne, q⟩ := h
    refine ⟨_, pss_one (ps_ret (pe_call G2 hr (by rfl) g2 k2 b2 .nil (passes_call (takes_of rfl rfl rfl rfl) (fun _ _ _ _ h => h)) (pa_cons (pv 0) (pa_cons (pv 1) (pa_cons (pe_tup (pa_cons pe_str (pa_cons pe_str pa_nil))) pa_nil))))), ?_⟩
    refine ⟨_, rfl, _, rfl, (by show 2 ≤ sizeLine; decide), fun t nt => ?_⟩
    exact ⟨p1, p2, _, gs, hs, i1, i2, rfl, W.same (same_new nt), ne, fun H' d s2 hd => q _ _ ((same_new nt).trans s2) hd⟩
abbrev sMir : Stmt := topS 39
abbrev sEnT : Stmt := topS 79
theorem scEnT : FnScope ["one", "other"] ["one", "other"] (defScope sEnT) := ⟨rfl, rfl, rfl, by decide +kernel, rfl, by decide +kernel, by decide +kernel⟩
theorem ok_enL {f f1 f2 fM C CD : Addr} {fd fd1 fd2 fdM : FuncData} (F : Fun K "ends_texts" "ends_texts" sEnT f fd) (T : TmC K C) (c1 : Cl P w K mg base "mirrored" 1 ["machine"] spNo f1 fd1)
    (mM : Meth K C "mirrored" fM) (GM : FnOk P w K mg base CX0 7 fM fdM ["self"] (spMi C)) (bM : Binds K fdM ["self"] [])
    (G2 : FnOk P w K mg base (L2.CX P w) 6 f2 fd2 ["one", "other"] (spLD2 C CD)) (g2 : mg "begins_texts" = some (.ref f2)) (k2 : PySem.W.keepIn K (.ref f2) = true) (b2 : Binds K fd2 ["one", "other"] []) :
    FnOk P w K mg base (L2.CX P w) 8 f fd ["one", "other"] (spLD2 C CD) := by
  refine F.okX scEnT (fun vs H Q E h => ?_) (fun cdv A outer s H vs Q E hr h => ?_)
  · obtain ⟨p1, p2, gs, hs, i1, i2, rfl, _⟩ := h
    rfl
  · obtain ⟨p1, p2, gs, hs, i1, i2, rfl, W, ne, q⟩ := h
    refine ⟨_, pss_one (ps_ret (pe_cl c1 hr (by decide) (by rfl) (pa_cons (pe_call G2 (hr.mono (by decide)) (by rfl) g2 k2 b2 .nil (passes_call (takes_of rfl rfl rfl rfl) (fun _ _ _ _ h => h)) (pa_cons (pe_meth0 (pv 0) T.cls mM GM (hr.mono (by decide)) bM .nil pass0) (pa_cons (pe_meth0 (pv 1) T.cls mM GM (hr.mono (by decide)) bM .nil pass0) pa_nil))) pa_nil))), ?_⟩
    obtain ⟨d1, _, a1, _⟩ := id W.t1
    obtain ⟨d2, _, a2, _⟩ := id W.t2
    have hR1 := W.l1
    have hR2 := W.l2
    refine ⟨_, rfl, p1, d1, _, rfl, a1, rfl, p1, gs, i1, rfl, W.t1, W.g1, W.r1, by omega, fun H1 m1 s1 n1 tm1 => ?_⟩
    refine ⟨_, rfl, p2, d2, _, rfl, s1 _ _ a2, rfl, p2, hs, i2, rfl, W.t2.same s1, W.g2, W.r2, by omega, fun H2 m2 s2 n2 tm2 => ?_⟩
    exact ⟨m1, m2, gs, hs, i1.reverse, i2.reverse, rfl, ⟨tm1.same s2, tm2, W.g1, W.g2, row_rev W.r1, row_rev W.r2, by rw [List.length_reverse]; omega, by rw [List.length_reverse]; omega⟩, ne, fun H' d s3 hd => q _ _ ((s1.trans s2).trans s3) hd⟩
theorem sg_red {σ : L2.St} {H : Hp} {Q : VK} {i k : Nat} {a : List Nat} (h : σ[i]? = some (some (tx (sgL a k)))) (q : Q (ltV a k) H) : tIf (tTest (tOp rNe (tVar i) (tC (V.str (Str.ofString ""))))) (tVar i) (tC V.non) σ H Q := by
  have o0 : Str.ofString "" = S [] := by decide +kernel
  unfold ltV at q
  cases hc : a[k]? with
  | none =>
    rw [hc] at q
    rw [sgL_none hc] at h
    refine ⟨_, h, rfl, false, ?_, iteF q⟩
    rw [o0, decide_eq_true rfl]
    rfl
  | some c =>
    rw [hc] at q
    rw [sgL_some hc] at h
    refine ⟨_, h, rfl, true, ?_, iteT ⟨_, h, q⟩⟩
    rw [o0, decide_eq_false (fun e => by cases S_inj (V.str.inj e))]
    rfl
abbrev sLOr : Stmt := topS 96
theorem scLOr : FnScope ["_law_signs", "_law_mine", "_law_yours", "_law_at", "_law_left", "_law_right"] ["_law_signs", "_law_mine", "_law_yours"] (defScope sLOr) := ⟨rfl, rfl, rfl, by decide +kernel, rfl, by decide +kernel, by decide +kernel⟩
theorem ok_lor {f : Addr} {fd : FuncData} (F : Fun K "_law_order" "_law_order" sLOr f fd) (ml : mg "len" = none) (mr : mg "range" = none) (mx : mg "max" = none) : FnOk P w K mg base CX0 1 f fd ["_law_signs", "_law_mine", "_law_yours"] spLOr := by
  refine F.ok scLOr (fun vs H Q E h => ?_) (fun cdv A outer s H vs Q E hr h => ?_)
  · obtain ⟨z, a, b, rfl, _⟩ := h
    rfl
  · obtain ⟨z, a, b, rfl, ha, hb, q0, q⟩ := h
    refine ⟨_, pss_cons (ps_for PassesOwn.never rfl (pi_range1 rfl mr (pa_cons (pe_callB (call_max2 rfl) (by rfl) mx (by decide +kernel) (pa_cons (pe_callB call_len_str (by rfl) ml PySem.boot_len (pa_cons (pv 1) pa_nil)) (pa_cons (pe_callB call_len_str (by rfl) ml PySem.boot_len (pa_cons (pv 2) pa_nil)) pa_nil))) pa_nil)) (pg_name (i := 3) scLOr.nd rfl (.inl rfl))
        (pss_cons (ps_par (i := 4) (j := 5) (by rfl) scLOr.nd rfl rfl (by decide) rfl rfl (pa_cons (pe_slice C8.sl_txt (pv 1) (po_some (pv 3)) (po_some (pe_op op_add (pv 3) pe_int))) (pa_cons (pe_slice C8.sl_txt (pv 2) (po_some (pv 3)) (po_some (pe_op op_add (pv 3) pe_int))) pa_nil)) (by rfl))
        (pss_one (ps_if (pt_cmpR op_ne (pv 4) (pv 5) (nomark _)) (pss_one (ps_ret (pe_tup (pa_cons (pv 3) (pa_cons (pe_ifExp (pt_cmpR op_ne (pv 4) pe_str (nomark _)) (pv 4) pe_non) (pa_cons (pe_ifExp (pt_cmpR op_ne (pv 5) pe_str (nomark _)) (pv 5) pe_non) pa_nil)))))) pss_nil))))
      (pss_one (ps_ret pe_non)), ?_⟩
    have za : (S a).length ≤ sizeLine := by rw [S_len]; exact small ha
    have zb : (S b).length ≤ sizeLine := by rw [S_len]; exact small hb
    have hle := cpl_le a b
    refine ⟨_, rfl, _, rfl, za, _, rfl, _, rfl, zb, _, _, rfl, ?_⟩
    rw [S_len, S_len]
    have em : (if ((b.length : Nat) : Int) > ((a.length : Nat) : Int) then ((b.length : Nat) : Int) else ((a.length : Nat) : Int)) = ((max a.length b.length : Nat) : Int) := by
      by_cases h : ((b.length : Nat) : Int) > ((a.length : Nat) : Int)
      · rw [if_pos h]
        omega
      · rw [if_neg h]
        omega
    rw [em]
    refine ⟨_, rfl, by omega, by omega, ?_⟩
    refine for_range (lo := 0) (n := (((max a.length b.length : Nat) : Int)).toNat) (fun i σ H' => ∃ v3 v4 v5, σ = [some z, some (tx a), some (tx b), v3, v4, v5] ∧ H' = H ∧ i ≤ cpl a b)
      ⟨none, none, none, rfl, rfl, Nat.zero_le _⟩ ?_ ?_
    · rintro i σ H' hi ⟨v3, v4, v5, rfl, rfl, hic⟩
      rw [Int.toNat_natCast] at hi
      refine ⟨_, rfl, _, rfl, _, rfl, _, rfl, _, _, rfl, rfl, _, rfl, _, rfl, za, _, rfl, _, rfl, _, rfl, _, rfl, _, _, rfl, rfl, _, rfl, _, rfl, zb, _, _, rfl, ?_⟩
      have e1 : Txt.slice (S a) (some (0 + (i : Int))) (some (0 + (i : Int) + 1)) = S (sgL a i) := by
        rw [Int.zero_add]
        exact slice_mid
      have e2 : Txt.slice (S b) (some (0 + (i : Int))) (some (0 + (i : Int) + 1)) = S (sgL b i) := by
        rw [Int.zero_add]
        exact slice_mid
      rw [e1, e2]
      refine ⟨_, rfl, _, rfl, rfl, _, rfl, ?_⟩
      by_cases hlt : i < cpl a b
      · have hab := cpl_one hlt
        have eab : sgL a i = sgL b i := by
          cases hc : a[i]? with
          | none => rw [sgL_none hc, sgL_none (hab.symm.trans hc)]
          | some c => rw [sgL_some hc, sgL_some (hab.symm.trans hc)]
        rw [eab, decide_eq_true rfl]
        exact iteF ⟨_, _, _, rfl, rfl, hlt⟩
      · have ei : i = cpl a b := by omega
        have hne : a ≠ b := fun e => by
          subst e
          have := cpl_max (a := a) (b := a) (Nat.le_refl _) (Nat.le_refl _) rfl
          omega
        subst ei
        have hd := cpl_ne hne
        have hsn : sgL a (cpl a b) ≠ sgL b (cpl a b) := fun e => hd (by
          cases h1 : a[cpl a b]? with
          | none =>
            cases h2 : b[cpl a b]? with
            | none => rfl
            | some d => rw [sgL_none h1, sgL_some h2] at e; cases e
          | some c =>
            cases h2 : b[cpl a b]? with
            | none => rw [sgL_some h1, sgL_none h2] at e; cases e
            | some d => rw [sgL_some h1, sgL_some h2] at e; cases e; rfl)
        rw [decide_eq_false (fun e => hsn (S_inj (V.str.inj e)))]
        refine iteT ⟨_, rfl, ?_⟩
        refine sg_red (a := a) (k := cpl a b) rfl ?_
        refine sg_red (a := b) (k := cpl a b) rfl ?_
        refine ⟨(by show 3 ≤ sizeLine; decide), fun p np => ?_⟩
        refine q hne _ p (same_new np) np ?_
        rw [upd_same, Int.zero_add]
        rfl
    · rintro σ H' ⟨v3, v4, v5, rfl, rfl, hic⟩
      rw [Int.toNat_natCast] at hic
      refine q0 ?_
      have h1 := cpl_take (a := a) (b := b) (Nat.le_refl _)
      rw [List.take_of_length_le (by omega), List.take_of_length_le (by omega)] at h1
      exact h1
abbrev sLCp : Stmt := topS 97
theorem scLCp : FnScope ["_law_signs", "_law_mine", "_law_yours", "_law_found"] ["_law_signs", "_law_mine", "_law_yours"] (defScope sLCp) := ⟨rfl, rfl, rfl, by decide +kernel, rfl, by decide +kernel, by decide +kernel⟩
theorem ok_lcp {f f1 : Addr} {fd fd1 : FuncData} (F : Fun K "_law_compared" "_law_compared" sLCp f fd) (c1 : Cl P w K mg base "_law_order" 1 ["_law_signs", "_law_mine", "_law_yours"] spLOr f1 fd1) :
    FnOk P w K mg base CX0 2 f fd ["_law_signs", "_law_mine", "_law_yours"] spTW := by
  refine F.ok scLCp (fun vs H Q E h => ?_) (fun cdv A outer s H vs Q E hr h => ?_)
  · obtain ⟨gs, a, b, rfl, _⟩ := h
    rfl
  · obtain ⟨gs, a, b, rfl, ha, hb, ma, mb, q⟩ := h
    refine ⟨_, pss_cons (ps_set (i := 3) scLCp.nd rfl (.inl rfl) (pe_cl c1 hr (by decide) (by rfl) (pa_cons (pv 0) (pa_cons (pv 1) (pa_cons (pv 2) pa_nil)))))
      (pss_cons (ps_if (pt_cmpR op_isN (pv 3) pe_non (nomark _)) (pss_one (ps_ret pe_str)) pss_nil)
      (pss_cons (ps_if (pt_cmpR op_isN (pe_ix ix_tup (pv 3) pe_int (fun _ _ => rfl)) pe_non (nomark _)) (pss_one (ps_ret pe_str)) pss_nil)
      (pss_cons (ps_if (pt_cmpR op_isN (pe_ix ix_tup (pv 3) pe_int (fun _ _ => rfl)) pe_non (nomark _)) (pss_one (ps_ret pe_str)) pss_nil)
      (pss_one (ps_ret (pe_ifExp (pt_cmpR op_lt (pe_m1 PySem.F.slot_str_index PySem.F.type_str_index mt_sindex (pv 0) (pe_ix ix_tup (pv 3) pe_int (fun _ _ => rfl))) (pe_m1 PySem.F.slot_str_index PySem.F.type_str_index mt_sindex (pv 0) (pe_ix ix_tup (pv 3) pe_int (fun _ _ => rfl))) (nomark _)) pe_str pe_str)))))), ?_⟩
    unfold cmpW at q
    refine ⟨_, rfl, _, rfl, _, rfl, _, a, b, rfl, ha, hb, fun h => ?_, fun h H1 p s1 np hp => ?_⟩
    · rw [if_pos h] at q
      exact ⟨_, rfl, rfl, true, rfl, iteT (q _ (Same.refl _))⟩
    · rw [if_neg h] at q
      unfold dfV ltV at hp
      refine ⟨_, rfl, rfl, false, rfl, iteF ?_⟩
      cases h1 : a[cpl a b]? with
      | none =>
        rw [h1] at q hp
        exact ⟨_, rfl, p, _, _, _, rfl, rfl, .inl (.inl hp), atI_nat (j := 1) rfl, rfl, true, rfl, iteT (q _ s1)⟩
      | some c =>
        cases h2 : b[cpl a b]? with
        | none =>
          rw [h1, h2] at q hp
          refine ⟨_, rfl, p, _, _, _, rfl, rfl, .inl (.inl hp), atI_nat (j := 1) rfl, rfl, false, rfl, iteF ?_⟩
          exact ⟨_, rfl, p, _, _, _, rfl, rfl, .inl (.inl hp), atI_nat (j := 2) rfl, rfl, true, rfl, iteT (q _ s1)⟩
        | some d =>
          rw [h1, h2] at q hp
          refine ⟨_, rfl, p, _, _, _, rfl, rfl, .inl (.inl hp), atI_nat (j := 1) rfl, rfl, false, rfl, iteF ?_⟩
          refine ⟨_, rfl, p, _, _, _, rfl, rfl, .inl (.inl hp), atI_nat (j := 2) rfl, rfl, false, rfl, iteF ?_⟩
          obtain ⟨r1, o1⟩ := occ1 (ma c (List.mem_of_getElem? h1))
          obtain ⟨r2, o2⟩ := occ1 (mb d (List.mem_of_getElem? h2))
          refine ⟨_, rfl, ⟨_, rfl⟩, _, rfl, p, _, _, _, rfl, rfl, .inl (.inl hp), atI_nat (j := 1) rfl, _, _, _, r1, rfl, rfl, o1, _, rfl, ⟨_, rfl⟩, _, rfl, p, _, _, _, rfl, rfl, .inl (.inl hp), atI_nat (j := 2) rfl, _, _, _, r2, rfl, rfl, o2, _, _, rfl, rfl, _, rfl, ?_⟩
          have q' := q _ s1
          by_cases hlt : gs.idxOf c < gs.idxOf d
          · rw [decide_eq_true (by omega)]
            refine iteT ?_
            simp only [if_pos hlt] at q'
            exact q'
          · rw [decide_eq_false (by omega)]
            refine iteF ?_
            simp only [if_neg hlt] at q'
            exact q'
end
end Own

namespace Own
open PySem PySem.Spec PyProof.Rows L2 SX RZ
section
variable {P : Program} {w : World} {K : PySem.W.Frag} {mg : Str → Option Value} {base : Heap}
abbrev sFc : Stmt := topS 98
abbrev fcN : List Str := ["_law_rng", "_law_signs", "_law_common", "_law_mine", "_law_yours", "_law_run", "_law_my_one", "_law_two", "_law_sign"]
theorem scFc : FnScope fcN ["_law_rng", "_law_signs"] (defScope sFc) := ⟨rfl, rfl, rfl, by decide +kernel, rfl, by decide +kernel, by decide +kernel⟩
theorem ok_fc {f f1 f2 f3 f4 : Addr} {fd fd1 fd2 fd3 fd4 : FuncData} (F : Fun K "_law_facing" "_law_facing" sFc f fd)
    (c1 : Cl P w K mg base "_law_items" 3 ["_law_rng", "_law_signs", "_law_most"] spItems f1 fd1) (c2 : Cl P w K mg base "_law_turn" 2 ["_law_rng", "_law_signs"] spTurn f2 fd2)
    (c3 : Cl P w K mg base "_law_pick" 2 ["_law_rng", "_law_things"] (spPick K) f3 fd3) (c4 : Cl P w K mg base "_law_word" 3 ["_law_rng", "_law_signs", "_law_most"] spWord f4 fd4) :
    FnOk P w K mg base CX0 4 f fd ["_law_rng", "_law_signs"] spFc := by
  refine F.ok scFc (fun vs H Q E h => ?_) (fun cdv A outer s H vs Q E hr h => ?_)
  · obtain ⟨r, gs, rfl, _⟩ := h
    rfl
  · obtain ⟨r, gs, rfl, hg, R, q⟩ := h
    refine ⟨_, pss_cons (ps_set (i := 2) scFc.nd rfl (.inl rfl) (pe_cl c1 hr (by decide) (by rfl) (pa_cons (pv 0) (pa_cons (pv 1) (pa_cons pe_int pa_nil)))))
      (pss_cons (ps_par (i := 3) (j := 4) (by rfl) scFc.nd rfl rfl (by decide) rfl rfl (pa_cons (pe_cl c2 hr (by decide) (by rfl) (pa_cons (pv 0) (pa_cons (pv 1) pa_nil))) (pa_cons (pe_cl c2 hr (by decide) (by rfl) (pa_cons (pv 0) (pa_cons (pv 1) pa_nil))) pa_nil)) (by rfl))
      (pss_cons (ps_set (i := 5) scFc.nd rfl (.inl rfl) (pe_op op_add_str (pe_cl c3 hr (by decide) (by rfl) (pa_cons (pv 0) (pa_cons (pv 1) pa_nil))) (pe_cl c4 hr (by decide) (by rfl) (pa_cons (pv 0) (pa_cons (pv 1) (pa_cons pe_int pa_nil))))))
      (pss_cons (ps_set (i := 6) scFc.nd rfl (.inl rfl) (pe_op op_cat (pe_op op_cat (pv 2) (pe_lst (pa_cons (pv 3) pa_nil))) (pe_cl c1 hr (by decide) (by rfl) (pa_cons (pv 0) (pa_cons (pv 1) (pa_cons pe_int pa_nil))))))
      (pss_cons (ps_set (i := 7) scFc.nd rfl (.inl rfl) (pe_op op_cat (pe_op op_cat (pe_op op_cat (pv 2) (pe_lc (own := [("_law_sign", 8)]) (g := gName 8) (tt := tYes) rfl scFc.nd (pi_str (pv 5))
            (blkOk_by (N := fcN) (sc := defScope sFc) (by decide +kernel)) (fun _ _ _ _ _ => pg_name (i := 8) scFc.nd rfl (Or.inl rfl)) (fun _ _ _ _ _ => pts_nil) (fun _ _ _ _ _ => pv 8)))
          (pe_lst (pa_cons (pv 4) pa_nil))) (pe_cl c1 hr (by decide) (by rfl) (pa_cons (pv 0) (pa_cons (pv 1) (pa_cons pe_int pa_nil))))))
      (pss_one (ps_ret (pe_tup (pa_cons (pv 6) (pa_cons (pv 7) (pa_cons (pv 3) (pa_cons (pv 5) (pa_cons (pv 4) pa_nil)))))))))))), ?_⟩
    have hlo := hg.lo
    have hhi := hg.hi
    refine ⟨_, rfl, _, rfl, r, gs, 2, rfl, hg, by decide, by decide, R, fun H1 cp ci g1 ncp hcp cR cl => ?_⟩
    obtain ⟨xr, er⟩ := R.ex
    have cpr : cp ≠ r := (ne_of_none er ncp).symm
    refine ⟨_, rfl, _, rfl, r, gs, rfl, by omega, g1.rng, fun H2 mt g2 pm => ?_⟩
    refine ⟨_, rfl, _, rfl, r, gs, rfl, by omega, g2.rng, fun H3 yt g3 py => ⟨_, _, rfl, ?_⟩⟩
    refine ⟨_, rfl, _, rfl, r, _, rfl, g3.rng, .inr ⟨gs, rfl, by omega, by omega, fun H4 c g4 hc => ?_⟩⟩
    refine ⟨_, rfl, _, rfl, r, gs, 1, rfl, by omega, by omega, by decide, by decide, g4.rng, fun H5 wd g5 wm wl => ?_⟩
    refine ⟨_, _, rfl, rfl, by rw [S_len, S_len]; exact small (by show 1 + _ ≤ 1000; omega), ?_⟩
    rw [show S [c] ++ S wd = S (c :: wd) from S_cat [c] wd]
    have G5 := (((g1.trans g2).trans g3).trans g4).trans g5
    have hcp5 := g5.1 _ _ cpr (g4.1 _ _ cpr (g3.1 _ _ cpr (g2.1 _ _ cpr hcp)))
    -- my_one
    refine ⟨_, rfl, _, rfl, (by show 1 ≤ sizeLine; decide), fun L1 nL1 => ?_⟩
    have s1 := same_new (o := .lst [tx mt]) nL1
    refine ⟨cp, L1, _, _, rfl, rfl, s1 _ _ hcp5, upd_same, (by rw [List.length_map]; show _ + 1 ≤ sizeLine; exact small (by omega)), fun L2 nL2 => ?_⟩
    have s2 := same_new (o := .lst (ci.map tx ++ [tx mt])) nL2
    have G6 := G5.same (s1.trans s2)
    have hL2 : (upd (upd H5 L1 (.lst [tx mt])) L2 (.lst (ci.map tx ++ [tx mt]))) L2 = some (.lst (ci.map tx ++ [tx mt])) := upd_same
    have hcp6 := (s1.trans s2) _ _ hcp5
    obtain ⟨x6, e6⟩ := (G5.same s1).rng.ex
    have nL2r : L2 ≠ r := (ne_of_none e6 nL2).symm
    generalize (upd (upd H5 L1 (.lst [tx mt])) L2 (.lst (ci.map tx ++ [tx mt]))) = H6 at *
    refine ⟨_, rfl, _, rfl, r, gs, 3, rfl, hg, by decide, by decide, G6.rng, fun H7 p7 i7 g7 n7 hp7 R7 l7 => ?_⟩
    refine ⟨L2, p7, _, _, rfl, rfl, g7.1 _ _ nL2r hL2, hp7, (by rw [List.length_append, List.length_map, List.length_map]; show _ + 1 + _ ≤ sizeLine; exact small (by omega)), fun L8 nL8 => ?_⟩
    have s8 := same_new (o := .lst (ci.map tx ++ [tx mt] ++ i7.map tx)) nL8
    have G7 := G6.trans g7
    have G8 := G7.same s8
    obtain ⟨x7, e7⟩ := G7.rng.ex
    have nL8r : L8 ≠ r := (ne_of_none e7 nL8).symm
    have hL8 : (upd H7 L8 (.lst (ci.map tx ++ [tx mt] ++ i7.map tx))) L8 = some (.lst (ci.map tx ++ [tx mt] ++ i7.map tx)) := upd_same
    have hcp8 := s8 _ _ (g7.1 _ _ cpr hcp6)
    generalize (upd H7 L8 (.lst (ci.map tx ++ [tx mt] ++ i7.map tx))) = H8 at *
    -- two
    refine ⟨_, rfl, _, rfl, _, rfl, fun D nD => ?_⟩
    refine lc_it (walk_str (z := S (c :: wd))) (fun i H' => Same H8 H' ∧ H' D = some (.lst ((oneL ((c :: wd).take i)).map tx))) ⟨same_new nD, upd_same⟩ (fun _ _ _ _ => trivial) ?_ ?_
    · rintro j x H' H'' hj ⟨sa, hD⟩ ⟨rfl, k, hk, rfl⟩
      have hk2 : (c :: wd)[j]? = some k := by rw [← List.getElem?_toArray]; exact hk
      refine ⟨rfl, _, rfl, _, hD, ?_, same_put sa nD, ?_⟩
      · unfold oneL
        rw [List.length_map, List.length_map, List.length_take, List.length_cons]
        exact small1000 (by omega)
      · unfold oneL
        rw [upd_same, List.take_add_one, hk2]
        simp
    rintro H9 ⟨s9, hD⟩
    have ex : (c :: wd).take (S (c :: wd)).cps.size = c :: wd := List.take_of_length_le (Nat.le_of_eq rfl)
    rw [ex] at hD
    have hol : (oneL (c :: wd)).length = wd.length + 1 := List.length_map ..
    refine ⟨cp, D, _, _, rfl, rfl, s9 _ _ hcp8, hD, (by rw [List.length_map, List.length_map, hol]; exact small (by omega)), fun L10 nL10 => ?_⟩
    have s10 := same_new (o := .lst (ci.map tx ++ (oneL (c :: wd)).map tx)) nL10
    refine ⟨_, rfl, (by show 1 ≤ sizeLine; decide), fun L11 nL11 => ?_⟩
    have s11 := same_new (o := .lst [tx yt]) nL11
    refine ⟨L10, L11, _, _, rfl, rfl, s11 _ _ upd_same, upd_same, (by rw [List.length_append, List.length_map, List.length_map, hol]; show _ + 1 ≤ sizeLine; exact small (by omega)), fun L12 nL12 => ?_⟩
    have s12 := same_new (o := .lst (ci.map tx ++ (oneL (c :: wd)).map tx ++ [tx yt])) nL12
    have s912 := (s9.trans s10).trans (s11.trans s12)
    have G12 := G8.same s912
    obtain ⟨x11, e11⟩ := (G8.same ((s9.trans s10).trans s11)).rng.ex
    have nL12r : L12 ≠ r := (ne_of_none e11 nL12).symm
    have hL812 := s912 _ _ hL8
    have hL12 := upd_same (H := upd (upd H9 L10 (.lst (ci.map tx ++ (oneL (c :: wd)).map tx))) L11 (.lst [tx yt])) (a := L12) (o := .lst (ci.map tx ++ (oneL (c :: wd)).map tx ++ [tx yt]))
    generalize (upd (upd (upd H9 L10 (.lst (ci.map tx ++ (oneL (c :: wd)).map tx))) L11 (.lst [tx yt])) L12 (.lst (ci.map tx ++ (oneL (c :: wd)).map tx ++ [tx yt]))) = H12 at *
    refine ⟨_, rfl, _, rfl, r, gs, 3, rfl, hg, by decide, by decide, G12.rng, fun H13 p13 i13 g13 n13 hp13 R13 l13 => ?_⟩
    refine ⟨L12, p13, _, _, rfl, rfl, g13.1 _ _ nL12r hL12, hp13, (by rw [List.length_append, List.length_append, List.length_map, List.length_map, List.length_map, hol]; show _ + 1 + _ ≤ sizeLine; exact small (by omega)), fun L14 nL14 => ?_⟩
    have s14 := same_new (o := .lst (ci.map tx ++ (oneL (c :: wd)).map tx ++ [tx yt] ++ i13.map tx)) nL14
    have G13 := G12.trans g13
    obtain ⟨x13, e13⟩ := G13.rng.ex
    have nL14r : L14 ≠ r := (ne_of_none e13 nL14).symm
    refine ⟨_, rfl, _, rfl, _, rfl, _, rfl, _, rfl, (by show 5 ≤ sizeLine; decide), fun t nt => ?_⟩
    have st := same_new (o := .tup [.ref L8, .ref L14, tx mt, tx (c :: wd), tx yt]) nt
    have cm : ∀ z ∈ c :: wd, z ∈ gs := fun z hz => by
      rcases List.mem_cons.mp hz with rfl | h
      · exact hc
      · exact wm z h
    have one : ∀ {t : List Nat}, t.Perm gs → Row gs [t] := fun p x hx => by rw [List.mem_singleton.mp hx]; exact .inr p
    refine q _ t L8 L14 _ _ _ (ci ++ [mt] ++ i7) (ci ++ oneL (c :: wd) ++ [yt] ++ i13) (G13.same (s14.trans st)) upd_same nL8r nL14r ?_ ?_ ?_ ?_ ?_ ?_
    · refine ((s14.trans st) _ _ (g13.1 _ _ nL8r hL812)).trans ?_
      rw [List.map_append, List.map_append]
      rfl
    · refine (st _ _ upd_same).trans ?_
      rw [List.map_append, List.map_append, List.map_append]
      rfl
    · exact row_app (row_app cR (one pm)) R7
    · exact row_app (row_app (row_app cR (row_one cm)) (one py)) R13
    · rw [List.length_append, List.length_append]
      show _ + 1 + _ ≤ 20
      omega
    · rw [List.length_append, List.length_append, List.length_append, hol]
      show _ + _ + 1 + _ ≤ 20
      omega
end
end Own

namespace Own
open PySem PySem.Spec PyProof.Rows L2 SX
abbrev sLaw : Stmt := topS 99
abbrev lawN : List Str := ["_law_script", "_law_rng", "_law_turn_here", "_law_good", "_law_mine", "_law_yours", "_law_facing_here", "_law_way", "_law_my_one", "_law_two", "_law_shown", "_law_left", "_law_right", "_law_found", "_law_due", "_law_asks", "_law_ask", "_law_odd", "_law_even"]
theorem scLaw : FnScope lawN ["_law_script"] (defScope sLaw) := ⟨rfl, rfl, rfl, by decide +kernel, rfl, by decide +kernel, by decide +kernel⟩
def spLaw (K : PySem.W.Frag) (Pt : Addr) : Sp := fun vs H Q _ => ∃ (a : Addr) (ns : List Int), vs = [.ref a] ∧ SqL K H a (ns.map V.int) ∧ H Pt = some (.tbl #[]) ∧ ∀ H', Q (.bl true) H'
def ex12 {α : Type} : List α → List α → List α
  | [], [a, b, c] => [b, a, c]
  | _, _ => []
theorem ex12_rel {vs : List V} {us : List Value} {zs : List V} {ws : List Value} (r : Vals vs us) (z : Vals zs ws) : Vals (ex12 vs zs) (ex12 us ws) := by
  cases r with
  | cons _ _ => exact .nil
  | nil => match z with
    | .nil => exact .nil
    | .cons _ .nil => exact .nil
    | .cons _ (.cons _ .nil) => exact .nil
    | .cons a (.cons b (.cons c .nil)) => exact .cons b (.cons a (.cons c .nil))
    | .cons _ (.cons _ (.cons _ (.cons _ _))) => exact .nil
/-- what a difference gives -/
def DfA (H : Hp) (v : V) (a b : List Nat) : Prop := (a = b ∧ v = .non) ∨ (a ≠ b ∧ ∃ p, v = .ref p ∧ H p = some (.tup (dfV a b)))
theorem DfA.same {H H' : Hp} {v : V} {a b : List Nat} (h : DfA H v a b) (s : Same H H') : DfA H' v a b := h.imp id fun ⟨h1, p, h2, h3⟩ => ⟨h1, p, h2, s _ _ h3⟩
theorem flat_lt (a : List Nat) (i : Nat) : Flat (ltV a i) := by
  unfold ltV
  split <;> trivial
theorem df_eqd {K : PySem.W.Frag} {H : Hp} {v v' : V} {a b : List Nat} (h : DfA H v a b) (h' : DfA H v' a b) : Eqd K H 3 v v' := by
  rcases h with ⟨h1, rfl⟩ | ⟨h1, p, rfl, hp⟩
  · rcases h' with ⟨_, rfl⟩ | ⟨h2, _⟩
    · exact Eqd.refl trivial
    · exact absurd h1 h2
  · rcases h' with ⟨h2, _⟩ | ⟨_, p', rfl, hp'⟩
    · exact absurd h2 h1
    · refine Eqd.tup (n := 1) hp hp' (by show 3 ≤ 1000; decide) fun x hx => ?_
      unfold dfV at hx
      simp only [List.mem_cons, List.not_mem_nil, or_false] at hx
      rcases hx with rfl | rfl | rfl
      · trivial
      · exact flat_lt _ _
      · exact flat_lt _ _
theorem sm_test {K : PySem.W.Frag} {t1 t2 : TE} {σ : L2.St} {H : Hp} {k : Bool → Hp → Prop} {a b : List Nat} (h1 : ∀ Q : VK, (∀ v H', Same H H' → DfA H' v a b → Q v H') → t1 σ H Q)
    (h2 : ∀ H1, Same H H1 → ∀ Q : VK, (∀ v H', Same H1 H' → DfA H' v a b → Q v H') → t2 σ H1 Q) (q : ∀ H', Same H H' → k false H') : tNot (tB (tCall (spSm K 3) [] E0 (tCons t1 (tCons t2 tNil)))) σ H k :=
  h1 _ fun v H1 s1 d1 => h2 H1 s1 _ fun v' H2 s2 d2 => ⟨v, v', rfl, df_eqd (d1.same s2) d2, fun H3 s3 => ⟨true, rfl, q _ ((s1.trans s2).trans s3)⟩⟩
/-- a list of items as it lies, away from the drawer -/
def ItA (H : Hp) (r p : Addr) (gs : List Nat) (its : List (List Nat)) : Prop := p ≠ r ∧ H p = some (.lst (its.map tx)) ∧ Row gs its ∧ its.length ≤ 20
theorem ItA.same {H H' : Hp} {r p : Addr} {gs : List Nat} {its : List (List Nat)} (h : ItA H r p gs its) (s : Same H H') : ItA H' r p gs its := ⟨h.1, s _ _ h.2.1, h.2.2⟩
theorem ItA.go {H H' : Hp} {r p : Addr} {gs : List Nat} {its : List (List Nat)} (h : ItA H r p gs its) (g : Go r H H') : ItA H' r p gs its := ⟨h.1, g.1 _ _ h.1 h.2.1, h.2.2⟩
theorem yr_red {K : PySem.W.Frag} {σ : L2.St} {H : Hp} {Q : VK} {r p1 p2 : Addr} {gs : List Nat} {i1 i2 : List (List Nat)} {wy : Int} (R : Rng H r) (h4 : σ[4]? = some (some (.ref p1))) (h5 : σ[5]? = some (some (.ref p2))) (h7 : σ[7]? = some (some (.int wy)))
    (I1 : ItA H r p1 gs i1) (I2 : ItA H r p2 gs i2) (l1 : i1.length ≤ 5) (q : ∀ p its H', Same H H' → ItA H' r p gs its → Q (.ref p) H') :
    tIf (tTest (tOp (rI0 fun i j => V.bl (decide (i < j))) (tVar 7) (tC (V.int 2)))) (tVar 5) (tIf (tTest (tOp rEq (tVar 7) (tC (V.int 2)))) (tOp rCat (tVar 4) (L2.tSl (rSlL K) (tVar 5) tNoPart (tPart (tC (V.int 1))))) (tVar 4)) σ H Q := by
  refine ⟨_, h7, _, _, rfl, rfl, _, rfl, ite2 (fun _ => ⟨_, h5, q _ _ _ (Same.refl _) I2⟩) fun _ => ⟨_, h7, rfl, _, rfl, ite2 (fun _ => ?_) fun _ => ⟨_, h4, q _ _ _ (Same.refl _) I1⟩⟩⟩
  refine ⟨_, h4, _, h5, _, rfl, p2, _, rfl, .inl (.inl I2.2.1), fun L nL => ?_⟩
  obtain ⟨js, ej, hj, jl⟩ : ∃ js, cutV (i2.map tx) none (some 1) = js.map tx ∧ Row gs js ∧ js.length ≤ 1 := by
    cases i2 with
    | nil => exact ⟨[], rfl, (fun x hx => nomatch hx), by decide⟩
    | cons y z => exact ⟨[y], by rw [show (some (1 : Int)) = some ((1 : Nat) : Int) from rfl, cut_to (by show 1 ≤ _ + 1; omega)]; rfl, fun x hx => I2.2.2.1 x (by rw [List.mem_singleton.mp hx]; exact List.mem_cons_self ..), Nat.le_refl _⟩
  rw [ej]
  have s1 := same_new (o := .lst (js.map tx)) nL
  refine ⟨p1, L, _, _, rfl, rfl, s1 _ _ I1.2.1, upd_same, (by rw [List.length_map, List.length_map]; exact small (by omega)), fun L2 nL2 => ?_⟩
  have s2 := same_new (o := .lst (i1.map tx ++ js.map tx)) nL2
  obtain ⟨xr, er⟩ := (R.same s1).ex
  refine q _ (i1 ++ js) _ (s1.trans s2) ⟨(ne_of_none er nL2).symm, by rw [upd_same, List.map_append], row_app I1.2.2.1 hj, by rw [List.length_append]; omega⟩
theorem my_red {K : PySem.W.Frag} {σ : L2.St} {H : Hp} {Q : VK} {r p1 p2 f1 f2 t : Addr} {y1 y2 y3 : V} {gs : List Nat} {i1 i2 j1 j2 : List (List Nat)} {wy : Int} (h4 : σ[4]? = some (some (.ref p1))) (h5 : σ[5]? = some (some (.ref p2))) (h6 : σ[6]? = some (some (.ref t))) (h7 : σ[7]? = some (some (.int wy)))
    (I1 : ItA H r p1 gs i1) (I2 : ItA H r p2 gs i2) (ht : H t = some (.tup [.ref f1, .ref f2, y1, y2, y3])) (J1 : ItA H r f1 gs j1) (J2 : ItA H r f2 gs j2)
    (q : ∀ t' p q' is js H', Same H H' → H' t' = some (.tup [.ref p, .ref q']) → ItA H' r p gs is → ItA H' r q' gs js → Q (.ref t') H') :
    tIf (tTest (tOp rEq (tVar 7) (tC (V.int 4)))) (L2.tSl (rSlT K) (tVar 6) tNoPart (tPart (tC (V.int 2)))) (tTup (tCons (tVar 4) (tCons (tVar 5) tNil))) σ H Q := by
  refine ⟨_, h7, rfl, _, rfl, ite2 (fun _ => ?_) fun _ => ?_⟩
  · refine ⟨_, h6, _, rfl, t, _, rfl, .inl (.inl ht), (by show ¬ (HT.sIx 5 0 none = 0 ∧ HT.sIx 5 5 (some 2) = 5); decide +kernel), fun L nL => ?_⟩
    have s1 := same_new (o := .tup [.ref f1, .ref f2]) nL
    exact q _ _ _ _ _ _ s1 upd_same (J1.same s1) (J2.same s1)
  · refine ⟨_, h4, _, h5, (by show 2 ≤ sizeLine; decide), fun L nL => ?_⟩
    have s1 := same_new (o := .tup [.ref p1, .ref p2]) nL
    exact q _ _ _ _ _ _ s1 upd_same (I1.same s1) (I2.same s1)
theorem TwoT.swap {C : Addr} {H : Hp} {p1 p2 : Addr} {gs hs : List Nat} {i1 i2 : List (List Nat)} (t : TwoT C H p1 p2 gs hs i1 i2) : TwoT C H p2 p1 hs gs i2 i1 := ⟨t.t2, t.t1, t.g2, t.g1, t.r2, t.r1, t.l2, t.l1⟩
theorem fl_ld : fldOf "LettersDiffer" = none := by decide +kernel
def ulD (n : Int) : PyData := .list [.tuple [.str (Str.ofString "UnknownLetter"), .int n], .tuple [.str (Str.ofString "UnknownLetter"), .int n]]
theorem ul_sh (n : Int) : SeqAt.shaped (ulD n) = true := by
  unfold ulD SeqAt.shaped
  have b : PyData.canLay0 (.str (Str.ofString "UnknownLetter")) = true := by decide +kernel
  show (((PyData.canLay0 (.str (Str.ofString "UnknownLetter")) && (PyData.canLay0 (.int n) && PyData.canLayAll0 [])) && ((PyData.canLay0 (.str (Str.ofString "UnknownLetter")) && (PyData.canLay0 (.int n) && PyData.canLayAll0 [])) && PyData.canLayAll0 [])) && _) = true
  rw [b]
  rfl
theorem ul_dp {K : PySem.W.Frag} {H : Hp} {D t0 t1 : Addr} {n : Int} (hD : H D = some (.lst [.ref t0, .ref t1])) (h0 : H t0 = some (.tup [.str (Str.ofString "UnknownLetter"), .int n])) (h1 : H t1 = some (.tup [.str (Str.ofString "UnknownLetter"), .int n])) : Dp K H (.ref D) (ulD n) :=
  .lst (.inl (.inl hD)) (.cons (.tup (.inl (.inl h0)) (.cons (.str _) (.cons (.int _) .nil))) (.cons (.tup (.inl (.inl h1)) (.cons (.str _) (.cons (.int _) .nil))) .nil))
/-- one more of the same told: the list of what was told grows -/
theorem fin_all {H0 H' : Hp} {D : Addr} {o : List V} {ts : List Addr} {i : Nat} (sa : Same H0 H') (nD : H0 D = none) (hl : ts.length = i) (hi : i ≤ 100) (hD : H' D = some (.lst (ts.map V.ref))) (ht : ∀ t ∈ ts, H' t = some (.tup o)) :
    ∀ (H2 : Hp) (t : Addr), Same H' H2 → H2 t = none → ∃ acc, (upd H2 t (.tup o)) D = some (.lst acc) ∧ acc.length < sizeLine ∧ (Same H0 (upd (upd H2 t (.tup o)) D (.lst (acc ++ [.ref t]))) ∧
      ∃ ts : List Addr, ts.length = i + 1 ∧ (upd (upd H2 t (.tup o)) D (.lst (acc ++ [.ref t]))) D = some (.lst (ts.map V.ref)) ∧ ∀ u ∈ ts, (upd (upd H2 t (.tup o)) D (.lst (acc ++ [.ref t]))) u = some (.tup o)) := by
  intro H2 t s2 nt
  have s3 := s2.trans (same_new (o := .tup o) nt)
  have hD3 := s3 _ _ hD
  refine ⟨_, hD3, ?_, same_put (sa.trans s3) nD, ts ++ [t], by rw [List.length_append, hl]; rfl, by rw [upd_same, List.map_append]; rfl, fun u hu => ?_⟩
  · rw [List.length_map, hl]
    exact small1000 (by omega)
  · have hu2 : (upd H2 t (.tup o)) u = some (.tup o) := by
      rcases List.mem_append.mp hu with h | h
      · exact s3 _ _ (ht u h)
      · rw [List.mem_singleton.mp h]
        exact upd_same
    rw [upd_ne (ne_of hu2 hD3 fun z => by cases z)]
    exact hu2
def ldD : PyData := .list (List.replicate 7 (.tuple [.str (Str.ofString "LettersDiffer"), .none]))
theorem ld_sh : SeqAt.shaped ldD = true := by decide +kernel
theorem kb_di {K : PySem.W.Frag} {f : Addr} {fd : FuncData} (F : Fun K "difference" "difference" sDi f fd) : KBinds K fd ["one", "other", "text"] ["text", "other", "one"] rev3 rev3 := by
  refine ⟨fun s us ws _ hl => ?_, fun r z => rev3_rel r z⟩
  obtain ⟨_, _, _, _, _, _, _, _, _, rfl, _⟩ := F.ex
  match us, ws, hl with
  | [], [a, b, c], _ => exact .of_eq rfl
theorem kb_cm {K : PySem.W.Frag} {f : Addr} {fd : FuncData} (F : Fun K "compared" "compared" sCm f fd) : KBinds K fd ["one", "other", "text"] ["other", "one", "text"] ex12 ex12 := by
  refine ⟨fun s us ws _ hl => ?_, fun r z => ex12_rel r z⟩
  obtain ⟨_, _, _, _, _, _, _, _, _, rfl, _⟩ := F.ex
  match us, ws, hl with
  | [], [a, b, c], _ => exact .of_eq rfl

section
variable {P : Program} {w : World} {K : PySem.W.Frag} {mg : Str → Option Value} {base : Heap}
variable {f1 f2 f3 f4 f5 f6 f7 f8 f9 f10 f11 f12 f13 f14 f15 f16 f17 f18 fI fP fY CF CM CT CD C c Pt : Addr} {fd1 fd2 fd3 fd4 fd5 fd6 fd7 fd8 fd9 fd10 fd11 fd12 fd13 fd14 fd15 fd16 fd17 fd18 fdI fdP fdY : FuncData}
theorem ok_law {f : Addr} {kV doc pm ct oc : Value} {an od : Option Addr} {osl : Array (Option Value)}
    (lk : K.lookup f = some ⟨oc, od, .func (PySem.W.fnOf "law" "law" (defArgs sLaw) (defBody sLaw) (defScope sLaw) .none kV doc pm an (.ref c) ct), osl⟩) (hcd : PySem.W.codeIn K (.ref c) "law" = true)
    (TB : LamX.TabB base mg c Pt)
    (mr : mg "range" = none) (ml : mg "len" = none) (T : TmC K C) (gC : mg "Template" = some (.ref C)) (M : Mk K C fI) (GI : FnOk P w K mg base CX0 4 fI fdI ["self", "letters", "text"] (spTi C)) (bI : Binds K fdI ["self", "letters", "text"] [])
    (cDs : Cl P w K mg base "_law_draws" 1 ["_law_script"] (spDraws K) f1 fd1)
    (cLt : Cl P w K mg base "_law_letters" 3 ["_law_rng", "_law_most"] spLetters f2 fd2)
    (cDr : Cl P w K mg base "_law_draw" 1 ["_law_rng", "_law_sides"] spDraw f3 fd3)
    (cIt : Cl P w K mg base "_law_items" 3 ["_law_rng", "_law_signs", "_law_most"] spItems f4 fd4)
    (cFc : Cl P w K mg base "_law_facing" 4 ["_law_rng", "_law_signs"] spFc f5 fd5)
    (cTm : Cl P w K mg base "_law_template" 6 ["_law_signs", "_law_items_here"] (spLt K C) f6 fd6)
    (cWd : Cl P w K mg base "_law_word" 3 ["_law_rng", "_law_signs", "_law_most"] spWord f7 fd7)
    (cLf : Cl P w K mg base "_law_fill" 2 ["_law_signs", "_law_items_here", "_law_shown"] (spLf K) f8 fd8)
    (cSm : Cl P w K mg base "_law_same" 3 ["_law_found", "_law_due"] (spSm K 3) f9 fd9)
    (cDi : Cl P w K mg base "difference" 6 ["one", "other", "text"] (spDi C) f10 fd10) (kDi : KBinds K fd10 ["one", "other", "text"] ["text", "other", "one"] rev3 rev3)
    (cOr : Cl P w K mg base "_law_order" 1 ["_law_signs", "_law_mine", "_law_yours"] spLOr f11 fd11)
    (cCm : Cl P w K mg base "compared" 6 ["one", "other", "text"] (spCm C) f12 fd12) (kCm : KBinds K fd12 ["one", "other", "text"] ["other", "one", "text"] ex12 ex12)
    (cCp : Cl P w K mg base "_law_compared" 2 ["_law_signs", "_law_mine", "_law_yours"] spTW f13 fd13)
    (GDU : FnOk P w K mg base (L2.CX P w) 5 f10 fd10 ["one", "other", "text"] (spDfU C CT)) (GCU : FnOk P w K mg base (L2.CX P w) 5 f12 fd12 ["one", "other", "text"] (spDfU C CT))
    (GDL : FnOk P w K mg base (L2.CX P w) 4 f10 fd10 ["one", "other", "text"] (spLD3 C CD)) (GCL : FnOk P w K mg base (L2.CX P w) 4 f12 fd12 ["one", "other", "text"] (spLD3 C CD))
    (GCo : FnOk P w K mg base (L2.CX P w) 4 f14 fd14 ["one", "other"] (spLD2 C CD)) (gCo : mg "comparison" = some (.ref f14)) (kCo : PySem.W.keepIn K (.ref f14) = true) (bCo : Binds K fd14 ["one", "other"] [])
    (GEq : FnOk P w K mg base (L2.CX P w) 6 f15 fd15 ["one", "other"] (spLD2 C CD)) (gEq : mg "equal_texts" = some (.ref f15)) (kEq : PySem.W.keepIn K (.ref f15) = true) (bEq : Binds K fd15 ["one", "other"] [])
    (GBe : FnOk P w K mg base (L2.CX P w) 6 f16 fd16 ["one", "other"] (spLD2 C CD)) (gBe : mg "begins_texts" = some (.ref f16)) (kBe : PySem.W.keepIn K (.ref f16) = true) (bBe : Binds K fd16 ["one", "other"] [])
    (GEn : FnOk P w K mg base (L2.CX P w) 8 f17 fd17 ["one", "other"] (spLD2 C CD)) (gEn : mg "ends_texts" = some (.ref f17)) (kEn : PySem.W.keepIn K (.ref f17) = true) (bEn : Binds K fd17 ["one", "other"] [])
    (GLe : FnOk P w K mg base (L2.CX P w) 6 f18 fd18 ["one", "other"] (spLD2 C CD)) (gLe : mg "less_texts" = some (.ref f18)) (kLe : PySem.W.keepIn K (.ref f18) = true) (bLe : Binds K fd18 ["one", "other"] [])
    (mF : mg "FillError" = some (.ref CF)) (mM : mg "Missing" = some (.ref CM))
    (FP : FnP P w K mg base 1 fP fdP ["_law_e"] (spFldN K)) (gP : mg "_law_field" = some (.ref fP)) (kP : PySem.W.keepIn K (.ref fP) = true) (bP : Binds K fdP ["_law_e"] [])
    (FY : Fun K "_law_try" "_law_try" sTry fY fdY) (gY : mg "_law_try" = some (.ref fY)) (bY : Binds K fdY ["_law_ask"] [])
    (ET : ErrC K mg "UnknownLetter" CT) (xT : PySem.W.exmAny K (.ref CT) [.ref CF, .ref CM] = some true) (ED : ErrC K mg "LettersDiffer" CD) (xD : PySem.W.exmAny K (.ref CD) [.ref CF, .ref CM] = some true) :
    FnOk P w K mg base CX0 11 f (PySem.W.fnOf "law" "law" (defArgs sLaw) (defBody sLaw) (defScope sLaw) .none kV doc pm an (.ref c) ct) ["_law_script"] (spLaw K Pt) := by
  obtain ⟨ocY, odY, kVY, docY, pmY, anY, cdY, ctY, oslY, rfl, lkY, hcY⟩ := FY.ex
  refine fn_of lk hcd scLaw (fun vs H Q E h => ?_) (fun A outer s H vs Q E hr h => ?_)
  · obtain ⟨a, ns, rfl, _⟩ := h
    rfl
  · obtain ⟨a, ns, rfl, hS, hPt, q⟩ := h
    refine ⟨_, pss_cons (ps_set (i := 1) scLaw.nd rfl (by first | exact .inl rfl | exact .inr rfl) (pe_cl cDs hr (by decide) (by rfl) (pa_cons (pv 0) pa_nil)))
      (pss_cons (ps_for (passes_of rfl) rfl (pi_range1 rfl mr (pa_cons pe_int pa_nil)) (pg_name (i := 2) scLaw.nd rfl (.inl rfl))
        (pss_cons (ps_set (i := 3) scLaw.nd rfl (by first | exact .inl rfl | exact .inr rfl) (pe_cl cLt hr (by decide) (by rfl) (pa_cons (pv 1) (pa_cons pe_int pa_nil))))
        (pss_cons (ps_par (i := 4) (j := 5) (by rfl) scLaw.nd rfl rfl (by decide) rfl rfl (pa_cons (pe_cl cIt hr (by decide) (by rfl) (pa_cons (pv 1) (pa_cons (pv 3) (pa_cons pe_int pa_nil)))) (pa_cons (pe_cl cIt hr (by decide) (by rfl) (pa_cons (pv 1) (pa_cons (pv 3) (pa_cons pe_int pa_nil)))) pa_nil)) (by rfl))
        (pss_cons (ps_set (i := 6) scLaw.nd rfl (by first | exact .inl rfl | exact .inr rfl) (pe_cl cFc hr (by decide) (by rfl) (pa_cons (pv 1) (pa_cons (pv 3) pa_nil))))
        (pss_cons (ps_set (i := 7) scLaw.nd rfl (by first | exact .inl rfl | exact .inr rfl) (pe_cl cDr hr (by decide) (by rfl) (pa_cons (pv 1) (pa_cons pe_int pa_nil))))
        (pss_cons (ps_set (i := 5) scLaw.nd rfl (by first | exact .inl rfl | exact .inr rfl) (pe_ifExp (pt_cmpR op_lt (pv 7) pe_int (nomark _)) (pv 5) (pe_ifExp (pt_cmpR op_eq (pv 7) pe_int (nomark _)) (pe_op op_cat (pv 4) (pe_slice sl_list (pv 5) po_none (po_some pe_int))) (pv 4))))
        (pss_cons (ps_asg (pe_ifExp (pt_cmpR op_eq (pv 7) pe_int (nomark _)) (pe_slice sl_tup (pv 6) po_none (po_some pe_int)) (pe_tup (pa_cons (pv 4) (pa_cons (pv 5) pa_nil)))) (pg_tup rfl (pgs_cons (pg_name (i := 4) scLaw.nd rfl (by first | exact .inl rfl | exact .inr rfl)) (pgs_cons (pg_name (i := 5) scLaw.nd rfl (by first | exact .inl rfl | exact .inr rfl)) pgs_nil))))
        (pss_cons (ps_asg (pe_tup (pa_cons (pe_cl cTm hr (by decide) (by rfl) (pa_cons (pv 3) (pa_cons (pv 4) pa_nil))) (pa_cons (pe_cl cTm hr (by decide) (by rfl) (pa_cons (pv 3) (pa_cons (pv 5) pa_nil))) pa_nil))) (pg_tup rfl (pgs_cons (pg_name (i := 8) scLaw.nd rfl (by first | exact .inl rfl | exact .inr rfl)) (pgs_cons (pg_name (i := 9) scLaw.nd rfl (by first | exact .inl rfl | exact .inr rfl)) pgs_nil))))
        (pss_cons (ps_set (i := 10) scLaw.nd rfl (by first | exact .inl rfl | exact .inr rfl) (pe_cl cWd hr (by decide) (by rfl) (pa_cons (pv 1) (pa_cons (pv 3) (pa_cons pe_int pa_nil)))))
        (pss_cons (ps_par (i := 11) (j := 12) (by rfl) scLaw.nd rfl rfl (by decide) rfl rfl (pa_cons (pe_cl cLf hr (by decide) (by rfl) (pa_cons (pv 3) (pa_cons (pv 4) (pa_cons (pv 10) pa_nil)))) (pa_cons (pe_cl cLf hr (by decide) (by rfl) (pa_cons (pv 3) (pa_cons (pv 5) (pa_cons (pv 10) pa_nil)))) pa_nil)) (by rfl))
        (pss_cons (ps_if (pt_not (pt_val (pe_cl cSm hr (by decide) (by rfl) (pa_cons (pe_cl cDi hr (by decide) (by rfl) (pa_cons (pv 8) (pa_cons (pv 9) (pa_cons (pv 10) pa_nil)))) (pa_cons (pe_cl cOr hr (by decide) (by rfl) (pa_cons (pv 3) (pa_cons (pv 11) (pa_cons (pv 12) pa_nil)))) pa_nil))))) pss_never pss_nil)
        (pss_cons (ps_if (pt_not (pt_val (pe_cl cSm hr (by decide) (by rfl) (pa_cons (pe_kw cDi hr (by decide) (by rfl) kDi (pk_cons (pv 10) (pk_cons (pv 8) (pk_cons (pv 9) pk_nil)))) (pa_cons (pe_cl cOr hr (by decide) (by rfl) (pa_cons (pv 3) (pa_cons (pv 12) (pa_cons (pv 11) pa_nil)))) pa_nil))))) pss_never pss_nil)
        (pss_cons (ps_set (i := 13) scLaw.nd rfl (by first | exact .inl rfl | exact .inr rfl) (pe_lst (pa_cons (pe_cl cCm hr (by decide) (by rfl) (pa_cons (pv 8) (pa_cons (pv 9) (pa_cons (pv 10) pa_nil)))) (pa_cons (pe_kw cCm hr (by decide) (by rfl) kCm (pk_cons (pv 8) (pk_cons (pv 9) (pk_cons (pv 10) pk_nil)))) pa_nil))))
        (pss_cons (ps_if (pt_not (pt_val (pe_cl cSm hr (by decide) (by rfl) (pa_cons (pv 13) (pa_cons (pe_lst (pa_cons (pe_cl cCp hr (by decide) (by rfl) (pa_cons (pv 3) (pa_cons (pv 11) (pa_cons (pv 12) pa_nil)))) (pa_cons (pe_cl cCp hr (by decide) (by rfl) (pa_cons (pv 3) (pa_cons (pv 12) (pa_cons (pv 11) pa_nil)))) pa_nil))) pa_nil))))) pss_never pss_nil)
        (pss_cons (ps_set (i := 14) scLaw.nd rfl (by first | exact .inl rfl | exact .inr rfl) (pe_tup (pa_cons pe_str (pa_cons (pe_callB call_len_str (by rfl) ml PySem.boot_len (pa_cons (pv 10) pa_nil)) pa_nil))))
        (pss_cons (ps_set (i := 15) scLaw.nd rfl (by first | exact .inl rfl | exact .inr rfl) (pe_lst (pa_cons (pe_lamV (T := [(Pt, (envOfC "law" (defScope sLaw) 0 f (.ref c)).qual ++ "<lambda>")]) TB rfl (List.Mem.head _) (fun p hp _ => by rw [List.mem_singleton.mp hp]; rfl) (LamN.free (lamN_by (by show lamNB lawN (defScope sLaw) _ = true; decide +kernel))) rfl) (pa_cons (pe_lamD (T := [(Pt, (envOfC "law" (defScope sLaw) 0 f (.ref c)).qual ++ "<lambda>")]) TB rfl (List.Mem.head _) (fun p hp _ => by rw [List.mem_singleton.mp hp]; rfl) (LamN.free (lamN_by (by show lamNB lawN (defScope sLaw) _ = true; decide +kernel))) pe_int) pa_nil))))
        (pss_one (ps_if (pt_cmpR (op_neD hr.units) (pe_lcW (own := [("_law_ask", 16)]) (g := gName 16) rfl scLaw.nd (pi_list (pv 15)) (blkOk_by (N := lawN) (sc := defScope sLaw) (by decide +kernel)) (fun _ _ _ _ _ => pg_name (i := 16) scLaw.nd rfl (Or.inl rfl)) (runs_try (TT := TryN K CF CM) (k := 8) (i := 16) (fun _ _ _ _ _ => by rfl) gY FY.kp (fun _ _ _ _ _ => pv 16) lkY hcY bY scTry rfl (Or.inl rfl) (try_gives mF mM FP gP kP bP (hr.mono (by decide))) hr)) (pe_lst (pa_cons (pv 14) (pa_cons (pv 14) pa_nil))) (nomark _)) pss_never pss_nil))))))))))))))))))
      (pss_cons (ps_set (i := 17) scLaw.nd rfl (by first | exact .inl rfl | exact .inr rfl) (pe_make M GI (hr.mono (by decide)) (by rfl) gC bI .nil pass0 (pa_cons pe_str (pa_cons pe_str pa_nil))))
        (pss_cons (ps_set (i := 18) scLaw.nd rfl (by first | exact .inl rfl | exact .inr rfl) (pe_make M GI (hr.mono (by decide)) (by rfl) gC bI .nil pass0 (pa_cons pe_str (pa_cons pe_str pa_nil))))
        (pss_cons (ps_set (i := 15) scLaw.nd rfl (by first | exact .inl rfl | exact .inr rfl) (pe_lst (pa_cons (pe_lamV (T := [(Pt, (envOfC "law" (defScope sLaw) 0 f (.ref c)).qual ++ "<lambda>")]) TB rfl (List.Mem.head _) (fun p hp _ => by rw [List.mem_singleton.mp hp]; rfl) (LamN.free (lamN_by (by show lamNB lawN (defScope sLaw) _ = true; decide +kernel))) rfl) (pa_cons (pe_lamD (T := [(Pt, (envOfC "law" (defScope sLaw) 0 f (.ref c)).qual ++ "<lambda>")]) TB rfl (List.Mem.head _) (fun p hp _ => by rw [List.mem_singleton.mp hp]; rfl) (LamN.free (lamN_by (by show lamNB lawN (defScope sLaw) _ = true; decide +kernel))) pe_int) (pa_cons (pe_lamD (T := [(Pt, (envOfC "law" (defScope sLaw) 0 f (.ref c)).qual ++ "<lambda>")]) TB rfl (List.Mem.head _) (fun p hp _ => by rw [List.mem_singleton.mp hp]; rfl) (LamN.free (lamN_by (by show lamNB lawN (defScope sLaw) _ = true; decide +kernel))) pe_int) pa_nil)))))
        (pss_cons (ps_set (i := 15) scLaw.nd rfl (by first | exact .inl rfl | exact .inr rfl) (pe_op op_cat (pv 15) (pe_lst (pa_cons (pe_lamV (T := [(Pt, (envOfC "law" (defScope sLaw) 0 f (.ref c)).qual ++ "<lambda>")]) TB rfl (List.Mem.head _) (fun p hp _ => by rw [List.mem_singleton.mp hp]; rfl) (LamN.free (lamN_by (by show lamNB lawN (defScope sLaw) _ = true; decide +kernel))) rfl) (pa_cons (pe_lamD (T := [(Pt, (envOfC "law" (defScope sLaw) 0 f (.ref c)).qual ++ "<lambda>")]) TB rfl (List.Mem.head _) (fun p hp _ => by rw [List.mem_singleton.mp hp]; rfl) (LamN.free (lamN_by (by show lamNB lawN (defScope sLaw) _ = true; decide +kernel))) pe_int) pa_nil)))))
        (pss_cons (ps_set (i := 15) scLaw.nd rfl (by first | exact .inl rfl | exact .inr rfl) (pe_op op_cat (pv 15) (pe_lst (pa_cons (pe_lamV (T := [(Pt, (envOfC "law" (defScope sLaw) 0 f (.ref c)).qual ++ "<lambda>")]) TB rfl (List.Mem.head _) (fun p hp _ => by rw [List.mem_singleton.mp hp]; rfl) (LamN.free (lamN_by (by show lamNB lawN (defScope sLaw) _ = true; decide +kernel))) rfl) (pa_cons (pe_lamD (T := [(Pt, (envOfC "law" (defScope sLaw) 0 f (.ref c)).qual ++ "<lambda>")]) TB rfl (List.Mem.head _) (fun p hp _ => by rw [List.mem_singleton.mp hp]; rfl) (LamN.free (lamN_by (by show lamNB lawN (defScope sLaw) _ = true; decide +kernel))) pe_int) pa_nil)))))
        (pss_one (ps_ret (pe_cmpR (op_eqD hr.units) (pe_lcW (own := [("_law_ask", 16)]) (g := gName 16) rfl scLaw.nd (pi_list (pv 15)) (blkOk_by (N := lawN) (sc := defScope sLaw) (by decide +kernel)) (fun _ _ _ _ _ => pg_name (i := 16) scLaw.nd rfl (Or.inl rfl)) (runs_try (TT := TryN K CF CM) (k := 8) (i := 16) (fun _ _ _ _ _ => by rfl) gY FY.kp (fun _ _ _ _ _ => pv 16) lkY hcY bY scTry rfl (Or.inl rfl) (try_gives mF mM FP gP kP bP (hr.mono (by decide))) hr)) (pe_op op_rep (pe_lst (pa_cons (pe_tup (pa_cons pe_str (pa_cons pe_non pa_nil))) pa_nil)) pe_int) (nomark _)))))))))), ?_⟩
    refine ⟨_, rfl, a, ns, rfl, hS, fun H1 r s1 nr R => ?_⟩
    have k1 : Keep [(Pt, (envOfC "law" (defScope sLaw) 0 f (.ref c)).qual ++ "<lambda>")] r H1 := ⟨R, fun p hp => by
      rw [List.mem_singleton.mp hp]
      exact LamX.TabS.nil (s1 _ _ hPt)⟩
    have oex : Str.ofString "!" = S [33] := by decide +kernel
    refine ⟨6, rfl, by decide, by decide, ?_⟩
    refine for_range (lo := 0) (n := (6 : Int).toNat)
      (fun i σ H' => ∃ v2 v3 v4 v5 v6 v7 v8 v9 v10 v11 v12 v13 v14 v15 v16 v17 v18, σ = [some (.ref a), some (.ref r), v2, v3, v4, v5, v6, v7, v8, v9, v10, v11, v12, v13, v14, v15, v16, v17, v18] ∧ Keep [(Pt, (envOfC "law" (defScope sLaw) 0 f (.ref c)).qual ++ "<lambda>")] r H')
      ⟨none, none, none, none, none, none, none, none, none, none, none, none, none, none, none, none, none, rfl, k1⟩ ?_ ?_
    · rintro i σ H2 hi ⟨v2, v3, v4, v5, v6, v7, v8, v9, v10, v11, v12, v13, v14, v15, v16, v17, v18, rfl, k2⟩
      refine ⟨_, rfl, r, 4, rfl, by decide, k2.rng, fun H3 gs g3 hg _ => ?_⟩
      have k3 := k2.go g3
      have hlo := hg.lo
      have hhi := hg.hi
      obtain ⟨xr3, er3⟩ := k3.rng.ex
      refine ⟨_, rfl, _, rfl, r, gs, 5, rfl, hg, by decide, by decide, k3.rng, fun H4 p1 i1 g4 n1 hp1 R1 l1 => ?_⟩
      have k4 := k3.go g4
      have I1 : ItA H4 r p1 gs i1 := ⟨(ne_of_none er3 n1).symm, hp1, R1, by omega⟩
      obtain ⟨xr4, er4⟩ := k4.rng.ex
      refine ⟨_, rfl, _, rfl, r, gs, 5, rfl, hg, by decide, by decide, k4.rng, fun H5 p2 i2 g5 n2 hp2 R2 l2 => ⟨_, _, rfl, ?_⟩⟩
      have k5 := k4.go g5
      have I2 : ItA H5 r p2 gs i2 := ⟨(ne_of_none er4 n2).symm, hp2, R2, by omega⟩
      refine ⟨_, rfl, _, rfl, r, gs, rfl, hg, k5.rng, fun H6 t6 f1 f2' y1 y2 y3 j1 j2 g6 ht6 nf1 nf2 hf1 hf2 J1 J2 jl1 jl2 => ?_⟩
      have k6 := k5.go g6
      refine ⟨_, rfl, r, 5, rfl, by decide, by decide, k6.rng, fun H7 wy g7 w0 w1 => ?_⟩
      have k7 := k6.go g7
      dsimp only [gName, tSeq, tAsg, List.set_cons_zero, List.set_cons_succ]
      have I1' := (I1.go g5).go (g6.trans g7)
      have I2' := I2.go (g6.trans g7)
      refine yr_red k7.rng rfl rfl rfl I1' I2' (by omega) fun p3 i3 H8 s8 I3 => ?_
      have k8 := k7.same s8
      obtain ⟨x6, ex6⟩ := k6.rng.ex
      have t6r : t6 ≠ r := fun e => by
        have R6 := k6.rng
        obtain ⟨l, ns', ii, b, z, cc, R6⟩ := R6
        rw [e, R6.2.1] at ht6
        cases ht6
      have ht8 := s8 _ _ (g7.1 _ _ t6r ht6)
      have F1 : ItA H8 r f1 gs j1 := (ItA.go (H := H6) ⟨nf1, hf1, J1, jl1⟩ g7).same s8
      have F2 : ItA H8 r f2' gs j2 := (ItA.go (H := H6) ⟨nf2, hf2, J2, jl2⟩ g7).same s8
      refine my_red rfl rfl rfl rfl (I1'.same s8) I3 ht8 F1 F2 fun t9 q1 q2 e1 e2 H9 s9 ht9 E1 E2 => ?_
      have k9 := k8.same s9
      refine ⟨t9, _, rfl, .inl (.inl ht9), rfl, _, _, rfl, _, _, rfl, rfl, ?_⟩
      have le1 := E1.2.2.2
      have le2 := E2.2.2.2
      -- my_one, two
      refine ⟨_, rfl, _, rfl, gs, q1, e1, rfl, hg, E1.2.2.1, by omega, .inl (.inl E1.2.1), fun H10 m1 s10 nm1 tm1 => ?_⟩
      have E2' := E2.same s10
      refine ⟨_, rfl, _, rfl, gs, q2, e2, rfl, hg, E2.2.2.1, by omega, .inl (.inl E2'.2.1), fun H11 m2 s11 nm2 tm2 => ?_⟩
      refine ⟨(by show 2 ≤ sizeLine; decide), fun t12 nt12 => ⟨t12, _, rfl, .inl (.inl upd_same), rfl, _, _, rfl, _, _, rfl, rfl, ?_⟩⟩
      have s12 := same_new (o := .tup [.ref m1, .ref m2]) nt12
      have s9_12 := (s10.trans s11).trans s12
      have k12 := k9.same s9_12
      have W12 : TwoT C _ m1 m2 gs gs e1 e2 := ⟨(tm1.same s11).same s12, tm2.same s12, hg, hg, E1.2.2.1, E2.2.2.1, by omega, by omega⟩
      have E1c := E1.same s9_12
      have E2c := E2.same s9_12
      generalize (upd H11 t12 (.tup [.ref m1, .ref m2])) = H12 at *
      -- shown
      refine ⟨_, rfl, _, rfl, r, gs, 8, rfl, by omega, by omega, by decide, by decide, k12.rng, fun H13 xs g13 xm xl => ?_⟩
      have k13 := k12.go g13
      have E1d := E1c.go g13
      have E2d := E2c.go g13
      have W13 : TwoT C H13 m1 m2 gs gs e1 e2 := ⟨W12.t1.go g13, W12.t2.go g13, hg, hg, W12.r1, W12.r2, W12.l1, W12.l2⟩
      have zx : (S xs).length ≤ sizeLine := by rw [S_len]; exact small (by omega)
      have flen : ∀ e : List (List Nat), Row gs e → e.length ≤ 20 → (fillL gs e xs).length ≤ 1000 := fun e hR hl => by
        rw [fill_len hg hR]
        have h2 := bl_lt e
        have h4 : nBl e * xs.length ≤ 20 * 8 := Nat.mul_le_mul (by omega) (by omega)
        omega
      have fl1 := flen e1 W13.r1 le1
      have fl2 := flen e2 W13.r2 le2
      have fm1 := fill_mem hg W13.r1 xm
      have fm2 := fill_mem hg W13.r2 xm
      -- left, right
      refine ⟨_, rfl, _, rfl, _, rfl, gs, q1, e1, xs, rfl, hg, W13.r1, by omega, .inl (.inl E1d.2.1), by omega, xm, fun H14 s14 => ?_⟩
      refine ⟨_, rfl, _, rfl, _, rfl, gs, q2, e2, xs, rfl, hg, W13.r2, by omega, .inl (.inl (s14 _ _ E2d.2.1)), by omega, xm, fun H15 s15 => ⟨_, _, rfl, ?_⟩⟩
      have W15 := (W13.same s14).same s15
      have k15 := (k13.same s14).same s15
      dsimp only [gName, tSeq, tAsg, tIfS, tNext, List.set_cons_zero, List.set_cons_succ]
      refine sm_test (a := fillL gs e1 xs) (b := fillL gs e2 xs) (fun Q hq => ⟨_, rfl, _, rfl, _, rfl, m1, m2, gs, xs, e1, e2, rfl, W15, by omega, xm, fl1, fl2, fun e H' s => hq _ _ s (.inl ⟨e, rfl⟩), fun e H' p s _ hp => hq _ _ s (.inr ⟨e, p, rfl, hp⟩)⟩)
        (fun H1 s1 Q hq => ⟨_, rfl, _, rfl, _, rfl, _, _, _, rfl, fl1, fl2, fun e => hq _ _ (Same.refl _) (.inl ⟨e, rfl⟩), fun e H' p s _ hp => hq _ _ s (.inr ⟨e, p, rfl, hp⟩)⟩) fun H16 s16 => iteF ?_
      have W16 := W15.same s16
      have k16 := k15.same s16
      try dsimp only [gName, tSeq, tAsg, tIfS, tNext]
      refine sm_test (a := fillL gs e2 xs) (b := fillL gs e1 xs) (fun Q hq => ⟨_, rfl, _, rfl, _, rfl, m2, m1, gs, xs, e2, e1, rfl, W16.swap, by omega, xm, fl2, fl1, fun e H' s => hq _ _ s (.inl ⟨e, rfl⟩), fun e H' p s _ hp => hq _ _ s (.inr ⟨e, p, rfl, hp⟩)⟩)
        (fun H1 s1 Q hq => ⟨_, rfl, _, rfl, _, rfl, _, _, _, rfl, fl2, fl1, fun e => hq _ _ (Same.refl _) (.inl ⟨e, rfl⟩), fun e H' p s _ hp => hq _ _ s (.inr ⟨e, p, rfl, hp⟩)⟩) fun H17 s17 => iteF ?_
      have W17 := W16.same s17
      have k17 := k16.same s17
      -- found
      refine ⟨_, rfl, _, rfl, _, rfl, m1, m2, gs, xs, e1, e2, rfl, W17, by omega, xm, fl1, fl2, fun H18 s18 => ?_⟩
      refine ⟨_, rfl, _, rfl, _, rfl, m2, m1, gs, xs, e2, e1, rfl, (W17.same s18).swap, by omega, xm, fl2, fl1, fun H19 s19 => ?_⟩
      refine ⟨(by show 2 ≤ sizeLine; decide), fun L20 nL20 => ?_⟩
      have s20 := same_new (o := .lst [.str (cmpW gs (fillL gs e1 xs) (fillL gs e2 xs)), .str (cmpW gs (fillL gs e2 xs) (fillL gs e1 xs))]) nL20
      refine ⟨_, rfl, _, rfl, _, rfl, _, rfl, gs, _, _, rfl, fl1, fl2, fm1, fm2, fun H21 s21 => ?_⟩
      refine ⟨_, rfl, _, rfl, _, rfl, gs, _, _, rfl, fl2, fl1, fm2, fm1, fun H22 s22 => ?_⟩
      refine ⟨(by show 2 ≤ sizeLine; decide), fun L23 nL23 => ?_⟩
      have s23 := same_new (o := .lst [.str (cmpW gs (fillL gs e1 xs) (fillL gs e2 xs)), .str (cmpW gs (fillL gs e2 xs) (fillL gs e1 xs))]) nL23
      refine ⟨_, _, rfl, Eqd.lst (n := 1) (((s21.trans s22).trans s23) _ _ upd_same) upd_same (by show 2 ≤ 1000; decide) (fun x hx => ?_), fun H24 s24 => ⟨true, rfl, iteF ?_⟩⟩
      · simp only [List.mem_cons, List.not_mem_nil, or_false] at hx
        rcases hx with rfl | rfl <;> trivial
      have s1724 := (((s18.trans s19).trans s20).trans ((s21.trans s22).trans s23)).trans s24
      have W24 := W17.same s1724
      have k24 := k17.same s1724
      try dsimp only [gName, tSeq, tAsg, tIfS, tNext, List.set_cons_zero, List.set_cons_succ]
      -- due
      refine ⟨_, rfl, _, rfl, zx, (by show 2 ≤ sizeLine; decide), fun d0 nd0 => ?_⟩
      have s25 := same_new (o := .tup [V.str (Str.ofString "UnknownLetter"), V.int ((S xs).length : Nat)]) nd0
      have k25 := k24.same s25
      have W25 := W24.same s25
      have hd25 : (upd H24 d0 (.tup [V.str (Str.ofString "UnknownLetter"), V.int ((S xs).length : Nat)])) d0 = some (.tup [V.str (Str.ofString "UnknownLetter"), V.int ((S xs).length : Nat)]) := upd_same
      generalize (upd H24 d0 (.tup [V.str (Str.ofString "UnknownLetter"), V.int ((S xs).length : Nat)])) = H25 at *
      -- asks
      refine ⟨k25.tab, fun fa ca H26 e26 T26 nfa la1 => ?_⟩
      have k26 := k25.ext e26 T26
      refine ⟨T26, fun fb cb tb H27 e27 T27 nfb lb1 => ?_⟩
      have k27 := k26.ext e27 T27
      refine ⟨(by show 2 ≤ sizeLine; decide), fun A1 nA1 => ?_⟩
      have s28 := same_new (o := .lst [V.ref fa, V.ref fb]) nA1
      have k28 := k27.same s28
      have la := (la1.ext e27).same s28
      have lb := lb1.same s28
      have hd28 := s28 _ _ (e27 _ _ (e26 _ _ hd25 (fun ps h => by cases h)) (fun ps h => by cases h))
      have tmE : ∀ {H H' : Hp} {m : Addr} {its : List (List Nat)}, Tm C H m gs its → LamX.ExtN H H' → Tm C H' m gs its := fun ⟨dx, p, h1, h4⟩ e => ⟨dx, p, e _ _ h1 (fun ps h => by cases h), e _ _ h4 (fun ps h => by cases h)⟩
      have W28 : TwoT C _ m1 m2 gs gs e1 e2 := TwoT.same (H := H27) ⟨tmE (tmE W25.t1 e26) e27, tmE (tmE W25.t2 e26) e27, hg, hg, W25.r1, W25.r2, W25.l1, W25.l2⟩ s28
      have hA28 : (upd H27 A1 (.lst [V.ref fa, V.ref fb])) A1 = some (.lst [V.ref fa, V.ref fb]) := upd_same
      have Ba := lamB_of (k := 8) (t := fun E => tCall (spDfU C CT) [] E (tCons (tVar 8) (tCons (tVar 9) (tCons (tOp _ (tVar 10) (tC (.str (Str.ofString "!")))) tNil)))) la (lamN_by (by show lamNB lawN (defScope sLaw) _ = true; decide +kernel)) (bindsL0 fun _ _ => rfl) (fun f A outer s H E hr2 => pe_call GCU (hr2.mono (by decide)) (by rfl) cCm.gl cCm.kp cCm.bd .nil (passes_call (takes_of rfl rfl rfl rfl) (fun _ _ _ _ h => h)) (pa_cons (pv 8) (pa_cons (pv 9) (pa_cons (pe_op op_add_str (pv 10) pe_str) pa_nil))))
      have Bb := lamB_of (k := 8) (t := fun E => tCall (spDfU C CT) [] E (tCons (tVar 8) (tCons (tVar 9) (tCons (tOp _ (tVar 10) (tC (.str (Str.ofString "!")))) tNil)))) lb (lamN_by (by show lamNB lawN (defScope sLaw) _ = true; decide +kernel)) (bindsL1 (x := "_law_a") rfl rfl fun _ _ _ => ⟨_, rfl, rfl⟩) (fun f A outer s H E hr2 => pe_call GDU (hr2.mono (by decide)) (by rfl) cDi.gl cDi.kp cDi.bd .nil (passes_call (takes_of rfl rfl rfl rfl) (fun _ _ _ _ h => h)) (pa_cons (pv 8) (pa_cons (pv 9) (pa_cons (pe_op op_add_str (pv 10) pe_str) pa_nil))))
      generalize (upd H27 A1 (.lst [V.ref fa, V.ref fb])) = H28 at *
      refine ⟨_, rfl, A1, rfl, ⟨_, .inl (.inl hA28)⟩, fun D nD => ?_⟩
      refine lc_list (K := K) (a := A1) (xs := [V.ref fa, V.ref fb]) (fun i H' => Same H28 H' ∧ ∃ ts : List Addr, ts.length = i ∧ H' D = some (.lst (ts.map V.ref)) ∧ ∀ t ∈ ts, H' t = some (.tup [V.str (Str.ofString "UnknownLetter"), V.int ((S xs).length : Nat)]))
        ⟨same_new nD, [], rfl, upd_same, (fun t h => by cases h)⟩ (fun _ _ _ h => h.1.seq (.inl (.inl hA28))) ?_ ?_
      · rintro i y H' hy ⟨sa, ts, hl, hD, ht⟩
        have hi2 : i < 2 := (List.getElem?_eq_some_iff.mp hy).1
        have fin := fin_all (o := [V.str (Str.ofString "UnknownLetter"), V.int ((S xs).length : Nat)]) sa nD hl (by omega) hD ht
        have bad : Bad gs (xs ++ [33]) (S xs).length := ⟨33, by rw [S_len]; simp, (fun h => by have := hg.az 33 h; omega), fun j c' hj hc => by
          rw [S_len] at hj
          rw [List.getElem?_append_left hj] at hc
          exact xm c' (List.mem_of_getElem? hc)⟩
        have zs : (S xs).length + (Str.ofString "!").length ≤ sizeLine := by
          rw [oex, S_len, S_len]
          exact small (by show _ + 1 ≤ 1000; omega)
        have ecat : S xs ++ Str.ofString "!" = S (xs ++ [33]) := by rw [oex]; exact S_cat _ _
        match i, hi2, hy, fin with
        | 0, _, hy, fin =>
          obtain rfl : V.ref fa = y := Option.some.inj hy
          refine ⟨rfl, fa, _, _, rfl, Ba, la.same sa, la.same sa, _, rfl, _, rfl, _, rfl, _, _, rfl, rfl, zs, ?_⟩
          rw [ecat]
          exact ⟨m1, m2, gs, _, e1, e2, _, rfl, W28.same sa, bad, fun H2 d s2 hd => ⟨xT, _, _, errN_1 ET hd fl_ul ET.np (by decide +kernel), fun H3 t s3 nt => fin H3 t (s2.trans s3) nt⟩⟩
        | 1, _, hy, fin =>
          obtain rfl : V.ref fb = y := Option.some.inj hy
          refine ⟨rfl, fb, _, _, rfl, Bb, lb.same sa, lb.same sa, _, rfl, _, rfl, _, rfl, _, _, rfl, rfl, zs, ?_⟩
          rw [ecat]
          exact ⟨m1, m2, gs, _, e1, e2, _, rfl, W28.same sa, bad, fun H2 d s2 hd => ⟨xT, _, _, errN_1 ET hd fl_ul ET.np (by decide +kernel), fun H3 t s3 nt => fin H3 t (s2.trans s3) nt⟩⟩
      · rintro H34 ⟨s34, ts, hl, hD, ht⟩
        have h2t : ts.length = 2 := hl
        match ts, h2t with
        | [t0, t1], _ =>
          refine ⟨_, rfl, _, rfl, (by show 2 ≤ sizeLine; decide), fun U nU => ?_⟩
          have s35 := same_new (o := .lst [V.ref d0, V.ref d0]) nU
          have hd35 := (s34.trans s35) _ _ hd28
          refine ⟨ulD ((S xs).length : Nat), ulD ((S xs).length : Nat), ul_dp (s35 _ _ hD) (s35 _ _ (ht t0 (by simp))) (s35 _ _ (ht t1 (by simp))), ul_dp upd_same hd35 hd35, ul_sh _, ul_sh _, ?_⟩
          rw [SeqAt.eqv_refl _ (SeqAt.canLay_of_shaped (ul_sh _))]
          refine ⟨false, rfl, iteF ?_⟩
          exact ⟨_, _, _, _, _, _, _, _, _, _, _, _, _, _, _, _, _, rfl, k28.same (s34.trans s35)⟩
    · rintro σ H2 ⟨v2, v3, v4, v5, v6, v7, v8, v9, v10, v11, v12, v13, v14, v15, v16, v17, v18, rfl, k2⟩
      have oba : Str.ofString "ba" = S [98, 97] := by decide +kernel
      have oab : Str.ofString "ab" = S [97, 98] := by decide +kernel
      have obr : Str.ofString "{}" = S (rTx [98, 97] [[98, 97]]) := by decide +kernel
      have oae : Str.ofString "a{}" = S (rTx [97, 98] [[97], [97, 98]]) := by decide +kernel
      have hba : Good [98, 97] := ⟨by decide, by decide, by decide, by decide⟩
      have hab : Good [97, 98] := ⟨by decide, by decide, by decide, by decide⟩
      have Rb : Row [98, 97] [[98, 97]] := fun x hx => by rw [List.mem_singleton.mp hx]; exact .inr (.refl _)
      have Ra : Row [97, 98] [[97], [97, 98]] := fun x hx => by
        simp only [List.mem_cons, List.not_mem_nil, or_false] at hx
        rcases hx with rfl | rfl
        · exact .inl ⟨97, by decide, rfl⟩
        · exact .inr (.refl _)
      dsimp only [gName, tSeq, tAsg, List.set_cons_zero, List.set_cons_succ]
      refine tm_mk (gs := [98, 97]) (t := rTx [98, 97] [[98, 97]]) (its := [[98, 97]]) (fun k hk => ?_) hba (by decide) (rd_r hba.lo Rb) fun H3 mo s3 nmo tmo => ?_
      · rw [oba, obr]
        exact hk _ (Same.refl _)
      try dsimp only [gName, tSeq, tAsg, List.set_cons_zero, List.set_cons_succ]
      refine tm_mk (gs := [97, 98]) (t := rTx [97, 98] [[97], [97, 98]]) (its := [[97], [97, 98]]) (fun k hk => ?_) hab (by decide) (rd_r hab.lo Ra) fun H4 me s4 nme tme => ?_
      · rw [oab, oae]
        exact hk _ (Same.refl _)
      have k4 := (k2.same s3).same s4
      have tmE : ∀ {H H' : Hp} {m : Addr} {gs : List Nat} {its : List (List Nat)}, Tm C H m gs its → LamX.ExtN H H' → Tm C H' m gs its := fun ⟨dx, p, h1, h4⟩ e => ⟨dx, p, e _ _ h1 (fun ps h => by cases h), e _ _ h4 (fun ps h => by cases h)⟩
      have toE : Tm C H4 mo [98, 97] [[98, 97]] := tmo.same s4
      try dsimp only [gName, tSeq, tAsg, tIfS, tNext, List.set_cons_zero, List.set_cons_succ]
      refine ⟨k4.tab, fun fa ca Ha ea Ta nfa la1 => ?_⟩
      have ka := k4.ext ea Ta
      refine ⟨Ta, fun fb cb tb Hb eb Tb nfb lb1 => ?_⟩
      have kb := ka.ext eb Tb
      refine ⟨Tb, fun fc cc tc Hc ec Tc nfc lc1 => ?_⟩
      have kc := kb.ext ec Tc
      refine ⟨(by show 3 ≤ sizeLine; decide), fun A1 nA1 => ?_⟩
      have s5 := same_new (o := .lst [V.ref fa, V.ref fb, V.ref fc]) nA1
      have k5 := kc.same s5
      refine ⟨_, rfl, k5.tab, fun fd cd Hd ed Td nfd ld1 => ?_⟩
      have kd := k5.ext ed Td
      refine ⟨Td, fun fe ce te He ee Te nfe le1 => ?_⟩
      have ke := kd.ext ee Te
      refine ⟨(by show 2 ≤ sizeLine; decide), fun A2 nA2 => ?_⟩
      have s6 := same_new (o := .lst [V.ref fd, V.ref fe]) nA2
      have hA1 : (upd He A2 (.lst [V.ref fd, V.ref fe])) A1 = some (.lst [V.ref fa, V.ref fb, V.ref fc]) := s6 _ _ (ee _ _ (ed _ _ upd_same (fun ps h => by cases h)) (fun ps h => by cases h))
      refine ⟨A1, A2, _, _, rfl, rfl, hA1, upd_same, (by show 5 ≤ sizeLine; decide), fun A3 nA3 => ?_⟩
      have s7 := same_new (o := .lst ([V.ref fa, V.ref fb, V.ref fc] ++ [V.ref fd, V.ref fe])) nA3
      have k7 := ke.same (s6.trans s7)
      refine ⟨_, rfl, k7.tab, fun ff cf Hf ef Tf nff lf1 => ?_⟩
      have kf := k7.ext ef Tf
      refine ⟨Tf, fun fg cg tg Hg eg Tg nfg lg1 => ?_⟩
      have kg := kf.ext eg Tg
      refine ⟨(by show 2 ≤ sizeLine; decide), fun A4 nA4 => ?_⟩
      have s8 := same_new (o := .lst [V.ref ff, V.ref fg]) nA4
      have hA3 : (upd Hg A4 (.lst [V.ref ff, V.ref fg])) A3 = some (.lst ([V.ref fa, V.ref fb, V.ref fc] ++ [V.ref fd, V.ref fe])) := s8 _ _ (eg _ _ (ef _ _ upd_same (fun ps h => by cases h)) (fun ps h => by cases h))
      refine ⟨A3, A4, _, _, rfl, rfl, hA3, upd_same, (by show 7 ≤ sizeLine; decide), fun A5 nA5 => ?_⟩
      have s9 := same_new (o := .lst ([V.ref fa, V.ref fb, V.ref fc] ++ [V.ref fd, V.ref fe] ++ [V.ref ff, V.ref fg])) nA5
      have s89 := s8.trans s9
      have s67 := s6.trans s7
      have tE : ∀ {m : Addr} {gs : List Nat} {its : List (List Nat)}, Tm C H4 m gs its → Tm C (upd (upd Hg A4 (.lst [V.ref ff, V.ref fg])) A5 (.lst ([V.ref fa, V.ref fb, V.ref fc] ++ [V.ref fd, V.ref fe] ++ [V.ref ff, V.ref fg]))) m gs its := fun tm =>
        (tmE (tmE ((tmE (tmE ((tmE (tmE (tmE tm ea) eb) ec).same s5) ed) ee).same s67) ef) eg).same s89
      have Wo : TwoT C _ mo me [98, 97] [97, 98] [[98, 97]] [[97], [97, 98]] := ⟨tE toE, tE tme, hba, hab, Rb, Ra, by decide, by decide⟩
      have la := ((((((((la1.ext eb).ext ec).same s5).ext ed).ext ee).same s67).ext ef).ext eg).same s89
      have lb := (((((((lb1.ext ec).same s5).ext ed).ext ee).same s67).ext ef).ext eg).same s89
      have lc := ((((((lc1.same s5).ext ed).ext ee).same s67).ext ef).ext eg).same s89
      have ld := ((((ld1.ext ee).same s67).ext ef).ext eg).same s89
      have le := (((le1.same s67).ext ef).ext eg).same s89
      have lf := (lf1.ext eg).same s89
      have lg := lg1.same s89
      have hA5 : (upd (upd Hg A4 (.lst [V.ref ff, V.ref fg])) A5 (.lst ([V.ref fa, V.ref fb, V.ref fc] ++ [V.ref fd, V.ref fe] ++ [V.ref ff, V.ref fg]))) A5 = some (.lst ([V.ref fa, V.ref fb, V.ref fc] ++ [V.ref fd, V.ref fe] ++ [V.ref ff, V.ref fg])) := upd_same
      have Ba := lamB_of (k := 8) (t := fun E => tCall (spLD2 C CD) [] E (tCons (tVar 17) (tCons (tVar 18) tNil))) la (lamN_by (by show lamNB lawN (defScope sLaw) _ = true; decide +kernel)) (bindsL0 fun _ _ => rfl) (fun f A outer s H E hr2 => pe_call GCo (hr2.mono (by decide)) (by rfl) gCo kCo bCo .nil (passes_call (takes_of rfl rfl rfl rfl) (fun _ _ _ _ h => h)) (pa_cons (pv 17) (pa_cons (pv 18) pa_nil)))
      have Bb := lamB_of (k := 8) (t := fun E => tCall (spLD2 C CD) [] E (tCons (tVar 18) (tCons (tVar 17) tNil))) lb (lamN_by (by show lamNB lawN (defScope sLaw) _ = true; decide +kernel)) (bindsL1 (x := "_law_a") rfl rfl fun _ _ _ => ⟨_, rfl, rfl⟩) (fun f A outer s H E hr2 => pe_call GEq (hr2.mono (by decide)) (by rfl) gEq kEq bEq .nil (passes_call (takes_of rfl rfl rfl rfl) (fun _ _ _ _ h => h)) (pa_cons (pv 18) (pa_cons (pv 17) pa_nil)))
      have Bc := lamB_of (k := 8) (t := fun E => tCall (spLD2 C CD) [] E (tCons (tVar 17) (tCons (tVar 18) tNil))) lc (lamN_by (by show lamNB lawN (defScope sLaw) _ = true; decide +kernel)) (bindsL1 (x := "_law_b") rfl rfl fun _ _ _ => ⟨_, rfl, rfl⟩) (fun f A outer s H E hr2 => pe_call GBe (hr2.mono (by decide)) (by rfl) gBe kBe bBe .nil (passes_call (takes_of rfl rfl rfl rfl) (fun _ _ _ _ h => h)) (pa_cons (pv 17) (pa_cons (pv 18) pa_nil)))
      have Bd := lamB_of (k := 8) (t := fun E => tCall (spLD2 C CD) [] E (tCons (tVar 17) (tCons (tVar 18) tNil))) ld (lamN_by (by show lamNB lawN (defScope sLaw) _ = true; decide +kernel)) (bindsL0 fun _ _ => rfl) (fun f A outer s H E hr2 => pe_call GEn (hr2.mono (by decide)) (by rfl) gEn kEn bEn .nil (passes_call (takes_of rfl rfl rfl rfl) (fun _ _ _ _ h => h)) (pa_cons (pv 17) (pa_cons (pv 18) pa_nil)))
      have Be := lamB_of (k := 8) (t := fun E => tCall (spLD2 C CD) [] E (tCons (tVar 17) (tCons (tVar 18) tNil))) le (lamN_by (by show lamNB lawN (defScope sLaw) _ = true; decide +kernel)) (bindsL1 (x := "_law_a") rfl rfl fun _ _ _ => ⟨_, rfl, rfl⟩) (fun f A outer s H E hr2 => pe_call GLe (hr2.mono (by decide)) (by rfl) gLe kLe bLe .nil (passes_call (takes_of rfl rfl rfl rfl) (fun _ _ _ _ h => h)) (pa_cons (pv 17) (pa_cons (pv 18) pa_nil)))
      have Bf := lamB_of (k := 8) (t := fun E => tCall (spLD3 C CD) [] E (tCons (tVar 18) (tCons (tVar 17) (tCons (tC (.str (Str.ofString "?"))) tNil)))) lf (lamN_by (by show lamNB lawN (defScope sLaw) _ = true; decide +kernel)) (bindsL0 fun _ _ => rfl) (fun f A outer s H E hr2 => pe_call GCL (hr2.mono (by decide)) (by rfl) cCm.gl cCm.kp cCm.bd .nil (passes_call (takes_of rfl rfl rfl rfl) (fun _ _ _ _ h => h)) (pa_cons (pv 18) (pa_cons (pv 17) (pa_cons pe_str pa_nil))))
      have Bg := lamB_of (k := 8) (t := fun E => tCall (spLD3 C CD) [] E (tCons (tVar 17) (tCons (tVar 18) (tCons (tC (.str (Str.ofString "?"))) tNil)))) lg (lamN_by (by show lamNB lawN (defScope sLaw) _ = true; decide +kernel)) (bindsL1 (x := "_law_a") rfl rfl fun _ _ _ => ⟨_, rfl, rfl⟩) (fun f A outer s H E hr2 => pe_call GDL (hr2.mono (by decide)) (by rfl) cDi.gl cDi.kp cDi.bd .nil (passes_call (takes_of rfl rfl rfl rfl) (fun _ _ _ _ h => h)) (pa_cons (pv 17) (pa_cons (pv 18) (pa_cons pe_str pa_nil))))
      generalize (upd (upd Hg A4 (.lst [V.ref ff, V.ref fg])) A5 (.lst ([V.ref fa, V.ref fb, V.ref fc] ++ [V.ref fd, V.ref fe] ++ [V.ref ff, V.ref fg]))) = H9 at *
      refine ⟨_, rfl, A5, rfl, ⟨_, .inl (.inl hA5)⟩, fun D nD => ?_⟩
      refine lc_list (K := K) (a := A5) (xs := [V.ref fa, V.ref fb, V.ref fc] ++ [V.ref fd, V.ref fe] ++ [V.ref ff, V.ref fg]) (fun i H' => Same H9 H' ∧ ∃ ts : List Addr, ts.length = i ∧ H' D = some (.lst (ts.map V.ref)) ∧ ∀ t ∈ ts, H' t = some (.tup [V.str (Str.ofString "LettersDiffer"), V.non]))
        ⟨same_new nD, [], rfl, upd_same, (fun t h => by cases h)⟩ (fun _ _ _ h => h.1.seq (.inl (.inl hA5))) ?_ ?_
      · rintro i y H' hy ⟨sa, ts, hl, hD, ht⟩
        have hi7 : i < 7 := (List.getElem?_eq_some_iff.mp hy).1
        have fin := fin_all (o := [V.str (Str.ofString "LettersDiffer"), V.non]) sa nD hl (by omega) hD ht
        have ne1 : ([98, 97] : List Nat) ≠ [97, 98] := by decide
        match i, hi7, hy, fin with
        | 0, _, hy, fin =>
          obtain rfl : V.ref fa = y := Option.some.inj hy
          exact ⟨rfl, fa, _, _, rfl, Ba, la.same sa, la.same sa, _, rfl, _, rfl, mo, me, _, _, _, _, rfl, (Wo.same sa), ne1, fun H2 d s2 hd => ⟨xD, _, _, errN_0 ED hd fl_ld, fun H3 t s3 nt => fin H3 t (s2.trans s3) nt⟩⟩
        | 1, _, hy, fin =>
          obtain rfl : V.ref fb = y := Option.some.inj hy
          exact ⟨rfl, fb, _, _, rfl, Bb, lb.same sa, lb.same sa, _, rfl, _, rfl, me, mo, _, _, _, _, rfl, (Wo.same sa).swap, ne1.symm, fun H2 d s2 hd => ⟨xD, _, _, errN_0 ED hd fl_ld, fun H3 t s3 nt => fin H3 t (s2.trans s3) nt⟩⟩
        | 2, _, hy, fin =>
          obtain rfl : V.ref fc = y := Option.some.inj hy
          exact ⟨rfl, fc, _, _, rfl, Bc, lc.same sa, lc.same sa, _, rfl, _, rfl, mo, me, _, _, _, _, rfl, (Wo.same sa), ne1, fun H2 d s2 hd => ⟨xD, _, _, errN_0 ED hd fl_ld, fun H3 t s3 nt => fin H3 t (s2.trans s3) nt⟩⟩
        | 3, _, hy, fin =>
          obtain rfl : V.ref fd = y := Option.some.inj hy
          exact ⟨rfl, fd, _, _, rfl, Bd, ld.same sa, ld.same sa, _, rfl, _, rfl, mo, me, _, _, _, _, rfl, (Wo.same sa), ne1, fun H2 d s2 hd => ⟨xD, _, _, errN_0 ED hd fl_ld, fun H3 t s3 nt => fin H3 t (s2.trans s3) nt⟩⟩
        | 4, _, hy, fin =>
          obtain rfl : V.ref fe = y := Option.some.inj hy
          exact ⟨rfl, fe, _, _, rfl, Be, le.same sa, le.same sa, _, rfl, _, rfl, mo, me, _, _, _, _, rfl, (Wo.same sa), ne1, fun H2 d s2 hd => ⟨xD, _, _, errN_0 ED hd fl_ld, fun H3 t s3 nt => fin H3 t (s2.trans s3) nt⟩⟩
        | 5, _, hy, fin =>
          obtain rfl : V.ref ff = y := Option.some.inj hy
          exact ⟨rfl, ff, _, _, rfl, Bf, lf.same sa, lf.same sa, _, rfl, _, rfl, me, mo, _, _, _, _, _, rfl, (Wo.same sa).swap, ne1.symm, fun H2 d s2 hd => ⟨xD, _, _, errN_0 ED hd fl_ld, fun H3 t s3 nt => fin H3 t (s2.trans s3) nt⟩⟩
        | 6, _, hy, fin =>
          obtain rfl : V.ref fg = y := Option.some.inj hy
          exact ⟨rfl, fg, _, _, rfl, Bg, lg.same sa, lg.same sa, _, rfl, _, rfl, mo, me, _, _, _, _, _, rfl, (Wo.same sa), ne1, fun H2 d s2 hd => ⟨xD, _, _, errN_0 ED hd fl_ld, fun H3 t s3 nt => fin H3 t (s2.trans s3) nt⟩⟩
      · rintro H10 ⟨s10, ts, hl, hD, ht⟩
        have h7t : ts.length = 7 := hl
        match ts, h7t with
        | [t0, t1, t2, t3, t4, t5, t6], _ =>
          refine ⟨(by show 2 ≤ sizeLine; decide), fun d0 nd0 => ⟨(by show 1 ≤ sizeLine; decide), fun U nU => ?_⟩⟩
          have s11 := same_new (o := .tup [V.str (Str.ofString "LettersDiffer"), V.non]) nd0
          have s12 := same_new (o := .lst [V.ref d0]) nU
          refine ⟨U, 7, _, rfl, rfl, upd_same, by decide, by decide, (by show 7 ≤ sizeLine; decide), fun U2 nU2 => ?_⟩
          have s13 := same_new (o := .lst (List.replicate (7 : Int).toNat [V.ref d0]).flatten) nU2
          have s1013 := (s11.trans s12).trans s13
          have hd := (s12.trans s13) _ _ (upd_same (H := H10) (a := d0) (o := .tup [V.str (Str.ofString "LettersDiffer"), V.non]))
          have one : ∀ {H : Hp} {t : Addr}, H t = some (.tup [V.str (Str.ofString "LettersDiffer"), V.non]) → Dp K H (.ref t) (.tuple [.str (Str.ofString "LettersDiffer"), .none]) := fun h => .tup (.inl (.inl h)) (.cons (.str _) (.cons .non .nil))
          have htt : ∀ t, t ∈ [t0, t1, t2, t3, t4, t5, t6] → Dp K _ (.ref t) (.tuple [.str (Str.ofString "LettersDiffer"), .none]) := fun t h => one (s1013 _ _ (ht t h))
          refine ⟨ldD, ldD, .lst (.inl (.inl (s1013 _ _ hD))) (.cons (htt _ (by simp)) (.cons (htt _ (by simp)) (.cons (htt _ (by simp)) (.cons (htt _ (by simp)) (.cons (htt _ (by simp)) (.cons (htt _ (by simp)) (.cons (htt _ (by simp)) .nil))))))),
            .lst (.inl (.inl upd_same)) (.cons (one hd) (.cons (one hd) (.cons (one hd) (.cons (one hd) (.cons (one hd) (.cons (one hd) (.cons (one hd) .nil))))))), ld_sh, ld_sh, ?_⟩
          rw [SeqAt.eqv_refl _ (SeqAt.canLay_of_shaped ld_sh)]
          exact q _
end
end Own

namespace Own
open PySem PySem.Spec PyProof.Rows L2 SX
/-! ### a head told by facts: one Bool over the written part, the defs, the tables of code objects -/
abbrev Fct : Type := PySem.W.Frag → Bool
/-- the table of a def's code object -/
def codT (K : PySem.W.Frag) (f : Addr) : Addr × Addr := match K.lookup f with
  | some ⟨_, _, .func fd, _⟩ => (match fd.code with
    | .ref c => (c, He.tabOf K c)
    | _ => (0, 0))
  | _ => (0, 0)
structure Told (fs : List Fct) (fn : List He5.DefA) (tf : List (PySem.W.Frag → Addr)) (h : Heap) (K : PySem.W.Frag) : Prop where
  facts : (fs.all fun f => f K) = true
  oks : (fn.all fun d => d.ok K) = true
  defs : (fn.map fun d => He5.fnA K (d.at_ K)) = fn.map He5.DefA.val
  hd : ∀ p ∈ tf, PySem.W.codeHdIn K (codT K (p K)).1 (codT K (p K)).2 = true
  out : ∀ p ∈ tf, K.lookup (codT K (p K)).2 = none
  empty : ∀ p ∈ tf, h.get? (codT K (p K)).2 = some { cls := .none, data := .fields #[] }
def tabB (g : Addr → Option Obj) (tf : List (PySem.W.Frag → Addr)) (K : PySem.W.Frag) : Bool := tf.all fun p => PySem.W.codeHdIn K (codT K (p K)).1 (codT K (p K)).2 && (match g (codT K (p K)).2 with
  | some o => He.emptyTab o
  | none => false)
abbrev partO (n : List Addr) (g : Addr → Option Obj) : PySem.W.Frag := He.frT g n
def obsO (n : List Addr) (fs : List Fct) (fn : List He5.DefA) (tf : List (PySem.W.Frag → Addr)) (g : Addr → Option Obj) : Bool × List He.FnW :=
  ((fs.all fun f => f (partO n g)) && ((fn.all fun d => d.ok (partO n g)) && tabB g tf (partO n g)), fn.map fun d => He5.fnA (partO n g) (d.at_ (partO n g)))
theorem told_of {n : List Addr} {fs : List Fct} {fn : List He5.DefA} {tf : List (PySem.W.Frag → Addr)} {h : Heap} (e : obsO n fs fn tf h.get? = (true, fn.map He5.DefA.val)) : Told fs fn tf h (partO n h.get?) := by
  obtain ⟨e1, e2⟩ := Prod.mk.injEq .. ▸ e
  obtain ⟨c1, c2⟩ := Bool.and_eq_true_iff.mp e1
  obtain ⟨c3, c4⟩ := Bool.and_eq_true_iff.mp c2
  have each : ∀ p ∈ tf, PySem.W.codeHdIn (partO n h.get?) (codT (partO n h.get?) (p (partO n h.get?))).1 (codT (partO n h.get?) (p (partO n h.get?))).2 = true ∧ ∃ o, h.get? (codT (partO n h.get?) (p (partO n h.get?))).2 = some o ∧ He.emptyTab o = true := fun p hp => by
    obtain ⟨d1, d2⟩ := Bool.and_eq_true_iff.mp (List.all_eq_true.mp c4 p hp)
    refine ⟨d1, ?_⟩
    generalize h.get? (codT (partO n h.get?) (p (partO n h.get?))).2 = x at d2
    cases x with
    | none => cases d2
    | some o => exact ⟨o, rfl, d2⟩
  refine ⟨c1, c3, e2, fun p hp => (each p hp).1, fun p hp => ?_, fun p hp => ?_⟩
  · obtain ⟨_, o, q, z⟩ := each p hp
    exact He.frT_none q z
  · obtain ⟨_, o, q, z⟩ := each p hp
    rw [q, He.emptyTab_eq z]
def hookO (n : List Addr) (fs : List Fct) (fn : List He5.DefA) (tf : List (PySem.W.Frag → Addr)) : PySem.W.Hook where
  α := Bool × List He.FnW
  obs := fun s => obsO n fs fn tf s.heap.get?
  val := fun _ => (true, fn.map He5.DefA.val)
  says := fun _ h => ∃ K : PySem.W.Frag, K.In h ∧ Told fs fn tf h K
  of := fun _ _ e => ⟨_, He.frT_in, told_of e⟩
  keeps := fun _ _ _ ⟨K, hK, c⟩ k => ⟨K, PySem.W.Frag.In.keeps hK k, ⟨c.facts, c.oks, c.defs, c.hd, c.out, fun p hp => k _ _ (c.empty p hp)⟩⟩
theorem obsO_eq {n : List Addr} {fs : List Fct} {fn : List He5.DefA} {tf : List (PySem.W.Frag → Addr)} (s : PySem.W.SharedT) : obsO n fs fn tf (HandSHeadRun.getT s) = (hookO n fs fn tf).obs s.abs := by
  have e : HandSHeadRun.getT s = s.abs.heap.get? := funext (HandSHeadRun.getT_eq s)
  rw [e]
  rfl
section
variable {fs : List Fct} {fn : List He5.DefA} {tf : List (PySem.W.Frag → Addr)} {h : Heap} {K : PySem.W.Frag}
theorem Told.fact (c : Told fs fn tf h K) (i : Nat) {f : Fct} (e : fs[i]? = some f := by rfl) : f K = true := List.all_eq_true.mp c.facts f (List.mem_of_getElem? e)
theorem Told.def_ (c : Told fs fn tf h K) (i : Nat) {d : He5.DefA} (e : fn[i]? = some d := by rfl) : ∃ fd, FunD K d.name d.qual d.params d.body d.scope (d.dvs K) (d.kws K) (d.at_ K) fd := by
  have e2 : (fn.map fun d => He5.fnA K (d.at_ K))[i]? = (fn.map He5.DefA.val)[i]? := by rw [c.defs]
  rw [List.getElem?_map, List.getElem?_map, e] at e2
  exact He5.DefA.funD (Option.some.inj e2) (List.all_eq_true.mp c.oks d (List.mem_of_getElem? e))
end
/-! ### facts -/
def wfP (K : PySem.W.Frag) (C : Addr) (m : Str) : Addr := He5.wf K C "property" m
def propB (C m : Str) : Fct := fun K => He.eqO (PySem.W.findIn K (.ref (He.ga K C)) m) (some (some (.ref (He.ma K (He.ga K C) m)))) && (decide (PySem.W.specialIn K (.ref (He.ma K (He.ga K C) m)) "__get__" = some (some (.builtin "property.__get__"))) &&
  (decide (PySem.W.takesIn K (.ref (He.ma K (He.ga K C) m)) = some true) && (match PySem.W.recIn K (He.ma K (He.ga K C) m) "property" with
    | some (.ref f :: _) => decide (f = wfP K (He.ga K C) m)
    | _ => false)))
theorem prop_ok {K : PySem.W.Frag} {C m : Str} (h : propB C m K = true) : PropOf K (He.ga K C) m (He.ma K (He.ga K C) m) (wfP K (He.ga K C) m) := by
  obtain ⟨h1, h⟩ := Bool.and_eq_true_iff.mp h
  obtain ⟨h2, h⟩ := Bool.and_eq_true_iff.mp h
  obtain ⟨h3, h4⟩ := Bool.and_eq_true_iff.mp h
  refine ⟨He.eqO_ok h1, of_decide_eq_true h2, of_decide_eq_true h3, ?_⟩
  generalize PySem.W.recIn K (He.ma K (He.ga K C) m) "property" = x at h4
  cases x with
  | none => cases h4
  | some l =>
    cases l with
    | nil => cases h4
    | cons v r =>
      cases v with
      | ref f => exact ⟨r, by rw [of_decide_eq_true h4]⟩
      | _ => cases h4
def slotB : List (Option Value) → Bool
  | [_, _, _, _, some (.builtin id), _] => decide (id = "ValueError.__new__")
  | _ => false
theorem slot_ok {l : List (Option Value)} (h : slotB l = true) : ∃ k0 k1 k2 k3 k5, l = [k0, k1, k2, k3, some (.builtin "ValueError.__new__"), k5] := by
  unfold slotB at h
  split at h
  · exact ⟨_, _, _, _, _, by rw [of_decide_eq_true h]⟩
  · cases h
/-- one of the program's own errors over ValueError -/
def oexB (C : Addr) : Fct := fun K => (match K.lookup C with
  | some ⟨.type t, _, .cls cd, sl⟩ => decide (t = "type") && ((match cd.mro with
      | c :: bm => decide (c = .ref C) && PySem.HandSPX.refsVE bm
      | [] => false) && (cd.hasDict && (!cd.hasDel && slotB sl.toList)))
  | _ => false) && (decide (PySem.W.findIn K (.ref C) "__setattr__" = some (some (.builtin "object.__setattr__"))) && (decide (PySem.W.subIn K (.ref C) (.type "BaseException") = some true) &&
    (decide (PySem.W.typeIn K (.ref C) = some (.type "type")) && PySem.W.keepIn K (.ref C))))
theorem oex_ok {K : PySem.W.Frag} {C : Addr} (h : oexB C K = true) : OexC K C := by
  obtain ⟨h1, h⟩ := Bool.and_eq_true_iff.mp h
  obtain ⟨h2, h⟩ := Bool.and_eq_true_iff.mp h
  obtain ⟨h3, h⟩ := Bool.and_eq_true_iff.mp h
  obtain ⟨h4, h5⟩ := Bool.and_eq_true_iff.mp h
  refine ⟨?_, of_decide_eq_true h2, of_decide_eq_true h3, of_decide_eq_true h4, h5⟩
  generalize hx : K.lookup C = x at h1
  cases x with
  | none => cases h1
  | some o =>
    obtain ⟨oc, od, dt, sl⟩ := o
    cases oc with
    | type t =>
      cases dt with
      | cls cd =>
        obtain ⟨nm, bs, mro, ns, qn, hdct, sn, sub, ab, col, hdel⟩ := cd
        obtain ⟨a1, a⟩ := Bool.and_eq_true_iff.mp h1
        obtain ⟨a2, a⟩ := Bool.and_eq_true_iff.mp a
        obtain ⟨a3, a⟩ := Bool.and_eq_true_iff.mp a
        obtain ⟨a4, a5⟩ := Bool.and_eq_true_iff.mp a
        have e1 := of_decide_eq_true a1
        cases mro with
        | nil => cases a2
        | cons c bm =>
          obtain ⟨b1, b2⟩ := Bool.and_eq_true_iff.mp a2
          have e2 : c = .ref C := of_decide_eq_true b1
          have e3 : hdct = true := a3
          have e4 : hdel = false := by cases hdel with
            | false => rfl
            | true => cases a4
          obtain ⟨l⟩ := sl
          obtain ⟨k0, k1, k2, k3, k5, e5⟩ := slot_ok (l := l) a5
          subst e1 e2 e3 e4 e5
          exact ⟨nm, qn, ns, bs, bm, sn, sub, ab, col, od, k0, k1, k2, k3, k5, rfl, b2⟩
      | _ => cases h1
    | _ => cases dt <;> cases h1
def errB (C : Str) (bs : List Str) : Fct := fun K => oexB (He.ga K C) K && (xfB K (He.ga K C) && (decide (PySem.W.findIn K (.ref (He.ga K C)) "code" = some none) && (decide (PySem.W.findIn K (.ref (He.ga K C)) "position" = some none) && decide (PySem.W.exmAny K (.ref (He.ga K C)) (bs.map fun b => .ref (He.ga K b)) = some true))))
theorem err_ok {K : PySem.W.Frag} {mg : Str → Option Value} {C : Str} {bs : List Str} (g : mg C = some (.ref (He.ga K C))) (h : errB C bs K = true) : ErrC K mg C (He.ga K C) ∧ PySem.W.exmAny K (.ref (He.ga K C)) (bs.map fun b => .ref (He.ga K b)) = some true := by
  obtain ⟨h1, h⟩ := Bool.and_eq_true_iff.mp h
  obtain ⟨h2, h⟩ := Bool.and_eq_true_iff.mp h
  obtain ⟨h3, h⟩ := Bool.and_eq_true_iff.mp h
  obtain ⟨h4, h5⟩ := Bool.and_eq_true_iff.mp h
  exact ⟨⟨oex_ok h1, g, of_decide_eq_true h3, of_decide_eq_true h4, xfB_ok h2⟩, of_decide_eq_true h5⟩
/-- the __init__ of an error -/
def einB (C : Str) : Fct := fun K => He.eqO (PySem.W.findIn K (.ref (He.ga K C)) "__init__") (some (some (.ref (He.ma K (He.ga K C) "__init__")))) && decide (PySem.W.typeIn K (.ref (He.ma K (He.ga K C) "__init__")) = some (.type "function"))
theorem ein_ok {K : PySem.W.Frag} {C : Str} (h : einB C K = true) : PySem.W.findIn K (.ref (He.ga K C)) "__init__" = some (some (.ref (He.ma K (He.ga K C) "__init__"))) ∧ PySem.W.typeIn K (.ref (He.ma K (He.ga K C) "__init__")) = some (.type "function") := by
  obtain ⟨h1, h2⟩ := Bool.and_eq_true_iff.mp h
  exact ⟨He.eqO_ok h1, of_decide_eq_true h2⟩
abbrev faB (f : He.Fa) : Fct := fun K => f.ok K
/-- an own def, where it stands -/
abbrev dG (x : Str) (st : Stmt) : He5.DefA := { at_ := fun K => He.ga K x, name := x, qual := x, params := defArgs st, body := defBody st, scope := defScope st }
abbrev dM (C m q : Str) (st : Stmt) : He5.DefA := { at_ := fun K => He.ma K (He.ga K C) m, name := m, qual := q, params := defArgs st, body := defBody st, scope := defScope st }
abbrev dP (C m q : Str) (st : Stmt) : He5.DefA := { at_ := fun K => wfP K (He.ga K C) m, name := m, qual := q, params := defArgs st, body := defBody st, scope := defScope st }
abbrev dC (C m q : Str) (st : Stmt) : He5.DefA := { at_ := fun K => He5.wf K (He.ga K C) "classmethod" m, name := m, qual := q, params := defArgs st, body := defBody st, scope := defScope st }
/-- the law's own table -/
theorem law_tab {fs : List Fct} {fn : List He5.DefA} {tf : List (PySem.W.Frag → Addr)} {h : Heap} {K : PySem.W.Frag} {p : PySem.W.Frag → Addr} {oc : Value} {od : Option Addr} {fd : FuncData} {sl : Array (Option Value)} {cc : Addr}
    (c : Told fs fn tf h K) (hp : p ∈ tf) (lk : K.lookup (p K) = some ⟨oc, od, .func fd, sl⟩) (e : fd.code = .ref cc) :
    h.get? (He.tabOf K cc) = some (PySem.W.tabObj #[]) ∧ K.lookup (He.tabOf K cc) = none ∧ PySem.W.codeHdIn K cc (He.tabOf K cc) = true := by
  have q : codT K (p K) = (cc, He.tabOf K cc) := by
    unfold codT
    rw [lk]
    show (match fd.code with | .ref c => (c, He.tabOf K c) | _ => (0, 0)) = _
    rw [e]
  have h1 := c.hd p hp
  have h2 := c.out p hp
  have h3 := c.empty p hp
  rw [q] at h1 h2 h3
  exact ⟨h3, h2, h1⟩
/-- an own __eq__ and what isinstance asks -/
def eqB (C : Str) : Fct := fun K => decide (PySem.W.findIn K (.ref (He.ga K C)) "__class__" = some (some (.builtin "object.__class__"))) && (decide (PySem.W.specialIn K (.builtin "object.__class__") "__get__" = some (some (.builtin "getset_descriptor.__get__"))) &&
  (decide (PySem.W.takesIn K (.builtin "object.__class__") = some true) && (decide (PySem.W.mroIn K (He.ga K C) (.type "object") = some true) && (decide (PySem.W.kitOne K (.ref (He.ga K C)) (.ref (He.ga K C)) = some true) &&
    (decide (PySem.W.findIn K (.ref (He.ga K C)) "__ne__" = some (some (.builtin "object.__ne__"))) && (Fa.ok' K C))))))
where Fa.ok' (K : PySem.W.Frag) (C : Str) : Bool := decide (PySem.W.findIn K (.ref (He.ga K C)) "__eq__" = some (some (.ref (He.ma K (He.ga K C) "__eq__")))) && PySem.W.isFn K (.ref (He.ma K (He.ga K C) "__eq__"))
theorem eq_ok {K : PySem.W.Frag} {C : Str} (tc : Cls K (He.ga K C)) (h : eqB C K = true) : InsC K (He.ga K C) ∧ EqOf K (He.ga K C) (He.ma K (He.ga K C) "__eq__") := by
  obtain ⟨h1, h⟩ := Bool.and_eq_true_iff.mp h
  obtain ⟨h2, h⟩ := Bool.and_eq_true_iff.mp h
  obtain ⟨h3, h⟩ := Bool.and_eq_true_iff.mp h
  obtain ⟨h4, h⟩ := Bool.and_eq_true_iff.mp h
  obtain ⟨h5, h⟩ := Bool.and_eq_true_iff.mp h
  obtain ⟨h6, h⟩ := Bool.and_eq_true_iff.mp h
  obtain ⟨h7, h8⟩ := Bool.and_eq_true_iff.mp h
  exact ⟨⟨tc, of_decide_eq_true h1, of_decide_eq_true h2, of_decide_eq_true h3, of_decide_eq_true h4, of_decide_eq_true h5⟩, ⟨of_decide_eq_true h7, h8, of_decide_eq_true h6, of_decide_eq_true h4⟩⟩
def crB (C : Str) : Fct := fun K => PySem.W.readsIn K (He.ga K C) (.type "type") && decide (PySem.W.specialIn K (.ref (He.ga K C)) "__getattribute__" = some (some (.builtin "type.__getattribute__")))
theorem cr_ok {K : PySem.W.Frag} {C : Str} (h : crB C K = true) : ClX.CRead K (He.ga K C) (.type "type") := by
  obtain ⟨h1, h2⟩ := Bool.and_eq_true_iff.mp h
  exact ⟨h1, of_decide_eq_true h2⟩
def cmB (C m : Str) : Fct := fun K => He5.wrapB K (He.ga K C) "classmethod" "classmethod.__get__" m && PySem.W.fnIn K (He5.wf K (He.ga K C) "classmethod" m)
theorem cm_ok {K : PySem.W.Frag} {C m : Str} (h : cmB C m K = true) : ClX.CMet K (He.ga K C) (.type "type") m (He.ma K (He.ga K C) m) (He5.wf K (He.ga K C) "classmethod" m) := by
  obtain ⟨h1, h2⟩ := Bool.and_eq_true_iff.mp h
  exact He5.cmet_of h1 h2
/-- behind world's special-get-raises both ways -/
theorem two_ways {R : PySem.W.OpenRow} {q : Program} {H : PySem.W.Hook} {ob : PySem.W.SharedT → H.α} {M : Nat} {loose : List Str} (hf : ∀ w : World, HandSHeadRun.RunEq R q H ob M loose (w.withFollow "special-get-raises" false))
    (ht : ∀ w : World, HandSHeadRun.RunEq R q H ob M loose (w.withFollow "special-get-raises" true)) (w : World) : HandSHeadRun.RunEq R q H ob M loose w := PySem.W.byRow2 "special-get-raises" hf ht w
end Own

namespace Own
open PySem PySem.Spec PyProof.Rows L2 SX
def hnames0 : List Str := ["_wall", "FillError", "InvalidLetters", "UnknownLetter", "LettersDiffer", "ParseError", "InvalidMachine", "Missing", "check_rooms", "reached_rooms", "numbered", "grouped", "leading_rooms", "hit_groups", "without", "members_of", "alike_classes", "least_rooms", "paired_rooms", "LEAST_LETTERS"]
def hnames1 : List Str := ["MOST_LETTERS", "LOWERCASE", "check_letters", "check_same_letters", "check_text", "is_turn", "turned", "after", "undone", "order_of", "earlier_counts", "text_at", "Machine", "explored", "mapped", "mirrored", "EMPTY_TEXT", "PLAIN_BLANK", "is_blank", "blank_width"]
def hnames2 : List Str := ["read_row", "item_text", "row_text", "text_parts", "row_parts", "turned_row", "put_row", "Template", "WORDS", "EXCHANGED", "letter_at", "common_size", "first_difference", "letters_word", "texts_word", "difference", "compared", "deciding_words", "go_alike", "common_start"]
def hnames3 : List Str := ["fixed_start", "fixed_size", "word_to_follow", "filled_row", "beginnings_words", "even_row", "following_rooms", "rest_rooms", "decided_first", "comparison", "worded_texts", "equal_texts", "begins_texts", "ends_texts", "less_texts", "_law_draws", "_law_draw", "_law_pick", "_law_same", "_law_field"]
def hnames4 : List Str := ["_law_try", "_law_letters", "_law_turn", "_law_word", "_law_turned", "_law_items", "_law_text", "_law_fill", "_law_template", "_law_order", "_law_compared", "_law_facing"]
abbrev hnames : List Str := hnames0 ++ hnames1 ++ hnames2 ++ hnames3 ++ hnames4
abbrev hfs : List Fct := [faB (.glo "check_letters"), einB "UnknownLetter", einB "LettersDiffer", faB (.glo "check_same_letters"), faB (.glo "check_text"), faB (.glo "is_turn"), faB (.glo "turned"), faB (.glo "is_blank"), faB (.glo "blank_width"), faB (.glo "read_row"), faB (.glo "item_text"), faB (.glo "row_text"), faB (.glo "turned_row"), faB (.glo "put_row"), faB (.glo "mapped"), faB (.glo "mirrored"), faB (.mkr "Template"), propB "Template" "letters", faB (.meth "Template" "fill"), faB (.meth "Template" "mirrored"), faB (.meth "Template" "with_row"), faB (.glo "letter_at"), faB (.glo "common_size"), faB (.glo "first_difference"), faB (.glo "letters_word"), faB (.glo "texts_word"), faB (.glo "difference"), faB (.glo "compared"), faB (.glo "comparison"), faB (.glo "worded_texts"), faB (.glo "equal_texts"), faB (.glo "begins_texts"), faB (.glo "ends_texts"), faB (.glo "less_texts"), faB (.glo "_law_draws"), faB (.glo "_law_draw"), faB (.glo "_law_pick"), faB (.glo "_law_same"), faB (.glo "_law_field"), faB (.glo "_law_try"), faB (.glo "_law_letters"), faB (.glo "_law_turn"), faB (.glo "_law_word"), faB (.glo "_law_turned"), faB (.glo "_law_items"), faB (.glo "_law_text"), faB (.glo "_law_fill"), faB (.glo "_law_template"), faB (.glo "_law_order"), faB (.glo "_law_compared"), faB (.glo "_law_facing"), faB (.glo "law"), faB (.glo "FillError"), faB (.glo "Missing"), faB (.glo "UnknownLetter"), errB "UnknownLetter" ["FillError", "Missing"], faB (.glo "LettersDiffer"), errB "LettersDiffer" ["FillError", "Missing"], faB (.glo "Template"), faB (.cls "Template"), faB (.noat "Template" "alphabet"), faB (.noat "Template" "places"), faB (.int "LEAST_LETTERS" 2), faB (.int "MOST_LETTERS" 4), faB (.str "LOWERCASE" "abcdefghijklmnopqrstuvwxyz"), faB (.str "EMPTY_TEXT" "-"), faB (.str "PLAIN_BLANK" "{}"), faB (.free "enumerate"), faB (.free "int"), faB (.free "list"), faB (.free "len"), faB (.free "isinstance"), faB (.free "tuple"), faB (.free "all"), faB (.free "zip"), faB (.free "bool"), faB (.free "str"), faB (.free "min"), faB (.free "max"), faB (.free "range"), faB (.free "sorted"), faB (.free "dict")]
abbrev hfn : List He5.DefA := [dG "check_letters" sCheckL, dM "UnknownLetter" "__init__" "UnknownLetter.__init__" sInitUL, dM "LettersDiffer" "__init__" "LettersDiffer.__init__" sInitLD, dG "check_same_letters" sCS, dG "check_text" sCheckT, dG "is_turn" sIs, dG "turned" sTurned, dG "is_blank" sBk, dG "blank_width" sBw, dG "read_row" sRd, dG "item_text" sIt, dG "row_text" sRt, dG "turned_row" sTr, dG "put_row" sPut, dG "mapped" sMp, dG "mirrored" sMir, dM "Template" "__init__" "Template.__init__" sTi, dP "Template" "letters" "Template.letters" sLr, dM "Template" "fill" "Template.fill" sFi, dM "Template" "mirrored" "Template.mirrored" sMi, dM "Template" "with_row" "Template.with_row" sWr, dG "letter_at" sLAt, dG "common_size" sCSz, dG "first_difference" sFD, dG "letters_word" sLW, dG "texts_word" sTW, dG "difference" sDi, dG "compared" sCm, dG "comparison" sCo, dG "worded_texts" sWt, dG "equal_texts" sEqT, dG "begins_texts" sBeT, dG "ends_texts" sEnT, dG "less_texts" sLeT, dG "_law_draws" sDraws, dG "_law_draw" sDraw, dG "_law_pick" sPick, dG "_law_same" sSame, dG "_law_field" sField, dG "_law_try" sTry, dG "_law_letters" sLetters, dG "_law_turn" sTurn, dG "_law_word" sWord, dG "_law_turned" sLTurned, dG "_law_items" sItems, dG "_law_text" sLx, dG "_law_fill" sLf, dG "_law_template" sLtm, dG "_law_order" sLOr, dG "_law_compared" sLCp, dG "_law_facing" sFc, dG "law" sLaw]
abbrev htf : List (PySem.W.Frag → Addr) := [fun K => He.ga K "law"]
abbrev hR : PySem.W.OpenRow := PySem.W.OpenLaw.row PySem.Challenge.rw_ownfill_k21_differences_of_filled_templa
def has0 : List Addr := [2, 3, 15, 17, 18, 20, 21, 22, 29, 31, 32, 34, 35, 36, 37, 38, 39, 42, 49, 51, 52, 54, 55, 56, 57, 58, 61, 68, 70, 71, 73, 74, 75, 76, 77, 80, 87, 89, 90, 92, 93, 94, 95, 96, 99, 106, 108, 109, 111, 112, 113, 114, 115, 118, 125, 127, 128, 130, 131, 132, 133, 134, 137, 144, 146, 147, 149, 150, 151, 152, 153, 154, 157, 160, 161, 162, 164, 165, 167, 168, 169, 172, 173, 174, 177, 178, 179, 182, 183, 184, 187, 188, 189, 192, 193, 194, 197, 198, 199, 202]
def has1 : List Addr := [203, 204, 207, 208, 209, 211, 212, 214, 215, 216, 218, 219, 221, 222, 223, 225, 226, 228, 229, 230, 232, 233, 235, 236, 237, 239, 240, 242, 243, 244, 247, 248, 249, 251, 252, 254, 255, 256, 259, 260, 261, 263, 264, 266, 267, 268, 271, 272, 273, 275, 276, 278, 279, 287, 289, 290, 292, 293, 294, 297, 298, 299, 300, 301, 302, 305, 306, 307, 308, 309, 310, 312, 313, 315, 316, 317, 318, 319, 320, 322, 323, 325, 326, 327, 328, 331, 332, 333, 335, 336, 338, 339, 340, 342, 343, 345, 346, 347, 348, 351]
def has2 : List Addr := [352, 353, 355, 356, 358, 359, 360, 362, 363, 365, 366, 367, 370, 371, 372, 375, 376, 377, 380, 381, 382, 384, 385, 387, 388, 389, 391, 392, 394, 395, 396, 398, 399, 401, 402, 403, 404, 405, 406, 407, 410, 413, 414, 415, 418, 419, 420, 423, 424, 425, 427, 428, 430, 431, 432, 434, 435, 437, 438, 439, 441, 442, 444, 445, 446, 448, 449, 451, 452, 453, 456, 457, 458, 460, 461, 463, 464, 465, 467, 468, 470, 471, 472, 475, 476, 477, 479, 480, 482, 483, 491, 493, 494, 496, 497, 498, 500, 501, 503, 504]
def has3 : List Addr := [505, 506, 507, 508, 509, 511, 512, 514, 515, 516, 517, 518, 519, 521, 522, 524, 525, 526, 527, 530, 531, 532, 533, 536, 537, 538, 539, 541, 542, 544, 545, 546, 548, 549, 551, 552, 553, 555, 556, 558, 559, 560, 562, 563, 565, 566, 567, 569, 570, 572, 573, 574, 576, 577, 579, 580, 581, 583, 584, 586, 587, 588, 590, 591, 593, 594, 595, 597, 598, 600, 601, 602, 604, 605, 607, 608, 609, 611, 612, 614, 615, 616, 618, 619, 621, 622, 623, 625, 626, 628, 629, 630, 632, 633, 635, 636, 637, 638, 639, 640]
def has4 : List Addr := [641, 644, 645, 646, 648, 649, 651, 652, 653, 655, 656, 658, 659, 660, 662, 663, 665, 666, 667, 669, 670, 672, 673, 674, 676, 677, 679, 680, 681, 683, 684, 686, 687, 688, 690, 691, 693, 694, 695, 698, 699, 700, 702, 703, 705, 706, 707, 710, 711, 712, 714, 715, 717, 718, 719, 722, 723, 724, 726, 727, 729, 730, 731, 734, 735, 736, 739, 740, 741, 744, 745, 746, 749, 750, 751, 754, 755, 756, 759, 760, 761, 763, 764, 766, 767, 768, 771, 772, 773, 775, 776, 778, 779, 780, 782, 783, 785, 786, 787, 789]
def has5 : List Addr := [790, 792, 793, 794, 796, 797, 799, 800, 801, 803, 804, 806, 807, 808, 810, 811, 813, 814, 815, 817, 818, 820, 821, 822, 825, 826, 827, 829, 830, 832, 833, 834, 836, 837, 839, 840, 841, 844, 845, 846, 848, 849, 851, 852, 853, 856, 857, 858, 861, 862, 863, 865, 866, 868, 869, 870, 873, 874, 875, 878, 879, 880, 882, 883, 885, 886, 887, 889, 890, 892, 893, 894, 896, 897, 899, 900, 901, 904, 905, 906, 909, 910]
abbrev has : List Addr := has0 ++ has1 ++ has2 ++ has3 ++ has4 ++ has5
abbrev hk : PySem.W.Hook := hookO has hfs hfn htf
abbrev hob (s : PySem.W.SharedT) : hk.α := obsO has hfs hfn htf (HandSHeadRun.getT s)
set_option maxHeartbeats 0 in
theorem run_false (w : World) : HandSHeadRun.RunEq hR (PySem.W.view hR.prog [99]) hk hob 8000 hnames (w.withFollow "special-get-raises" false) := by
  intro os
  kernel_rfl
set_option maxHeartbeats 0 in
theorem run_true (w : World) : HandSHeadRun.RunEq hR (PySem.W.view hR.prog [99]) hk hob 8000 hnames (w.withFollow "special-get-raises" true) := by
  intro os
  kernel_rfl
theorem hrun : ∀ w : World, HandSHeadRun.RunEq hR (PySem.W.view hR.prog [99]) hk hob 8000 hnames w := two_ways run_false run_true
theorem ends {l : PySem.W.OpenLaw} {w : World} {K : PySem.W.Frag} {h : Heap} {mg : Str → Option Value} {fa : Addr} (X : K.In h) (G : h.Ns mainGlobals mg) (hfa : mg "law" = some (.ref fa)) (c : Told hfs hfn htf h K) : LamX.LawAtS l w K CX0 11 63 "_law_script" mg fa h := by
  obtain ⟨fd1, G1_⟩ := c.def_ 0
  have F1 : Fun K "check_letters" "check_letters" sCheckL (He.ga K "check_letters") fd1 := He5.fun_of G1_
  have g1 := He.glo_ok X G (c.fact 0)
  obtain ⟨fd2, G2_⟩ := c.def_ 1
  have F2 : Fun K "__init__" "UnknownLetter.__init__" sInitUL (He.ma K (He.ga K "UnknownLetter") "__init__") fd2 := He5.fun_of G2_
  obtain ⟨a2, y2⟩ := ein_ok (c.fact 1)
  obtain ⟨fd3, G3_⟩ := c.def_ 2
  have F3 : Fun K "__init__" "LettersDiffer.__init__" sInitLD (He.ma K (He.ga K "LettersDiffer") "__init__") fd3 := He5.fun_of G3_
  obtain ⟨a3, y3⟩ := ein_ok (c.fact 2)
  obtain ⟨fd4, G4_⟩ := c.def_ 3
  have F4 : Fun K "check_same_letters" "check_same_letters" sCS (He.ga K "check_same_letters") fd4 := He5.fun_of G4_
  have g4 := He.glo_ok X G (c.fact 3)
  obtain ⟨fd5, G5_⟩ := c.def_ 4
  have F5 : Fun K "check_text" "check_text" sCheckT (He.ga K "check_text") fd5 := He5.fun_of G5_
  have g5 := He.glo_ok X G (c.fact 4)
  obtain ⟨fd6, G6_⟩ := c.def_ 5
  have F6 : Fun K "is_turn" "is_turn" sIs (He.ga K "is_turn") fd6 := He5.fun_of G6_
  have g6 := He.glo_ok X G (c.fact 5)
  obtain ⟨fd7, G7_⟩ := c.def_ 6
  have F7 : Fun K "turned" "turned" sTurned (He.ga K "turned") fd7 := He5.fun_of G7_
  have g7 := He.glo_ok X G (c.fact 6)
  obtain ⟨fd8, G8_⟩ := c.def_ 7
  have F8 : Fun K "is_blank" "is_blank" sBk (He.ga K "is_blank") fd8 := He5.fun_of G8_
  have g8 := He.glo_ok X G (c.fact 7)
  obtain ⟨fd9, G9_⟩ := c.def_ 8
  have F9 : Fun K "blank_width" "blank_width" sBw (He.ga K "blank_width") fd9 := He5.fun_of G9_
  have g9 := He.glo_ok X G (c.fact 8)
  obtain ⟨fd10, G10_⟩ := c.def_ 9
  have F10 : Fun K "read_row" "read_row" sRd (He.ga K "read_row") fd10 := He5.fun_of G10_
  have g10 := He.glo_ok X G (c.fact 9)
  obtain ⟨fd11, G11_⟩ := c.def_ 10
  have F11 : Fun K "item_text" "item_text" sIt (He.ga K "item_text") fd11 := He5.fun_of G11_
  have g11 := He.glo_ok X G (c.fact 10)
  obtain ⟨fd12, G12_⟩ := c.def_ 11
  have F12 : Fun K "row_text" "row_text" sRt (He.ga K "row_text") fd12 := He5.fun_of G12_
  have g12 := He.glo_ok X G (c.fact 11)
  obtain ⟨fd13, G13_⟩ := c.def_ 12
  have F13 : Fun K "turned_row" "turned_row" sTr (He.ga K "turned_row") fd13 := He5.fun_of G13_
  have g13 := He.glo_ok X G (c.fact 12)
  obtain ⟨fd14, G14_⟩ := c.def_ 13
  have F14 : Fun K "put_row" "put_row" sPut (He.ga K "put_row") fd14 := He5.fun_of G14_
  have g14 := He.glo_ok X G (c.fact 13)
  obtain ⟨fd15, G15_⟩ := c.def_ 14
  have F15 : Fun K "mapped" "mapped" sMp (He.ga K "mapped") fd15 := He5.fun_of G15_
  have g15 := He.glo_ok X G (c.fact 14)
  obtain ⟨fd16, G16_⟩ := c.def_ 15
  have F16 : Fun K "mirrored" "mirrored" sMir (He.ga K "mirrored") fd16 := He5.fun_of G16_
  have g16 := He.glo_ok X G (c.fact 15)
  obtain ⟨fd17, G17_⟩ := c.def_ 16
  have F17 : Fun K "__init__" "Template.__init__" sTi (He.ma K (He.ga K "Template") "__init__") fd17 := He5.fun_of G17_
  have MK_Template := He.mkr_ok (c.fact 16)
  obtain ⟨fd18, G18_⟩ := c.def_ 17
  have F18 : Fun K "letters" "Template.letters" sLr (wfP K (He.ga K "Template") "letters") fd18 := He5.fun_of G18_
  have R18 := prop_ok (c.fact 17)
  obtain ⟨fd19, G19_⟩ := c.def_ 18
  have F19 : Fun K "fill" "Template.fill" sFi (He.ma K (He.ga K "Template") "fill") fd19 := He5.fun_of G19_
  have M19 := He.meth_ok (c.fact 18)
  have D19 : DunOf K (He.ga K "Template") "fill" (He.ma K (He.ga K "Template") "fill") := ⟨M19.at_, M19.fn⟩
  obtain ⟨fd20, G20_⟩ := c.def_ 19
  have F20 : Fun K "mirrored" "Template.mirrored" sMi (He.ma K (He.ga K "Template") "mirrored") fd20 := He5.fun_of G20_
  have M20 := He.meth_ok (c.fact 19)
  have D20 : DunOf K (He.ga K "Template") "mirrored" (He.ma K (He.ga K "Template") "mirrored") := ⟨M20.at_, M20.fn⟩
  obtain ⟨fd21, G21_⟩ := c.def_ 20
  have F21 : Fun K "with_row" "Template.with_row" sWr (He.ma K (He.ga K "Template") "with_row") fd21 := He5.fun_of G21_
  have M21 := He.meth_ok (c.fact 20)
  have D21 : DunOf K (He.ga K "Template") "with_row" (He.ma K (He.ga K "Template") "with_row") := ⟨M21.at_, M21.fn⟩
  obtain ⟨fd22, G22_⟩ := c.def_ 21
  have F22 : Fun K "letter_at" "letter_at" sLAt (He.ga K "letter_at") fd22 := He5.fun_of G22_
  have g22 := He.glo_ok X G (c.fact 21)
  obtain ⟨fd23, G23_⟩ := c.def_ 22
  have F23 : Fun K "common_size" "common_size" sCSz (He.ga K "common_size") fd23 := He5.fun_of G23_
  have g23 := He.glo_ok X G (c.fact 22)
  obtain ⟨fd24, G24_⟩ := c.def_ 23
  have F24 : Fun K "first_difference" "first_difference" sFD (He.ga K "first_difference") fd24 := He5.fun_of G24_
  have g24 := He.glo_ok X G (c.fact 23)
  obtain ⟨fd25, G25_⟩ := c.def_ 24
  have F25 : Fun K "letters_word" "letters_word" sLW (He.ga K "letters_word") fd25 := He5.fun_of G25_
  have g25 := He.glo_ok X G (c.fact 24)
  obtain ⟨fd26, G26_⟩ := c.def_ 25
  have F26 : Fun K "texts_word" "texts_word" sTW (He.ga K "texts_word") fd26 := He5.fun_of G26_
  have g26 := He.glo_ok X G (c.fact 25)
  obtain ⟨fd27, G27_⟩ := c.def_ 26
  have F27 : Fun K "difference" "difference" sDi (He.ga K "difference") fd27 := He5.fun_of G27_
  have g27 := He.glo_ok X G (c.fact 26)
  obtain ⟨fd28, G28_⟩ := c.def_ 27
  have F28 : Fun K "compared" "compared" sCm (He.ga K "compared") fd28 := He5.fun_of G28_
  have g28 := He.glo_ok X G (c.fact 27)
  obtain ⟨fd29, G29_⟩ := c.def_ 28
  have F29 : Fun K "comparison" "comparison" sCo (He.ga K "comparison") fd29 := He5.fun_of G29_
  have g29 := He.glo_ok X G (c.fact 28)
  obtain ⟨fd30, G30_⟩ := c.def_ 29
  have F30 : Fun K "worded_texts" "worded_texts" sWt (He.ga K "worded_texts") fd30 := He5.fun_of G30_
  have g30 := He.glo_ok X G (c.fact 29)
  obtain ⟨fd31, G31_⟩ := c.def_ 30
  have F31 : Fun K "equal_texts" "equal_texts" sEqT (He.ga K "equal_texts") fd31 := He5.fun_of G31_
  have g31 := He.glo_ok X G (c.fact 30)
  obtain ⟨fd32, G32_⟩ := c.def_ 31
  have F32 : Fun K "begins_texts" "begins_texts" sBeT (He.ga K "begins_texts") fd32 := He5.fun_of G32_
  have g32 := He.glo_ok X G (c.fact 31)
  obtain ⟨fd33, G33_⟩ := c.def_ 32
  have F33 : Fun K "ends_texts" "ends_texts" sEnT (He.ga K "ends_texts") fd33 := He5.fun_of G33_
  have g33 := He.glo_ok X G (c.fact 32)
  obtain ⟨fd34, G34_⟩ := c.def_ 33
  have F34 : Fun K "less_texts" "less_texts" sLeT (He.ga K "less_texts") fd34 := He5.fun_of G34_
  have g34 := He.glo_ok X G (c.fact 33)
  obtain ⟨fd35, G35_⟩ := c.def_ 34
  have F35 : Fun K "_law_draws" "_law_draws" sDraws (He.ga K "_law_draws") fd35 := He5.fun_of G35_
  have g35 := He.glo_ok X G (c.fact 34)
  obtain ⟨fd36, G36_⟩ := c.def_ 35
  have F36 : Fun K "_law_draw" "_law_draw" sDraw (He.ga K "_law_draw") fd36 := He5.fun_of G36_
  have g36 := He.glo_ok X G (c.fact 35)
  obtain ⟨fd37, G37_⟩ := c.def_ 36
  have F37 : Fun K "_law_pick" "_law_pick" sPick (He.ga K "_law_pick") fd37 := He5.fun_of G37_
  have g37 := He.glo_ok X G (c.fact 36)
  obtain ⟨fd38, G38_⟩ := c.def_ 37
  have F38 : Fun K "_law_same" "_law_same" sSame (He.ga K "_law_same") fd38 := He5.fun_of G38_
  have g38 := He.glo_ok X G (c.fact 37)
  obtain ⟨fd39, G39_⟩ := c.def_ 38
  have F39 : Fun K "_law_field" "_law_field" sField (He.ga K "_law_field") fd39 := He5.fun_of G39_
  have g39 := He.glo_ok X G (c.fact 38)
  obtain ⟨fd40, G40_⟩ := c.def_ 39
  have F40 : Fun K "_law_try" "_law_try" sTry (He.ga K "_law_try") fd40 := He5.fun_of G40_
  have g40 := He.glo_ok X G (c.fact 39)
  obtain ⟨fd41, G41_⟩ := c.def_ 40
  have F41 : Fun K "_law_letters" "_law_letters" sLetters (He.ga K "_law_letters") fd41 := He5.fun_of G41_
  have g41 := He.glo_ok X G (c.fact 40)
  obtain ⟨fd42, G42_⟩ := c.def_ 41
  have F42 : Fun K "_law_turn" "_law_turn" sTurn (He.ga K "_law_turn") fd42 := He5.fun_of G42_
  have g42 := He.glo_ok X G (c.fact 41)
  obtain ⟨fd43, G43_⟩ := c.def_ 42
  have F43 : Fun K "_law_word" "_law_word" sWord (He.ga K "_law_word") fd43 := He5.fun_of G43_
  have g43 := He.glo_ok X G (c.fact 42)
  obtain ⟨fd44, G44_⟩ := c.def_ 43
  have F44 : Fun K "_law_turned" "_law_turned" sLTurned (He.ga K "_law_turned") fd44 := He5.fun_of G44_
  have g44 := He.glo_ok X G (c.fact 43)
  obtain ⟨fd45, G45_⟩ := c.def_ 44
  have F45 : Fun K "_law_items" "_law_items" sItems (He.ga K "_law_items") fd45 := He5.fun_of G45_
  have g45 := He.glo_ok X G (c.fact 44)
  obtain ⟨fd46, G46_⟩ := c.def_ 45
  have F46 : Fun K "_law_text" "_law_text" sLx (He.ga K "_law_text") fd46 := He5.fun_of G46_
  have g46 := He.glo_ok X G (c.fact 45)
  obtain ⟨fd47, G47_⟩ := c.def_ 46
  have F47 : Fun K "_law_fill" "_law_fill" sLf (He.ga K "_law_fill") fd47 := He5.fun_of G47_
  have g47 := He.glo_ok X G (c.fact 46)
  obtain ⟨fd48, G48_⟩ := c.def_ 47
  have F48 : Fun K "_law_template" "_law_template" sLtm (He.ga K "_law_template") fd48 := He5.fun_of G48_
  have g48 := He.glo_ok X G (c.fact 47)
  obtain ⟨fd49, G49_⟩ := c.def_ 48
  have F49 : Fun K "_law_order" "_law_order" sLOr (He.ga K "_law_order") fd49 := He5.fun_of G49_
  have g49 := He.glo_ok X G (c.fact 48)
  obtain ⟨fd50, G50_⟩ := c.def_ 49
  have F50 : Fun K "_law_compared" "_law_compared" sLCp (He.ga K "_law_compared") fd50 := He5.fun_of G50_
  have g50 := He.glo_ok X G (c.fact 49)
  obtain ⟨fd51, G51_⟩ := c.def_ 50
  have F51 : Fun K "_law_facing" "_law_facing" sFc (He.ga K "_law_facing") fd51 := He5.fun_of G51_
  have g51 := He.glo_ok X G (c.fact 50)
  obtain ⟨fd52, G52_⟩ := c.def_ 51
  have F52 : Fun K "law" "law" sLaw (He.ga K "law") fd52 := He5.fun_of G52_
  have g52 := He.glo_ok X G (c.fact 51)
  have h_FillError := He.glo_ok X G (c.fact 52)
  have h_Missing := He.glo_ok X G (c.fact 53)
  have e1 := He.glo_ok X G (c.fact 54)
  obtain ⟨E1, xm1⟩ := err_ok e1 (c.fact 55)
  have e2 := He.glo_ok X G (c.fact 56)
  obtain ⟨E2, xm2⟩ := err_ok e2 (c.fact 57)
  have gT_Template := He.glo_ok X G (c.fact 58)
  have TC : TmC K (He.ga K "Template") := ⟨He.cls_ok (c.fact 59), He.noat_ok (c.fact 60), He.noat_ok (c.fact 61)⟩
  obtain ⟨t_LEAST_LETTERS, h_LEAST_LETTERS⟩ := He.int_ok X G (c.fact 62)
  obtain ⟨t_MOST_LETTERS, h_MOST_LETTERS⟩ := He.int_ok X G (c.fact 63)
  obtain ⟨t_LOWERCASE, h_LOWERCASE⟩ := He.str_ok X G (c.fact 64)
  obtain ⟨t_EMPTY_TEXT, h_EMPTY_TEXT⟩ := He.str_ok X G (c.fact 65)
  obtain ⟨t_PLAIN_BLANK, h_PLAIN_BLANK⟩ := He.str_ok X G (c.fact 66)
  have m_enumerate := He.free_ok X G (c.fact 67)
  have m_int := He.free_ok X G (c.fact 68)
  have m_list := He.free_ok X G (c.fact 69)
  have m_len := He.free_ok X G (c.fact 70)
  have m_isinstance := He.free_ok X G (c.fact 71)
  have m_tuple := He.free_ok X G (c.fact 72)
  have m_all := He.free_ok X G (c.fact 73)
  have m_zip := He.free_ok X G (c.fact 74)
  have m_bool := He.free_ok X G (c.fact 75)
  have m_str := He.free_ok X G (c.fact 76)
  have m_min := He.free_ok X G (c.fact 77)
  have m_max := He.free_ok X G (c.fact 78)
  have m_range := He.free_ok X G (c.fact 79)
  have m_sorted := He.free_ok X G (c.fact 80)
  have m_dict := He.free_ok X G (c.fact 81)
  have e_ := hfa.symm.trans g52
  cases e_
  obtain ⟨⟨oc, od, kV, dc, pm, an, cdv, ct, sl, rfl, lw, cw⟩, kw⟩ := id F52
  obtain ⟨cc, rfl⟩ := He.codeIn_ref cw
  obtain ⟨hPt, nT, hC⟩ := law_tab (p := fun K => He.ga K "law") c (List.Mem.head _) lw rfl
  have hC' := PySem.W.codeHd_of_K X hC
  generalize He.tabOf K cc = Pt at hPt nT hC hC'
  refine ⟨PySem.W.fnOf "law" "law" (defArgs sLaw) (defBody sLaw) (defScope sLaw) .none kV dc pm an (.ref cc) ct, [(cc, Pt)], spLaw K Pt, fun p hp => by rw [List.mem_singleton.mp hp]; exact hPt, fun p hp => by rw [List.mem_singleton.mp hp]; exact nT, fun p hp => by rw [List.mem_singleton.mp hp]; exact hC', fun s v => .of_eq rfl, fun H a ns _ _ hH hS => ⟨a, ns, rfl, hS, hH _ (List.Mem.head _), fun _ => rfl⟩, fun base _ _ TB => ?_⟩
  have d1 := F1.binds (ps := ["letters"]) fun _ _ _ _ _ _ us hl => match us, hl with | [_], _ => rfl
  have d4 := F4.binds (ps := ["letters", "other"]) fun _ _ _ _ _ _ us hl => match us, hl with | [_, _], _ => rfl
  have d5 := F5.binds (ps := ["letters", "text"]) fun _ _ _ _ _ _ us hl => match us, hl with | [_, _], _ => rfl
  have d2 := F2.binds (ps := ["self", "position"]) fun _ _ _ _ _ _ us hl => match us, hl with | [_, _], _ => rfl
  have d3 := F3.binds (ps := ["self"]) fun _ _ _ _ _ _ us hl => match us, hl with | [_], _ => rfl
  have d6 := F6.binds (ps := ["letters", "turn"]) fun _ _ _ _ _ _ us hl => match us, hl with | [_, _], _ => rfl
  have d7 := F7.binds (ps := ["letters", "turn", "text"]) fun _ _ _ _ _ _ us hl => match us, hl with | [_, _, _], _ => rfl
  have d8 := F8.binds (ps := ["item"]) fun _ _ _ _ _ _ us hl => match us, hl with | [_], _ => rfl
  have d9 := F9.binds (ps := ["letters", "text", "at"]) fun _ _ _ _ _ _ us hl => match us, hl with | [_, _, _], _ => rfl
  have d10 := F10.binds (ps := ["letters", "text"]) fun _ _ _ _ _ _ us hl => match us, hl with | [_, _], _ => rfl
  have d11 := F11.binds (ps := ["letters", "item"]) fun _ _ _ _ _ _ us hl => match us, hl with | [_, _], _ => rfl
  have d12 := F12.binds (ps := ["letters", "row"]) fun _ _ _ _ _ _ us hl => match us, hl with | [_, _], _ => rfl
  have d13 := F13.binds (ps := ["letters", "turn", "row"]) fun _ _ _ _ _ _ us hl => match us, hl with | [_, _, _], _ => rfl
  have d14 := F14.binds (ps := ["letters", "row", "inner"]) fun _ _ _ _ _ _ us hl => match us, hl with | [_, _, _], _ => rfl
  have d15 := F15.binds (ps := ["machine", "answers"]) fun _ _ _ _ _ _ us hl => match us, hl with | [_, _], _ => rfl
  have d16 := F16.binds (ps := ["machine"]) fun _ _ _ _ _ _ us hl => match us, hl with | [_], _ => rfl
  have d17 := F17.binds (ps := ["self", "letters", "text"]) fun _ _ _ _ _ _ us hl => match us, hl with | [_, _, _], _ => rfl
  have d18 := F18.binds (ps := ["self"]) fun _ _ _ _ _ _ us hl => match us, hl with | [_], _ => rfl
  have d19 := F19.binds (ps := ["self", "text"]) fun _ _ _ _ _ _ us hl => match us, hl with | [_, _], _ => rfl
  have d20 := F20.binds (ps := ["self"]) fun _ _ _ _ _ _ us hl => match us, hl with | [_], _ => rfl
  have d21 := F21.binds (ps := ["self", "row"]) fun _ _ _ _ _ _ us hl => match us, hl with | [_, _], _ => rfl
  have d22 := F22.binds (ps := ["text", "place"]) fun _ _ _ _ _ _ us hl => match us, hl with | [_, _], _ => rfl
  have d23 := F23.binds (ps := ["first", "second"]) fun _ _ _ _ _ _ us hl => match us, hl with | [_, _], _ => rfl
  have d24 := F24.binds (ps := ["first", "second"]) fun _ _ _ _ _ _ us hl => match us, hl with | [_, _], _ => rfl
  have d25 := F25.binds (ps := ["letters", "one", "other"]) fun _ _ _ _ _ _ us hl => match us, hl with | [_, _, _], _ => rfl
  have d26 := F26.binds (ps := ["letters", "first", "second"]) fun _ _ _ _ _ _ us hl => match us, hl with | [_, _, _], _ => rfl
  have d27 := F27.binds (ps := ["one", "other", "text"]) fun _ _ _ _ _ _ us hl => match us, hl with | [_, _, _], _ => rfl
  have d28 := F28.binds (ps := ["one", "other", "text"]) fun _ _ _ _ _ _ us hl => match us, hl with | [_, _, _], _ => rfl
  have d29 := F29.binds (ps := ["one", "other"]) fun _ _ _ _ _ _ us hl => match us, hl with | [_, _], _ => rfl
  have d30 := F30.binds (ps := ["one", "other", "words"]) fun _ _ _ _ _ _ us hl => match us, hl with | [_, _, _], _ => rfl
  have d31 := F31.binds (ps := ["one", "other"]) fun _ _ _ _ _ _ us hl => match us, hl with | [_, _], _ => rfl
  have d32 := F32.binds (ps := ["one", "other"]) fun _ _ _ _ _ _ us hl => match us, hl with | [_, _], _ => rfl
  have d33 := F33.binds (ps := ["one", "other"]) fun _ _ _ _ _ _ us hl => match us, hl with | [_, _], _ => rfl
  have d34 := F34.binds (ps := ["one", "other"]) fun _ _ _ _ _ _ us hl => match us, hl with | [_, _], _ => rfl
  have d35 := F35.binds (ps := ["_law_script"]) fun _ _ _ _ _ _ us hl => match us, hl with | [_], _ => rfl
  have d36 := F36.binds (ps := ["_law_rng", "_law_sides"]) fun _ _ _ _ _ _ us hl => match us, hl with | [_, _], _ => rfl
  have d37 := F37.binds (ps := ["_law_rng", "_law_things"]) fun _ _ _ _ _ _ us hl => match us, hl with | [_, _], _ => rfl
  have d38 := F38.binds (ps := ["_law_found", "_law_due"]) fun _ _ _ _ _ _ us hl => match us, hl with | [_, _], _ => rfl
  have d39 := F39.binds (ps := ["_law_e"]) fun _ _ _ _ _ _ us hl => match us, hl with | [_], _ => rfl
  have d40 := F40.binds (ps := ["_law_ask"]) fun _ _ _ _ _ _ us hl => match us, hl with | [_], _ => rfl
  have d41 := F41.binds (ps := ["_law_rng", "_law_most"]) fun _ _ _ _ _ _ us hl => match us, hl with | [_, _], _ => rfl
  have d42 := F42.binds (ps := ["_law_rng", "_law_signs"]) fun _ _ _ _ _ _ us hl => match us, hl with | [_, _], _ => rfl
  have d43 := F43.binds (ps := ["_law_rng", "_law_signs", "_law_most"]) fun _ _ _ _ _ _ us hl => match us, hl with | [_, _, _], _ => rfl
  have d44 := F44.binds (ps := ["_law_signs", "_law_my_turn", "_law_shown"]) fun _ _ _ _ _ _ us hl => match us, hl with | [_, _, _], _ => rfl
  have d45 := F45.binds (ps := ["_law_rng", "_law_signs", "_law_most"]) fun _ _ _ _ _ _ us hl => match us, hl with | [_, _, _], _ => rfl
  have d46 := F46.binds (ps := ["_law_signs", "_law_items_here"]) fun _ _ _ _ _ _ us hl => match us, hl with | [_, _], _ => rfl
  have d47 := F47.binds (ps := ["_law_signs", "_law_items_here", "_law_shown"]) fun _ _ _ _ _ _ us hl => match us, hl with | [_, _, _], _ => rfl
  have d48 := F48.binds (ps := ["_law_signs", "_law_items_here"]) fun _ _ _ _ _ _ us hl => match us, hl with | [_, _], _ => rfl
  have d49 := F49.binds (ps := ["_law_signs", "_law_mine", "_law_yours"]) fun _ _ _ _ _ _ us hl => match us, hl with | [_, _, _], _ => rfl
  have d50 := F50.binds (ps := ["_law_signs", "_law_mine", "_law_yours"]) fun _ _ _ _ _ _ us hl => match us, hl with | [_, _, _], _ => rfl
  have d51 := F51.binds (ps := ["_law_rng", "_law_signs"]) fun _ _ _ _ _ _ us hl => match us, hl with | [_, _], _ => rfl
  have T : SameT mg := ⟨m_isinstance, m_list, m_tuple, m_len, m_all, m_zip, m_bool, m_int, m_str⟩
  have cDr : Cl l.prog w K mg base "_law_draw" 1 ["_law_rng", "_law_sides"] spDraw (He.ga K "_law_draw") _ := ⟨ok_draw F36 m_int m_len, g36, F36.kp, d36⟩
  have cPk : Cl l.prog w K mg base "_law_pick" 2 ["_law_rng", "_law_things"] (spPick K) (He.ga K "_law_pick") _ := ⟨ok_pick F37 F36 d36 g36 m_int m_len, g37, F37.kp, d37⟩
  have cTn : Cl l.prog w K mg base "_law_turn" 2 ["_law_rng", "_law_signs"] spTurn (He.ga K "_law_turn") _ := ⟨ok_turn F42 F36 d36 g36 m_int m_len m_range, g42, F42.kp, d42⟩
  have cCk : Cl l.prog w K mg base "check_text" 1 ["letters", "text"] spCk (He.ga K "check_text") _ := ⟨ok_check F5 m_enumerate, g5, F5.kp, d5⟩
  have cTd : Cl l.prog w K mg base "turned" 2 ["letters", "turn", "text"] spTd (He.ga K "turned") _ := ⟨ok_turned F7 F5 d5 g5 m_enumerate m_dict m_zip, g7, F7.kp, d7⟩
  have cBk : Cl l.prog w K mg base "is_blank" 1 ["item"] spBk (He.ga K "is_blank") _ := ⟨ok_bk F8 m_len, g8, F8.kp, d8⟩
  have cIs : Cl l.prog w K mg base "is_turn" 1 ["letters", "turn"] spIs (He.ga K "is_turn") _ := ⟨ok_is F6 m_sorted, g6, F6.kp, d6⟩
  have cBw : Cl l.prog w K mg base "blank_width" 2 ["letters", "text", "at"] spBw (He.ga K "blank_width") _ := ⟨ok_bw F9 m_len cIs ⟨_, h_PLAIN_BLANK⟩, g9, F9.kp, d9⟩
  have cRd : Cl l.prog w K mg base "read_row" 3 ["letters", "text"] spRd (He.ga K "read_row") _ := ⟨ok_rd F10 m_len cBw ⟨_, h_EMPTY_TEXT⟩, g10, F10.kp, d10⟩
  have cTr : Cl l.prog w K mg base "turned_row" 3 ["letters", "turn", "row"] (spTr K) (He.ga K "turned_row") _ := ⟨ok_tr F13 cTd, g13, F13.kp, d13⟩
  have cPu : Cl l.prog w K mg base "put_row" 4 ["letters", "row", "inner"] (spPut K) (He.ga K "put_row") _ := ⟨ok_put F14 cBk cTr, g14, F14.kp, d14⟩
  have cCL : Cl l.prog w K mg base "check_letters" 1 ["letters"] spCLn (He.ga K "check_letters") _ := ⟨ok_checkLn F1 m_enumerate m_len ⟨_, h_LEAST_LETTERS⟩ ⟨_, h_MOST_LETTERS⟩ ⟨_, h_LOWERCASE⟩, g1, F1.kp, d1⟩
  have cItx : Cl l.prog w K mg base "item_text" 2 ["letters", "item"] spIt (He.ga K "item_text") _ := ⟨ok_it F11 cBk ⟨_, h_PLAIN_BLANK⟩, g11, F11.kp, d11⟩
  have cRtx : Cl l.prog w K mg base "row_text" 3 ["letters", "row"] (spRt K) (He.ga K "row_text") _ := ⟨ok_rt F12 m_len cItx ⟨_, h_EMPTY_TEXT⟩, g12, F12.kp, d12⟩
  have GCT : FnOk l.prog w K mg base (L2.CX l.prog w) 3 (He.ga K "check_text") _ ["letters", "text"] (spCT (He.ga K "UnknownLetter")) := ok_checkT F5 E1 F2 d2 a2 y2 m_enumerate
  have cCS : Cl l.prog w K mg base "check_same_letters" 1 ["letters", "other"] spCS (He.ga K "check_same_letters") _ := ⟨ok_cs F4, g4, F4.kp, d4⟩
  have GCS : FnOk l.prog w K mg base (L2.CX l.prog w) 3 (He.ga K "check_same_letters") _ ["letters", "other"] (spCSX (He.ga K "LettersDiffer")) := ok_csX F4 E2 F3 d3 a3 y3
  have GI : FnOk l.prog w K mg base CX0 4 (He.ma K (He.ga K "Template") "__init__") _ ["self", "letters", "text"] (spTi (He.ga K "Template")) := ok_ti F17 TC m_tuple cCL cRd
  have GF : FnOk l.prog w K mg base CX0 5 (He.ma K (He.ga K "Template") "fill") _ ["self", "text"] (spFi (He.ga K "Template")) := ok_fi F19 TC cCk cPu
  have GFX : FnOk l.prog w K mg base (L2.CX l.prog w) 4 (He.ma K (He.ga K "Template") "fill") _ ["self", "text"] (spFiX (He.ga K "Template") (He.ga K "UnknownLetter")) := ok_fiX F19 TC GCT g5 F5.kp d5
  have GLr : FnOk l.prog w K mg base CX0 1 (wfP K (He.ga K "Template") "letters") _ ["self"] (spLr (He.ga K "Template")) := ok_lr F18 TC
  have GW : FnOk l.prog w K mg base CX0 6 (He.ma K (He.ga K "Template") "with_row") _ ["self", "row"] (spWr K (He.ga K "Template")) := ok_wr F21 TC MK_Template gT_Template GI d17 cRtx
  have GM : FnOk l.prog w K mg base CX0 7 (He.ma K (He.ga K "Template") "mirrored") _ ["self"] (spMi (He.ga K "Template")) := ok_mi F20 TC M21 GW d21
  have cLA : Cl l.prog w K mg base "letter_at" 1 ["text", "place"] spLAt (He.ga K "letter_at") _ := ⟨ok_lat F22 m_len, g22, F22.kp, d22⟩
  have cCz : Cl l.prog w K mg base "common_size" 1 ["first", "second"] spCSz (He.ga K "common_size") _ := ⟨ok_csz F23 m_len m_min, g23, F23.kp, d23⟩
  have cFD : Cl l.prog w K mg base "first_difference" 2 ["first", "second"] spFD (He.ga K "first_difference") _ := ⟨ok_fdf F24 cCz cLA, g24, F24.kp, d24⟩
  have cLW : Cl l.prog w K mg base "letters_word" 1 ["letters", "one", "other"] spLW (He.ga K "letters_word") _ := ⟨ok_lw F25, g25, F25.kp, d25⟩
  have cTW : Cl l.prog w K mg base "texts_word" 3 ["letters", "first", "second"] spTW (He.ga K "texts_word") _ := ⟨ok_tw F26 cFD cLW, g26, F26.kp, d26⟩
  have cDi : Cl l.prog w K mg base "difference" 6 ["one", "other", "text"] (spDi (He.ga K "Template")) (He.ga K "difference") _ := ⟨ok_di F27 TC R18 GLr d18 cCS M19 GF d19 cFD, g27, F27.kp, d27⟩
  have cCm : Cl l.prog w K mg base "compared" 6 ["one", "other", "text"] (spCm (He.ga K "Template")) (He.ga K "compared") _ := ⟨ok_cm F28 TC R18 GLr d18 cCS M19 GF d19 cTW, g28, F28.kp, d28⟩
  have GDU : FnOk l.prog w K mg base (L2.CX l.prog w) 5 (He.ga K "difference") _ ["one", "other", "text"] (spDfU (He.ga K "Template") (He.ga K "UnknownLetter")) := ok_diU F27 TC R18 GLr d18 cCS M19 GFX d19 cFD
  have GCU : FnOk l.prog w K mg base (L2.CX l.prog w) 5 (He.ga K "compared") _ ["one", "other", "text"] (spDfU (He.ga K "Template") (He.ga K "UnknownLetter")) := ok_cmU F28 TC R18 GLr d18 cCS M19 GFX d19 cTW
  have GDL : FnOk l.prog w K mg base (L2.CX l.prog w) 4 (He.ga K "difference") _ ["one", "other", "text"] (spLD3 (He.ga K "Template") (He.ga K "LettersDiffer")) := ok_diL F27 TC R18 GLr d18 GCS g4 F4.kp d4
  have GCL : FnOk l.prog w K mg base (L2.CX l.prog w) 4 (He.ga K "compared") _ ["one", "other", "text"] (spLD3 (He.ga K "Template") (He.ga K "LettersDiffer")) := ok_cmL F28 TC R18 GLr d18 GCS g4 F4.kp d4
  have GCo : FnOk l.prog w K mg base (L2.CX l.prog w) 4 (He.ga K "comparison") _ ["one", "other"] (spLD2 (He.ga K "Template") (He.ga K "LettersDiffer")) := ok_coL F29 TC R18 GLr d18 GCS g4 F4.kp d4
  have cMp : Cl l.prog w K mg base "mapped" 1 ["machine", "answers"] spNo (He.ga K "mapped") _ := ⟨fnNo, g15, F15.kp, d15⟩
  have cMi : Cl l.prog w K mg base "mirrored" 1 ["machine"] spNo (He.ga K "mirrored") _ := ⟨fnNo, g16, F16.kp, d16⟩
  have GWt : FnOk l.prog w K mg base (L2.CX l.prog w) 5 (He.ga K "worded_texts") _ ["one", "other", "words"] (spLD3 (He.ga K "Template") (He.ga K "LettersDiffer")) := ok_wtL F30 cMp GCo g29 F29.kp d29
  have GEq : FnOk l.prog w K mg base (L2.CX l.prog w) 6 (He.ga K "equal_texts") _ ["one", "other"] (spLD2 (He.ga K "Template") (He.ga K "LettersDiffer")) := ok_eqL F31 GWt g30 F30.kp d30
  have GBe : FnOk l.prog w K mg base (L2.CX l.prog w) 6 (He.ga K "begins_texts") _ ["one", "other"] (spLD2 (He.ga K "Template") (He.ga K "LettersDiffer")) := ok_beL F32 GWt g30 F30.kp d30
  have GLe : FnOk l.prog w K mg base (L2.CX l.prog w) 6 (He.ga K "less_texts") _ ["one", "other"] (spLD2 (He.ga K "Template") (He.ga K "LettersDiffer")) := ok_leL F34 GWt g30 F30.kp d30
  have GEn : FnOk l.prog w K mg base (L2.CX l.prog w) 8 (He.ga K "ends_texts") _ ["one", "other"] (spLD2 (He.ga K "Template") (He.ga K "LettersDiffer")) := ok_enL F33 TC cMi M20 GM d20 GBe g32 F32.kp d32
  have cDs : Cl l.prog w K mg base "_law_draws" 1 ["_law_script"] (spDraws K) (He.ga K "_law_draws") _ := ⟨ok_draws F35 m_int m_list, g35, F35.kp, d35⟩
  have cLt : Cl l.prog w K mg base "_law_letters" 3 ["_law_rng", "_law_most"] spLetters (He.ga K "_law_letters") _ := ⟨ok_letters F41 F36 d36 g36 F37 d37 g37 m_int m_len m_min m_range, g41, F41.kp, d41⟩
  have cWd : Cl l.prog w K mg base "_law_word" 3 ["_law_rng", "_law_signs", "_law_most"] spWord (He.ga K "_law_word") _ := ⟨ok_word F43 F36 d36 g36 F37 d37 g37 m_int m_len m_range, g43, F43.kp, d43⟩
  have cSm : Cl l.prog w K mg base "_law_same" 3 ["_law_found", "_law_due"] (spSm K 3) (He.ga K "_law_same") _ := ⟨ok_same F38 T d38 g38 3, g38, F38.kp, d38⟩
  have cLT : Cl l.prog w K mg base "_law_turned" 1 ["_law_signs", "_law_my_turn", "_law_shown"] spTd (He.ga K "_law_turned") _ := ⟨ok_lturned F44, g44, F44.kp, d44⟩
  have cIt : Cl l.prog w K mg base "_law_items" 3 ["_law_rng", "_law_signs", "_law_most"] spItems (He.ga K "_law_items") _ := ⟨ok_items F45 m_range cDr cTn cPk, g45, F45.kp, d45⟩
  have cLx : Cl l.prog w K mg base "_law_text" 1 ["_law_signs", "_law_items_here"] (spLx K) (He.ga K "_law_text") _ := ⟨ok_lx F46 m_len, g46, F46.kp, d46⟩
  have cLf : Cl l.prog w K mg base "_law_fill" 2 ["_law_signs", "_law_items_here", "_law_shown"] (spLf K) (He.ga K "_law_fill") _ := ⟨ok_lf F47 m_len cLT, g47, F47.kp, d47⟩
  have cTm : Cl l.prog w K mg base "_law_template" 6 ["_law_signs", "_law_items_here"] (spLt K (He.ga K "Template")) (He.ga K "_law_template") _ := ⟨ok_ltm F48 MK_Template gT_Template GI d17 cLx, g48, F48.kp, d48⟩
  have cOr : Cl l.prog w K mg base "_law_order" 1 ["_law_signs", "_law_mine", "_law_yours"] spLOr (He.ga K "_law_order") _ := ⟨ok_lor F49 m_len m_range m_max, g49, F49.kp, d49⟩
  have cCp : Cl l.prog w K mg base "_law_compared" 2 ["_law_signs", "_law_mine", "_law_yours"] spTW (He.ga K "_law_compared") _ := ⟨ok_lcp F50 cOr, g50, F50.kp, d50⟩
  have cFc : Cl l.prog w K mg base "_law_facing" 4 ["_law_rng", "_law_signs"] spFc (He.ga K "_law_facing") _ := ⟨ok_fc F51 cIt cTn cPk cWd, g51, F51.kp, d51⟩
  exact ok_law lw cw (TB _ (List.Mem.head _)) m_range m_len TC gT_Template MK_Template GI d17 cDs cLt cDr cIt cFc cTm cWd cLf cSm cDi (kb_di F27) cOr cCm (kb_cm F28) cCp GDU GCU GDL GCL
    GCo g29 F29.kp d29 GEq g31 F31.kp d31 GBe g32 F32.kp d32 GEn g33 F33.kp d33 GLe g34 F34.kp d34
    h_FillError h_Missing (ok_field F39) g39 F39.kp d39 F40 g40 d40 E1 xm1 E2 xm2
end Own
open PySem PySem.W PySem.Calls PyProof.Rows
set_option maxHeartbeats 0 in
theorem PySem.Challenge.cw_ownfill_k21_differences_of_filled_templa_holds : PySem.Challenge.rw_ownfill_k21_differences_of_filled_templa.Holds := by
  w_on; o_law
  refine HandSHeadRun.head_any (r := Own.hR) (q := view Own.hR.prog [99]) (H := Own.hk) (ob := Own.hob) (M := 8000) (loose := Own.hnames) (d := HandSHeadRun.topDef Own.hR.prog 99) (kwd := []) (fun s => Own.obsO_eq s) (by kernel_rfl) (fun s => by kernel_rfl) Own.hrun (by kernel_rfl) (by kernel_rfl) (by kernel_rfl) (by rfl) (by first | assumption | decide +kernel) (by decide +kernel) ⟨rfl, rfl, rfl, rfl, rfl, by decide +kernel⟩ ?hw ?hc
  case hw => w_witness2
  case hc =>
    refine LamX.walk_ofTsE (l := PySem.Challenge.rw_ownfill_k21_differences_of_filled_templa) (n := 63) (k := 11) (x := "_law_script") (CX := fun _ => L2.CX0) rfl (by decide) (by kernel_rfl) ⟨rfl, by decide, by decide⟩ ?F (fun _ _ _ _ _ h => h)
    intro w mg fa h Y G hmg0
    obtain ⟨K, KX, c⟩ := Y
    have hmg : mg ("law" : PySem.Str) = some (.ref fa) := by
      have e : (HandSHeadRun.topDef Own.hR.prog 99).name = ("law" : PySem.Str) := by kernel_rfl
      rw [← e]
      exact hmg0
    exact ⟨K, KX, Own.ends KX G hmg c⟩
