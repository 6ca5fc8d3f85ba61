import Derived.Shelf.Sort.Plain
import Derived.Ground.Names2Prog
import Derived.Ground.NamesProg
import Derived.Shelf.Slices.In.SortNone
import Derived.Test.YtinkdlmimiefaaaGreatProg
namespace Go.Proofs
open Go.Shelf
def Tryz.lays189_ren:Go.Shelf.Ren:=⟨fun | 189=>69 | 125=>138 | 257=>137 | 128=>172 | 129=>173 | 294=>163 | 295=>164 | 296=>165 | 297=>166 | 298=>167 | 299=>168 | 216=>169 | 300=>170 | 301=>171 | 328=>178 | 329=>179 | 330=>180 | 331=>181 | 332=>182 | 215=>175 | 343=>185 | n=>n,fun | 28=>41 | 3=>3 | 46=>178 | 0=>0 | 51=>205 | 53=>207 | 4=>4 | 183=>199 | 182=>198 | 131=>136 | 5=>5 | 9=>9 | 218=>211 | 222=>215 | 228=>219 | 229=>220 | n=>n,fun | n=>n⟩
theorem Tryz.lays189:Go.Proofs.Lays.n189 Tryz.prog Tryz.lays189_ren:={
  mixed:=by kernel_rfl
  f125:=Tryz.func138.trans (congrArg some (by kernel_rfl))
  f128:=Tryz.func172.trans (congrArg some (by kernel_rfl))
  f129:=Tryz.func173.trans (congrArg some (by kernel_rfl))
  f189:=Tryz.func69.trans (congrArg some (by kernel_rfl))
  f215:=Tryz.func175.trans (congrArg some (by kernel_rfl))
  f216:=Tryz.func169.trans (congrArg some (by kernel_rfl))
  f257:=Tryz.func137.trans (congrArg some (by kernel_rfl))
  f294:=Tryz.func163.trans (congrArg some (by kernel_rfl))
  f295:=Tryz.func164.trans (congrArg some (by kernel_rfl))
  f296:=Tryz.func165.trans (congrArg some (by kernel_rfl))
  f297:=Tryz.func166.trans (congrArg some (by kernel_rfl))
  f298:=Tryz.func167.trans (congrArg some (by kernel_rfl))
  f299:=Tryz.func168.trans (congrArg some (by kernel_rfl))
  f300:=Tryz.func170.trans (congrArg some (by kernel_rfl))
  f301:=Tryz.func171.trans (congrArg some (by kernel_rfl))
  f328:=Tryz.func178.trans (congrArg some (by kernel_rfl))
  f329:=Tryz.func179.trans (congrArg some (by kernel_rfl))
  f330:=Tryz.func180.trans (congrArg some (by kernel_rfl))
  f331:=Tryz.func181.trans (congrArg some (by kernel_rfl))
  f332:=Tryz.func182.trans (congrArg some (by kernel_rfl))
  f343:=Tryz.func185.trans (congrArg some (by kernel_rfl))
  t0:=Tryz.underlying0
  a0:=Tryz.isAgg0
  z0:=Tryz.sizeOf0
  v0:=Tryz.zeroValue0
  t3:=Tryz.underlying3
  a3:=Tryz.isAgg3
  z3:=Tryz.sizeOf3
  v3:=Tryz.zeroValue3
  t4:=Tryz.underlying4
  a4:=Tryz.isAgg4
  z4:=Tryz.sizeOf4
  v4:=Tryz.zeroValue4
  t5:=Tryz.underlying5
  a5:=Tryz.isAgg5
  z5:=Tryz.sizeOf5
  v5:=Tryz.zeroValue5
  t9:=Tryz.underlying9
  a9:=Tryz.isAgg9
  z9:=Tryz.sizeOf9
  v9:=Tryz.zeroValue9
  t28:=Tryz.underlying41
  a28:=Tryz.isAgg41
  z28:=Tryz.sizeOf41
  v28:=Tryz.zeroValue41
  t46:=Tryz.underlying178
  a46:=Tryz.isAgg178
  z46:=Tryz.sizeOf178
  v46:=Tryz.zeroValue178
  t51:=Tryz.underlying205
  a51:=Tryz.isAgg205
  z51:=Tryz.sizeOf205
  v51:=Tryz.zeroValue205
  t53:=Tryz.underlying207
  a53:=Tryz.isAgg207
  z53:=Tryz.sizeOf207
  v53:=Tryz.zeroValue207
  t131:=Tryz.underlying136
  a131:=Tryz.isAgg136
  z131:=Tryz.sizeOf136
  v131:=Tryz.zeroValue136
  t182:=Tryz.underlying198
  a182:=Tryz.isAgg198
  z182:=Tryz.sizeOf198
  v182:=Tryz.zeroValue198
  t183:=Tryz.underlying199
  a183:=Tryz.isAgg199
  z183:=Tryz.sizeOf199
  v183:=Tryz.zeroValue199
  t218:=Tryz.underlying211
  a218:=Tryz.isAgg211
  z218:=Tryz.sizeOf211
  v218:=Tryz.zeroValue211
  t222:=Tryz.underlying215
  a222:=Tryz.isAgg215
  z222:=Tryz.sizeOf215
  v222:=Tryz.zeroValue215
  t228:=Tryz.underlying219
  a228:=Tryz.isAgg219
  z228:=Tryz.sizeOf219
  v228:=Tryz.zeroValue219
  t229:=Tryz.underlying220
  a229:=Tryz.isAgg220
  z229:=Tryz.sizeOf220
  v229:=Tryz.zeroValue220 }
open Go.Sort Go.RowKit in
theorem Tryz.slices_Sort_int (blk off cap:Nat) (zs:List Int) (w:World) (hH:Holds (Value.int .i64) w blk off zs.toArray) (hblk:blk < w.heap.size) (hsz:zs.length < 4611686018427387904) :
    Calls Tryz.prog 69 #[.slice (some ⟨blk,off,none⟩) zs.length cap] w fun e w' =>
      e=.returned (.tuple #[])∧∃ n os,w'=grow (putRow (Value.int .i64) (Sort.ahead w n) blk off (zs.mergeSort fun x y=>decide (x≤y)).toArray) os:=Any.slices_Sort_int Tryz.lays189 blk off cap zs w hH hblk hsz
theorem Tryz.slices_Sort_int_none (p:Option Addr) (cap:Nat) (w:World) :
    Calls Tryz.prog 69 #[.slice p 0 cap] w fun e w'=>e=.returned (.tuple #[])∧w'=w:=Any.slices_Sort_int_none Tryz.lays189 p cap w
end Go.Proofs
