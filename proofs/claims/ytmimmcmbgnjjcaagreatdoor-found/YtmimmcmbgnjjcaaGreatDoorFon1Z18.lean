import Derived.Test.YtmimmcmbgnjjcaaGreatDoorFon1Z13
set_option linter.unusedSimpArgs false
set_option linter.unusedVariables false
namespace Go.Proofs.YtmimmcmbgnjjcaaGreatDoor
open Go.RowKit
attribute [local go_sem] zD zW qJ
