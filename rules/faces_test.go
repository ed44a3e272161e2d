// Package rules has tests alone: of what all packages of the project have to keep.
package rules

import (
	"testing"

	"cocoon/alive"
	"cocoon/api"
	"cocoon/borrows"
	"cocoon/build"
	"cocoon/check"
	"cocoon/code"
	"cocoon/compile"
	"cocoon/drive"
	"cocoon/emit"
	"cocoon/exec"
	"cocoon/flags"
	"cocoon/graph"
	"cocoon/kinds"
	"cocoon/layout"
	"cocoon/lexis"
	"cocoon/loans"
	"cocoon/machine"
	"cocoon/mem"
	"cocoon/mir"
	"cocoon/moves"
	"cocoon/parse"
	"cocoon/pins"
	"cocoon/sem"
	"cocoon/tree"
)

// What several layers answer.
type (
	states = [][][]bool
	source = api.Source
	body   = api.Body
)

// The calls of the layers 1 to 16: this is compiled only as long as each has the signature that its chapter tells.
var (
	_ func(int) *mem.Memory                                            = mem.New
	_ func(*mem.Memory, int) (api.Word, api.Errno)                     = (*mem.Memory).Alloc
	_ func(*mem.Memory, api.Word) api.Errno                            = (*mem.Memory).Free
	_ func(*mem.Memory, api.Word) (api.Word, api.Errno)                = (*mem.Memory).Load
	_ func(*mem.Memory, api.Word, api.Word) api.Errno                  = (*mem.Memory).Store
	_ func(*mem.Memory, api.Word, api.Word, int) api.Errno             = (*mem.Memory).Copy
	_ func(*mem.Memory, api.Word, int) api.Errno                       = (*mem.Memory).Clear
	_ func(*mem.Memory, api.Word) bool                                 = (*mem.Memory).Set
	_ func(*mem.Memory) int                                            = (*mem.Memory).Live
	_ func(*mem.Memory) int                                            = (*mem.Memory).Words
	_ func(api.Word, int) (api.Word, api.Errno)                        = mem.Off
	_ func(api.Ins) []int                                              = code.Reads
	_ func(api.Ins) (int, bool)                                        = code.Writes
	_ func(api.Ins) bool                                               = code.Falls
	_ func(api.Program) []int                                          = code.Kinds
	_ func(api.Program) bool                                           = code.Valid
	_ func(api.Program) string                                         = code.Text
	_ func(api.Program, int) (*machine.Machine, api.Errno)             = machine.New
	_ func(*machine.Machine, int, []int) (api.Word, machine.Result)    = (*machine.Machine).Start
	_ func(*machine.Machine, api.Word, int, int) (machine.Result, int) = (*machine.Machine).Poll
	_ func(*machine.Machine, api.Word, int, int) (machine.Result, int) = (*machine.Machine).Cancel
	_ func(*machine.Machine, int, int)                                 = (*machine.Machine).Complete
	_ func(*machine.Machine) []api.Event                               = (*machine.Machine).Told
	_ func(*machine.Machine) int                                       = (*machine.Machine).Live
	_ func(string) ([]api.Token, api.Errno, int)                       = lexis.Lex
	_ func(string) bool                                                = lexis.Word
	_ func(string) bool                                                = lexis.Upper
	_ func(string) bool                                                = lexis.Reserved
	_ func(api.Ty) string                                              = tree.Type
	_ func(api.Place) string                                           = tree.Place
	_ func(api.Oper) string                                            = tree.Oper
	_ func(api.Rv) string                                              = tree.Set
	_ func(source) string                                              = tree.Text
	_ func(source, source) bool                                        = tree.Same
	_ func(source) bool                                                = tree.Valid
	_ func(string) (source, api.Errno, int)                            = parse.Parse
	_ func(source, string) int                                         = kinds.StructOf
	_ func(source, string) int                                         = kinds.EnumOf
	_ func(source, string) int                                         = kinds.FnOf
	_ func(source, api.Ty) (api.Ty, api.Errno)                         = kinds.Resolve
	_ func(api.Ty) bool                                                = kinds.Holds
	_ func(api.Ty) bool                                                = kinds.Copies
	_ func(source, api.Ty) bool                                        = kinds.Drops
	_ func(source, api.Ty) int                                         = kinds.Size
	_ func(source, api.Ty, int) int                                    = kinds.Offset
	_ func(source) (api.Errno, int)                                    = kinds.Check
	_ func(source, []api.Local, api.Place) (api.Ty, bool, api.Errno)   = check.Place
	_ func(source, []api.Local, api.Oper) (api.Ty, api.Errno)          = check.Oper
	_ func(source, []api.Local, api.Rv) (api.Ty, api.Errno)            = check.Set
	_ func([]api.Stmt) bool                                            = check.Ends
	_ func(source) (api.Errno, int)                                    = check.Check
	_ func(source, body, api.Spot) (api.Ty, bool, api.Errno)           = mir.Type
	_ func(source, body, api.Value) (api.Ty, api.Errno)                = mir.Value
	_ func(api.Tm) []int                                               = mir.Succ
	_ func(source, body) bool                                          = mir.Valid
	_ func(body) string                                                = mir.Text
	_ func(source, int) body                                           = build.Body
	_ func(source) []body                                              = build.Bodies
	_ func(body) [][]int                                               = graph.Preds
	_ func(body) []bool                                                = graph.Reach
	_ func(body, int, []bool, []graph.Change, bool) states             = graph.Flow
	_ func(body, int, []graph.Change) states                           = graph.Back
	_ func(source, body) states                                        = moves.May
	_ func(source, body) states                                        = moves.Must
	_ func(source, body) (api.Errno, int)                              = moves.Check
	_ func(source, body) states                                        = alive.Alive
	_ func(source, body) []int                                         = alive.Saved
	_ func(source, body) states                                        = alive.Storage
	_ func(source, body) [][]bool                                      = alive.Holds
	_ func(body) []loans.Loan                                          = loans.Loans
	_ func(source, body) states                                        = loans.Held
	_ func(api.Spot, api.Spot) bool                                    = loans.Overlap
	_ func(source, body) (api.Errno, int)                              = borrows.Check
	_ func(source, body, int, int) []int                               = borrows.Active
	_ func(source, body) [][]bool                                      = borrows.Lent
	_ func(source, body) bool                                          = pins.Unpin
	_ func(source, body) states                                        = pins.Polled
	_ func(source, []body, body) (api.Errno, int)                      = pins.Check
)

// Those of the layers 17 to 23.
var (
	_ func(source, body) layout.Layout                                = layout.Of
	_ func(source, body, api.Spot) []int                              = layout.Spot
	_ func(api.In) bool                                               = flags.Aborts
	_ func(source, body, int, int) []flags.Todo                       = flags.Todos
	_ func(source, body) []int                                        = flags.Flags
	_ func(source, []body) (api.Program, bool)                        = emit.Program
	_ func(source, body) int                                          = emit.Words
	_ func(source, []body) *sem.World                                 = sem.New
	_ func(*sem.World, int, []int) (int, bool)                        = (*sem.World).Start
	_ func(*sem.World, int, int, int) sem.Result                      = (*sem.World).Poll
	_ func(*sem.World, int, int) sem.Result                           = (*sem.World).Cancel
	_ func(*sem.World, int, int)                                      = (*sem.World).Complete
	_ func(*sem.World) []api.Event                                    = (*sem.World).Told
	_ func(*sem.World) int                                            = (*sem.World).Live
	_ func(exec.Engine, []api.Act, int) []api.Event                   = exec.Drive
	_ func(api.Program, []bool, []api.Act, int, int, int) []api.Event = exec.Run
	_ func(source, []body) []bool                                     = drive.Open
	_ func(source, []body, []api.Act, int, int) []api.Event           = drive.Run
	_ func(string) (compile.Unit, []compile.Diag)                     = compile.Compile
	_ func(string, []api.Act, int, int, int) ([]api.Event, bool)      = compile.Run
	_ func(string, []api.Act, int, int) ([]api.Event, bool)           = compile.Mean
)

// The types of the layers, field by field; each is compiled only if the fields stand in this order.
var (
	_ = machine.Result{Kind: machine.Kind(0), N: 0}
	_ = struct {
		Block, Step int
		Gen, Kill   []int
	}(graph.Change{})
	_ = struct {
		Block, Step int
		S           api.Spot
		Mut         bool
	}(loans.Loan{})
	_ = struct {
		Offs  []int
		Words int
	}(layout.Layout{})
	_ = struct {
		Local int
		Sure  bool
	}(flags.Todo{})
	_ = struct {
		Kind sem.Kind
		N    int
	}(sem.Result{})
	_ = struct {
		Kind machine.Kind
		N    int
	}(exec.Out{})
	_ = struct {
		Start    func(co int, args []int) (int, exec.Out)
		Poll     func(frame, task int) exec.Out
		Cancel   func(frame, task int) exec.Out
		Complete func(event, n int)
		Told     func() []api.Event
	}(exec.Engine{})
	_ = struct {
		Err api.Errno
		At  int
	}(compile.Diag{})
	_ = struct {
		Source  api.Source
		Bodies  []api.Body
		Program api.Program
		Open    []bool
	}(compile.Unit{})
)

// TestKinds holds the numbers of the layers' own constants against those of the chapters.
func TestKinds(t *testing.T) {
	for i, k := range []machine.Kind{machine.Yielded, machine.Pending, machine.Done, machine.Aborted, machine.Fuel, machine.Memory, machine.Bad} {
		if int(k) != i {
			t.Errorf("the machine's kind %d is %d", i, k)
		}
	}
	for i, k := range []sem.Kind{sem.Yielded, sem.Pending, sem.Done, sem.Aborted, sem.Fuel, sem.Stuck} {
		if int(k) != i {
			t.Errorf("the world's kind %d is %d", i, k)
		}
	}
	if kinds.Most != 1024 {
		t.Errorf("Most is %d", kinds.Most)
	}
}
