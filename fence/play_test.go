package fence_test

import (
	"slices"
	"testing"

	"sallyport/api"
	"sallyport/fence"
	"sallyport/tlb"
)

// drawn: an entry by a rule, of few pages, frames and marks.
func drawn(v uint64) api.Entry {
	return api.Entry{
		Valid: true, V: v&3 > 0, Page: int(v >> 4 % 4), Asid: int(v >> 12 % 3), Vmid: int(v >> 20 % 3),
		Frame: int(v >> 28 % 8), Bits: int(v >> 32 % 256), Host: 255, Guest: int(v >> 40 % 4),
	}
}

func drawnState(v uint64) api.State {
	return stateOf(v&1 > 0, marked(int(v>>8%3), v&2 > 0))
}

// fenceDrawn: by the call, or by an instruction that names the same.
func fenceDrawn(x *tlb.TLB, s api.State, call, at, mark int, byInsn bool) int {
	if !byInsn {
		return calls[call].do(x, s, at, mark)
	}
	i := api.Insn{Op: fences[call].op}
	if at != whatever {
		i.Rs1 = 11
		s.X[11] = uint64(at)<<8 | 0xfffffffffff00001
		if call == 2 {
			s.X[11] = uint64(at)<<6 | 0xfffffffffff00001
		}
	}
	if mark != whatever {
		i.Rs2 = 12
		s.X[12] = uint64(mark) | 0xabcdef00
	}
	return fence.Do(x, s, i)
}

// Behind each fence nothing that was named is there, and all that wasn't; the rows go on with what is left.
func TestWhatGoesIsWhatWasNamed(t *testing.T) {
	took := map[int]int{}
	for run := range 80 {
		x := tlb.New()
		for step := range 120 {
			v := mixed(run*1000 + step)
			if v%8 > 1 {
				x.Fill(drawn(mixed(int(v>>33))), int(v>>8%16))
				continue
			}
			s, call, at, mark := drawnState(v>>3), int(v>>20%3), int(v>>24%5)-1, int(v>>28%4)-1
			was := x.All()
			n := fenceDrawn(x, s, call, at, mark, v>>32&1 > 0)
			named := func(e api.Entry) bool { return calls[call].goes(e, s, at, mark) }
			is := x.All()
			if i := slices.IndexFunc(is, named); i >= 0 {
				t.Fatalf("P14.3: %s of %d, %d: %+v is there still", calls[call].name, at, mark, is[i])
			}
			if left := slices.DeleteFunc(slices.Clone(was), named); !slices.Equal(is, left) || n != len(was)-len(left) {
				t.Fatalf("P14.3: %s of %d, %d: %d went, there are %+v, want %+v", calls[call].name, at, mark, n, is, left)
			}
			took[call] += n
		}
	}
	for call := range calls {
		if took[call] == 0 {
			t.Errorf("P14.3: %s never took any", calls[call].name)
		}
	}
}

// What is walked anew behind a fence can be kept again, in the place that came free.
func TestWalkedAnew(t *testing.T) {
	all := neighbours(core)
	for call := range calls {
		s := stateOf(true, marked(core.Vmid, false))
		at, mark := core.Page, core.Asid
		if calls[call].name == "Host" {
			at, mark = core.Guest, core.Vmid
		}
		for _, byInsn := range []bool{false, true} {
			x := tlbOf(t, all)
			fenceDrawn(x, s, call, at, mark, byInsn)
			if e, ok := x.Look(core.Page, true, core.Asid, core.Vmid); ok {
				t.Errorf("P14.3: behind %s there is %+v", calls[call].name, e)
			}
			anew := like(core, func(e *api.Entry) { e.Frame, e.Guest = 99, 98 })
			x.Fill(anew, 15)
			if e, ok := x.Look(core.Page, true, core.Asid, core.Vmid); !ok || e != anew || x.All()[0] != anew {
				t.Errorf("P14.3: behind %s, filled anew, there is %+v", calls[call].name, e)
			}
		}
	}
}
