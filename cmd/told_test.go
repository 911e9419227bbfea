package cmd_test

import (
	"bytes"
	"fmt"
	"reflect"
	"slices"
	"strings"
	"testing"
	"unsafe"

	"emendator/api"
	"emendator/cmd"
)

// made is a command as the tests write it: of its fields those are said that are not zero, Count is -1 if it is not said.
type made struct{ api.Cmd }

func named(name string) made { return made{api.Cmd{Name: name, Count: -1}} }

func (m made) in(l ...api.Addr) made {
	m.Range = l
	return m
}

func (m made) bang() made {
	m.Bang = true
	return m
}

func (m made) reg(c byte) made {
	m.Reg = c
	return m
}

func (m made) count(n int) made {
	m.Count = n
	return m
}

func (m made) to(a api.Addr) made {
	m.Dest = []api.Addr{a}
	return m
}

func (m made) pat(s string) made {
	m.Pat = s
	return m
}

func (m made) flags(s string) made {
	m.Flags = s
	return m
}

func (m made) arg(s string) made {
	m.Arg = s
	return m
}

// put is a new substitution.
func put(pat, rep string) made {
	m := named("s").pat(pat).arg("=")
	m.Rep = rep
	return m
}

// visit is a command for all lines in which a pattern fits.
func visit(name, pat, arg string) made { return named(name).pat(pat).arg(arg) }

func line(n int) api.Addr { return api.Addr{Kind: api.AdLine, N: n} }

var (
	dot = api.Addr{Kind: api.AdDot}
	end = api.Addr{Kind: api.AdEnd}
)

// shown is a command as tests tell it: not all, if it is long.
func shown(c api.Cmd) string { return fmt.Sprintf("%.600s", fmt.Sprintf("%+q", fmt.Sprintf("%+v", c))) }

// same says whether all fields are the same; of lists nil is the same as an empty one.
func same(a, b api.Cmd) bool {
	if !slices.Equal(a.Range, b.Range) || !slices.Equal(a.Dest, b.Dest) {
		return false
	}
	a.Range, a.Dest, b.Range, b.Dest = nil, nil, nil, nil
	return reflect.DeepEqual(a, b)
}

// behind stands in memory behind each text that is handed in: were it read, it would be seen.
const behind = "/g/ 7"

// lent is a text in memory that can be looked at and written afterwards.
type lent struct {
	s      string
	memory []byte
}

func lend(s string) lent { return lent{s, []byte(s + behind)} }

func (l lent) text() string { return unsafe.String(&l.memory[0], len(l.s)) }

// gone says that what was lent is as it was, and writes over it: an answer that shares memory with it is another one from then on.
func (l lent) gone(t testing.TB) {
	t.Helper()
	if string(l.memory) != l.s+behind {
		t.Errorf("%.99q was changed: it is %.99q", l.s, l.memory)
	}
	copy(l.memory, bytes.Repeat([]byte{0xee}, len(l.memory)))
}

// copied is a command in memory of its own.
func copied(c api.Cmd) api.Cmd {
	c.Range, c.Dest = copiedAddresses(c.Range), copiedAddresses(c.Dest)
	for _, s := range []*string{&c.Name, &c.Pat, &c.Rep, &c.Flags, &c.Arg} {
		*s = strings.Clone(*s)
	}
	return c
}

func copiedAddresses(l []api.Addr) []api.Addr {
	all := slices.Clone(l)
	for i := range all {
		all[i].Pat = strings.Clone(all[i].Pat)
	}
	return all
}

// parse is what Parse answers: the same to another call, of memory of its own, with what is handed in as it was.
func parse(t testing.TB, s string) (api.Cmd, api.Errno) {
	t.Helper()
	a := lend(s)
	c, e := cmd.Parse(a.text())
	first := copied(c)
	a.gone(t)
	if !same(c, first) {
		t.Errorf("Parse of %.99q shares memory with what was handed in", s)
	}
	clear(c.Range[:cap(c.Range)])
	if !slices.Equal(c.Dest, first.Dest) {
		t.Errorf("Parse of %.99q: two lists share memory", s)
	}
	clear(c.Dest[:cap(c.Dest)])
	again, f := cmd.Parse(s)
	if !same(again, first) || f != e {
		t.Errorf("Parse of %.99q: %s, error %d, then %s, error %d", s, shown(first), e, shown(again), f)
	}
	if e != api.OK && !same(first, api.Cmd{}) {
		t.Errorf("Parse of %.99q: %s beside error %d", s, shown(first), e)
	}
	return first, e
}

func check(t testing.TB, s string, want made) {
	t.Helper()
	if c, e := parse(t, s); e != api.OK || !same(c, want.Cmd) {
		t.Errorf("Parse of %.99q: %s, error %d, want %s", s, shown(c), e, shown(want.Cmd))
	}
}

func refuse(t testing.TB, want api.Errno, all ...string) {
	t.Helper()
	for _, s := range all {
		if c, e := parse(t, s); e != want {
			t.Errorf("Parse of %.99q: %s, error %d, want error %d", s, shown(c), e, want)
		}
	}
}
