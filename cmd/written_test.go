package cmd_test

import (
	"math/rand"
	"strconv"
	"strings"
	"testing"

	"emendator/api"
	"emendator/cmd"
)

// The way back: a command is chosen, then written with what may stand ahead, between and behind; so no reading but the program's own says what it is.

// pen writes a command at random.
type pen struct {
	*rand.Rand
	text string
	made
}

func (p *pen) write(s string) { p.text += s }

func (p *pen) among(all ...string) string { return all[p.Intn(len(all))] }

func (p *pen) blanks() { p.write(p.among("", "", " ", "\t", " \t ")) }

func (p *pen) ahead() {
	p.write(p.among("", "", "", ":", " : \t:"))
	switch p.Intn(6) {
	case 0:
		p.write("3")
		p.made = p.in(line(3))
	case 1:
		p.write("%")
		p.made = p.in(line(1), end)
	case 2:
		p.write(`/\/s/ , $`)
		p.made = p.in(api.Addr{Kind: api.AdFore, Pat: "/s"}, end)
	}
	p.blanks()
}

func (p *pen) bangs() {
	if p.Intn(2) == 0 {
		p.write("!")
		p.made = p.bang()
	}
}

func (p *pen) number() {
	p.blanks()
	if p.Intn(2) == 0 {
		digits := strconv.Itoa(p.Intn(1000000000))
		p.write(strings.Repeat("0", p.Intn(10-len(digits))) + digits)
		n, _ := strconv.Atoi(digits)
		p.made = p.count(n)
	}
}

// register is never right behind letters that it would be one word with.
func (p *pen) register() {
	if p.Intn(2) == 0 {
		c := p.among("a", "z", "A", "\"", "_", "@", "\xff", "\x00", ".")
		p.write(" ")
		p.blanks()
		p.write(c)
		p.made = p.reg(c[0])
	}
}

func (p *pen) destination() {
	p.blanks()
	switch p.Intn(3) {
	case 0:
		p.write("$")
		p.made = p.to(end)
	case 1:
		p.write("12+3-1")
		p.made = p.to(api.Addr{Kind: api.AdLine, N: 12, Off: 2})
	case 2:
		p.write(`?a\?b?`)
		p.made = p.to(api.Addr{Kind: api.AdBack, Pat: "a?b"})
	}
}

// between is a text up to a sign, and what it stands for.
func (p *pen) between(sign string) string {
	text := ""
	for range p.Intn(6) {
		switch c := p.among("a", "3", " ", "g", `\\`, `\n`, `\&`, sign); c {
		case sign:
			p.write(`\` + sign)
			text += sign
		default:
			p.write(c)
			text += c
		}
	}
	p.write(sign)
	return text
}

func (p *pen) sign() string {
	sign := p.among("/", ",", "?", "~", ";", "=", "'", "_", "\n", "\x00", "\x80", "\xff")
	p.blanks()
	p.write(sign)
	return sign
}

func (p *pen) flagged() {
	p.blanks()
	flags := ""
	for range p.Intn(4) {
		flags += p.among("&", "c", "e", "g", "i", "I", "n")
	}
	if p.Name == "&" {
		p.write(" ") // lest a flag & makes it another name
	}
	p.write(flags)
	p.made = p.flags(flags)
	p.number()
}

func (p *pen) rest(ahead string) string {
	text := p.among("", "x", "d", " 3 ", "norm Ay", "!x", "\x00\xff\n")
	p.write(ahead + text)
	return text
}

// follow writes what may stand behind a name.
func (p *pen) follow() {
	switch p.Name {
	case "d", "y":
		p.bangs()
		p.register()
		p.number()
	case "pu":
		p.bangs()
		p.register()
	case "@":
		p.register()
	case "j", "u":
		p.bangs()
		p.number()
	case "m", "t":
		p.destination()
	case "k":
		p.blanks()
		c := p.among("a", "9", "!", "\xff")
		p.write(c)
		p.made = p.reg(c[0])
	case "s":
		if p.Intn(3) > 0 {
			sign := p.sign()
			pat := p.between(sign)
			p.made = p.pat(pat).arg("=")
			p.Rep = p.between(sign)
		}
		p.flagged()
	case "&", "&&", "~":
		p.flagged()
	case "g", "v":
		if p.Name == "g" {
			p.bangs()
		}
		p.made = p.pat(p.between(p.sign()))
		if p.Arg = p.rest(""); p.Arg == "" {
			p.Arg = "p"
		}
	case "norm":
		p.bangs()
		p.Arg = p.rest(p.among(" ", "\t")) + "."
		p.write(".")
	case ">", "<":
		p.Arg = strings.Repeat(p.Name, 1+p.Intn(4))
		p.write(p.Arg[1:])
		p.number()
	default:
		if p.Name != "red" {
			p.number()
		}
	}
}

// TestWrittenAtRandom: a command that is written is read as what it was.
func TestWrittenAtRandom(t *testing.T) {
	r := rand.New(rand.NewSource(150))
	names := append(cmd.Names(), ">", "<", "&&", "&", "~", "@", "=")
	for range 40000 {
		name := names[r.Intn(len(names))]
		p := &pen{Rand: r, made: named(name)}
		p.ahead()
		p.write(p.among(append(words()[name], name)...))
		p.follow()
		if name != "g" && name != "v" && name != "norm" {
			p.blanks()
		}
		check(t, p.text, p.made)
		if t.Failed() {
			return
		}
	}
}
