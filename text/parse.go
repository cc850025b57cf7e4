package text

import (
	"strconv"
	"strings"
	"unicode/utf8"

	"sheaf/api"
	"sheaf/refusal"
)

// parser reads a JSON text from the place at on.
type parser struct {
	s  string
	at int
}

// parseText reads the whole text ahead of asking how deep the value is and
// whether names are different: what is no JSON text is told first.
func parseText(s string) api.Value {
	if len(s) > api.MaxText {
		panic(refusal.Error(api.ErrLong))
	}
	p := parser{s: s}
	v := p.value()
	if p.at < len(s) {
		panic(refusal.Error(api.ErrText))
	}
	if depth(v) > api.MaxDeep {
		panic(refusal.Error(api.ErrDeep))
	}
	if hasNameTwice(v) {
		panic(refusal.Error(api.ErrTwice))
	}
	return v
}

// value reads a value and the blanks around it.
func (p *parser) value() api.Value {
	p.skipBlanks()
	v := p.bareValue()
	p.skipBlanks()
	return v
}

func (p *parser) bareValue() api.Value {
	switch c := p.peek(); {
	case c == '"':
		return api.Value{Kind: api.Text, S: p.text()}
	case c == '[':
		return p.list()
	case c == '{':
		return p.object()
	case c == '-' || isDigit(c):
		return api.Value{Kind: api.Number, N: p.number()}
	}
	return p.word()
}

func (p *parser) word() api.Value {
	switch {
	case p.acceptWord("null"):
		return api.Value{Kind: api.Null}
	case p.acceptWord("true"):
		return api.Value{Kind: api.Bool, N: 1}
	case p.acceptWord("false"):
		return api.Value{Kind: api.Bool, N: 0}
	}
	panic(refusal.Error(api.ErrText))
}

func (p *parser) number() int64 {
	start := p.at
	p.accept('-')
	digits := p.at
	for isDigit(p.peek()) {
		p.at++
	}
	if p.at > digits+1 && p.s[digits] == '0' {
		panic(refusal.Error(api.ErrText))
	}
	n, err := strconv.ParseInt(p.s[start:p.at], 10, 64)
	if err != nil {
		panic(refusal.Error(api.ErrText))
	}
	return n
}

func (p *parser) list() api.Value {
	v := api.Value{Kind: api.List}
	for more := p.opens('[', ']'); more; more = p.goesOn(']') {
		v.L = append(v.L, p.value())
	}
	return v
}

func (p *parser) object() api.Value {
	v := api.Value{Kind: api.Object}
	for more := p.opens('{', '}'); more; more = p.goesOn('}') {
		p.skipBlanks()
		v.K = append(v.K, p.text())
		p.skipBlanks()
		p.expect(':')
		v.L = append(v.L, p.value())
	}
	return v
}

// opens reads a bracket, and the one that ends it if nothing is between.
func (p *parser) opens(first, last byte) bool {
	p.expect(first)
	p.skipBlanks()
	return !p.accept(last)
}

// goesOn reads what stands behind an entry: a comma or the last bracket.
func (p *parser) goesOn(last byte) bool {
	if p.accept(',') {
		return true
	}
	p.expect(last)
	return false
}

func (p *parser) text() string {
	p.expect('"')
	var b strings.Builder
	for !p.accept('"') {
		b.WriteRune(p.letter())
	}
	return b.String()
}

// letter reads a rune of a text, as it is or escaped.
func (p *parser) letter() rune {
	if p.accept('\\') {
		return p.escape()
	}
	r, size := utf8.DecodeRuneInString(p.s[p.at:])
	if r < 32 || r == utf8.RuneError && size <= 1 {
		panic(refusal.Error(api.ErrText))
	}
	p.at += size
	return r
}

func (p *parser) escape() rune {
	switch c := p.next(); c {
	case '"', '\\', '/':
		return rune(c)
	case 'b':
		return 8
	case 'f':
		return 12
	case 'n':
		return 10
	case 'r':
		return 13
	case 't':
		return 9
	case 'u':
		return p.codePoint()
	}
	panic(refusal.Error(api.ErrText))
}

// codePoint reads what is behind \u, and a second escape where two are one rune.
func (p *parser) codePoint() rune {
	high := p.fourDigits()
	if high < 0xd800 || high > 0xdfff {
		return high
	}
	if high > 0xdbff {
		panic(refusal.Error(api.ErrText))
	}
	p.expect('\\')
	p.expect('u')
	low := p.fourDigits()
	if low < 0xdc00 || low > 0xdfff {
		panic(refusal.Error(api.ErrText))
	}
	return 0x10000 + (high-0xd800)<<10 + (low - 0xdc00)
}

func (p *parser) fourDigits() rune {
	var r rune
	for range 4 {
		r = r<<4 + hexadecimal(p.next())
	}
	return r
}

func hexadecimal(c byte) rune {
	switch {
	case isDigit(c):
		return rune(c - '0')
	case 'a' <= c && c <= 'f':
		return rune(c-'a') + 10
	case 'A' <= c && c <= 'F':
		return rune(c-'A') + 10
	}
	panic(refusal.Error(api.ErrText))
}

func isDigit(c byte) bool { return '0' <= c && c <= '9' }

func (p *parser) skipBlanks() {
	for p.accept(' ') || p.accept('\t') || p.accept('\n') || p.accept('\r') {
	}
}

// peek answers 0 at the end: no token begins with that byte.
func (p *parser) peek() byte {
	if p.at == len(p.s) {
		return 0
	}
	return p.s[p.at]
}

func (p *parser) next() byte {
	if p.at == len(p.s) {
		panic(refusal.Error(api.ErrText))
	}
	p.at++
	return p.s[p.at-1]
}

func (p *parser) expect(c byte) {
	if p.next() != c {
		panic(refusal.Error(api.ErrText))
	}
}

func (p *parser) accept(c byte) bool {
	if p.at == len(p.s) || p.s[p.at] != c {
		return false
	}
	p.at++
	return true
}

func (p *parser) acceptWord(w string) bool {
	if !strings.HasPrefix(p.s[p.at:], w) {
		return false
	}
	p.at += len(w)
	return true
}

func depth(v api.Value) int {
	if v.Kind != api.List && v.Kind != api.Object {
		return 0
	}
	deepest := 0
	for _, inner := range v.L {
		deepest = max(deepest, depth(inner))
	}
	return deepest + 1
}

func hasNameTwice(v api.Value) bool {
	if !areDifferent(v.K) {
		return true
	}
	for _, inner := range v.L {
		if hasNameTwice(inner) {
			return true
		}
	}
	return false
}
