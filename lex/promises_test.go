package lex_test

import (
	"fmt"
	"math/rand"
	"slices"
	"strings"
	"testing"

	"plumbline/api"
	"plumbline/lex"
)

// TestP10_2Spell: the tokens of a text are those of their Spell, unless that is too
// long.
func TestP10_2Spell(t *testing.T) {
	valid := 0
	for _, s := range append(texts(4000), "", "#", "x1:=-2", "... .. .", "- > ->") {
		ts, _, e := lex.All(s)
		if e != api.OK {
			continue
		}
		valid++
		again, _, e := lex.All(lex.Spell(ts))
		if e != api.OK || !slices.Equal(plain(again), plain(ts)) {
			t.Errorf("%q: %s, then %s, %d", s, shown(ts), shown(again), e)
		}
		expect(t, s, lex.Spell(again), lex.Spell(ts))
	}
	if valid < 1500 {
		t.Errorf("only %d texts have no error", valid)
	}
	ts, _, _ := lex.All(strings.Repeat("(", 16384))
	expect(t, "a long Spell", read(lex.Spell(ts)), "ErrLong at 1:1")
}

// TestP10_2Gaps puts other spaces and comments between tokens.
func TestP10_2Gaps(t *testing.T) {
	r := rand.New(rand.NewSource(2))
	for _, s := range texts(3000) {
		ts, _, e := lex.All(s)
		if e != api.OK {
			continue
		}
		other := gap(r)
		for _, token := range ts {
			other += token.Text + one(r, " ", "\t", "\n", "#\n", " # a ? 007\n\t", "#\r\n#\n") + gap(r)
		}
		again, _, e := lex.All(other)
		if e != api.OK || !slices.Equal(plain(again), plain(ts)) {
			t.Errorf("%q: %s, then %s, %d", other, shown(ts), shown(again), e)
		}
	}
}

// TestP10_3Positions: the text of each token is at its position, what is between them
// are spaces and comments, and End is behind all of it.
func TestP10_3Positions(t *testing.T) {
	valid := 0
	for _, s := range texts(4000) {
		ts, _, e := lex.All(s)
		if e != api.OK {
			continue
		}
		valid++
		lines := strings.SplitAfter(s, "\n")
		at := 0
		for _, token := range ts {
			place := token.At.Col - 1
			for _, line := range lines[:token.At.Line-1] {
				place += len(line)
			}
			if place > len(s) || token.At.Col < 1 || token.At.Col > len(lines[token.At.Line-1])+1 || !strings.HasPrefix(s[place:], token.Text) {
				t.Fatalf("%q: no token %v", s, token)
			}
			expect(t, s, s[at:at+len(between.FindString(s[at:]))], s[at:place])
			at = place + len(token.Text)
		}
		if at != len(s) || ts[len(ts)-1].Kind != lex.End {
			t.Errorf("%q: End at %d", s, at)
		}
	}
	if valid < 1500 {
		t.Errorf("only %d texts have no error", valid)
	}
}

// TestP10_1NewMemory overwrites what is returned, and the tokens that are passed.
func TestP10_1NewMemory(t *testing.T) {
	const s = "x1 := -2 # two"
	ts, _, _ := lex.All(s)
	before := shown(ts)
	for i := range ts[:cap(ts)] {
		ts[:cap(ts)][i] = lex.Token{Kind: lex.Big, Text: "X"}
	}
	expect(t, s, read(s), before)

	ts, _, _ = lex.All(s)
	all := append(ts, lex.Token{Kind: lex.Num, Text: "5"})
	want := fmt.Sprint(all)
	spelled := lex.Spell(all[:len(ts)])
	expect(t, s, fmt.Sprint(all), want)
	clear(all)
	expect(t, s, spelled, "x1 := - 2 ")
}
