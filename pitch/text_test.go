package pitch_test

import (
	"fmt"
	"math/rand/v2"
	"slices"
	"strings"
	"testing"

	"schisma/api"
	"schisma/pitch"
)

// The tests of this file check C11 and C12, and with them P3.7.

func TestText(t *testing.T) {
	for want, p := range map[string]api.Pitch{
		"1": {}, "2": {12}, "3": {0, 12}, "5": {0, 0, 12}, "7": {0, 0, 0, 12}, "11": {0, 0, 0, 0, 12}, "13": {0, 0, 0, 0, 0, 12},
		"2^-1*3": {-12, 12}, "5^1/4": {0, 0, 3}, "2^-4*3^4*5^-1": {-48, 48, -12}, "2*3*5*7*11*13": {12, 12, 12, 12, 12, 12},
		"2^48": {576}, "2^-48": {-576}, "13^575/12": {0, 0, 0, 0, 0, 575}, "13^-575/12": {0, 0, 0, 0, 0, -575},
		"2^1/12": {1}, "2^-1/12": {-1}, "2^1/6": {2}, "2^1/3": {4}, "2^5/12": {5}, "2^-1/2": {-6}, "2^2/3": {8}, "2^3/4": {9}, "2^5/6": {10}, "2^13/12": {13}, "2^3/2": {18}, "2^2": {24}, "2^-2": {-24},
		"2^-48*3^-575/12*5^-287/6*7^-191/4*11^-143/3*13^-95/2": {-576, -575, -574, -573, -572, -570},
	} {
		s, e := pitch.Text(p)
		expect(t, fmt.Sprint("Text of ", p), s, e, want)
		back, e := pitch.Parse(want)
		expect(t, "Parse of "+want, back, e, p)
	}
	for _, p := range outside(part) {
		s, e := pitch.Text(p)
		refused(t, fmt.Sprint("Text of ", p), s, e, api.ErrArg)
	}
}

// roundTrip checks the text of p, and that it leads back to p.
func roundTrip(t *testing.T, p api.Pitch) {
	t.Helper()
	s, e := pitch.Text(p)
	expect(t, fmt.Sprint("Text of ", p), s, e, written(p))
	back, e := pitch.Parse(s)
	expect(t, "Parse of "+s, back, e, p)
}

// TestP3_7Strings checks all exponents of each prime, alone and between others, and many pitches.
func TestP3_7Strings(t *testing.T) {
	for i := range 6 {
		for e := -part; e <= part; e++ {
			var p api.Pitch
			p[i] = e
			roundTrip(t, p)
			p = api.Pitch{12, -12, 7, 576, -5, 24}
			p[i] = e
			roundTrip(t, p)
		}
	}
	r := source()
	for range 20000 {
		roundTrip(t, draw(r, []int{2, 13, 100, part}[r.IntN(4)]))
	}
	for _, p := range pitches() {
		roundTrip(t, p)
	}
}

// TestP3_7OneToOne checks that different pitches have different texts.
func TestP3_7OneToOne(t *testing.T) {
	texts := map[string]api.Pitch{}
	r := source()
	for range 50000 {
		p := api.Pitch(draw(r, []int{1, 3, 24, part}[r.IntN(4)]))
		s := text(p)
		if before, ok := texts[s]; ok && before != p {
			t.Errorf("%v and %v have the same text %s", before, p, s)
		}
		texts[s] = p
	}
}

func TestParseOfOtherForms(t *testing.T) {
	for _, s := range []string{
		"", " ", "0", "-1", "+1", "01", "1/1", "1^1", "1*1", "1*2", "2*1", "11*", "1^2", "1*",
		"3*2", "2^2/2", "2^1", "2*2", "2*2^2", "2^2*2", "5*3*2", "2*5*3", "13*11", "3*3^-1", "2*2^-1", "2*3*2",
		"2^0", "2^-0", "2^0/1", "2^0/5", "2^00", "2^01", "2^007", "2^+2", "2^--2", "2^-", "2^", "2^/2", "2^-/2", "2^1/", "2^1/-2", "2^-1/-2", "2^1/+2", "2^1/0", "2^0/0", "2^1/02", "2^2/1", "2^12/12", "2^12/1",
		"2^2/4", "2^3/12", "2^6/12", "2^-2/4", "2^1/5", "2^1/7", "2^1/8", "2^1/9", "2^1/10", "2^1/11", "2^1/24", "2^1/13", "2^5/5", "2^10/5", "2^4/24", "2^24/24",
		"2^49", "2^-49", "2^577/12", "2^-577/12", "2^576/12", "2^193/4", "2^97/2", "2^588", "2^4294967297", "2^18446744073709551617", "2^9223372036854775807", "2^-9223372036854775808", "2^1/9223372036854775807", "2^1/18446744073709551617", "2^1537228672809129302", "2^6148914691236517206/4",
		"4", "6", "8", "9", "10", "12", "17", "19", "20", "21", "22", "23", "33", "2^-1*17", "-2", "+2", "02", "2.0", "2^0.5", "2^.5", "2^1e1", "2^1_0", "2^0x1", "0x2", "2e0",
		"*", "*2", "2*", "2**3", "2*3*", "*2*3", "2 *3", "2* 3", " 2", "2 ", "2\n", "2^ 2", "2 ^2", "2^2 ", "2\x00", "\x002", "2^^2", "2^2^2", "^2", "^", "/", "-", "2/1", "3/2", "2/3", "2^1/2/2", "2^1//2", "2^(1/2)", "(2)", "2^2*", "2,3", "2·3", "2×3", "2*3x", "x", "2^x", "2^1/x",
		"\u0662", "\uff12", "2^\u0662", "2^\u00b2", "2\u00b2", "2^\u22121", "\xb2", "2\xb2", "2^\xb2", "\xff*2",
	} {
		p, e := pitch.Parse(s)
		refused(t, fmt.Sprintf("Parse of %q", s), p, e, api.ErrForm)
	}
}

func TestParseOfLongStrings(t *testing.T) {
	const n = 1 << 20
	for _, s := range []string{
		strings.Repeat("2", n), strings.Repeat("1", n), strings.Repeat("0", n), strings.Repeat("2*", n), strings.Repeat("2*", n) + "2", strings.Repeat("*", n), "2^" + strings.Repeat("1", n), "2^1/" + strings.Repeat("1", n), "2^1/" + strings.Repeat("0", n), "2^" + strings.Repeat("-", n) + "2", "2" + strings.Repeat("^", n),
		"2^" + strings.Repeat("0", n) + "2", "2*" + strings.Repeat("3", n), "2" + strings.Repeat(" ", n), strings.Repeat("2^", n), strings.Repeat("\x00", n), strings.Repeat("x", n), "2*3*5*7*11*13*" + strings.Repeat("17*", n),
	} {
		p, e := pitch.Parse(s)
		refused(t, fmt.Sprintf("Parse of %d bytes, %.20q ..", len(s), s), p, e, api.ErrForm)
	}
}

// shortTexts returns the texts with up to most bytes of all pitches whose primes have the index i or a greater one; there is no text for the unison among them.
func shortTexts(i, most int) []string {
	if i == len(primes) {
		return nil
	}
	list := shortTexts(i+1, most)
	for e := -part; e <= part; e++ {
		var p api.Pitch
		p[i] = e
		s := written(p)
		if e == 0 || len(s) > most {
			continue
		}
		list = append(list, s)
		for _, rest := range shortTexts(i+1, most-len(s)-1) {
			list = append(list, s+"*"+rest)
		}
	}
	return list
}

// TestParseOfAllShortStrings checks that of all strings with few bytes exactly the texts of pitches are read.
func TestParseOfAllShortStrings(t *testing.T) {
	const most = 5
	const alphabet = "0123456789^*-/"
	want := append(shortTexts(0, most), "1")
	var found []string
	level := []string{""}
	for range most {
		var next []string
		for _, s := range level {
			for _, c := range alphabet {
				next = append(next, s+string(c))
			}
		}
		level = next
		for _, s := range level {
			p, e := pitch.Parse(s)
			if e == api.OK {
				found = append(found, s)
				expect(t, fmt.Sprintf("Text of what is parsed of %q", s), text(p), e, s)
			} else {
				refused(t, "Parse of "+s, p, e, api.ErrForm)
			}
		}
	}
	slices.Sort(want)
	slices.Sort(found)
	if !slices.Equal(found, want) {
		t.Errorf("%d strings are read; want %d", len(found), len(want))
	}
}

// spoilt returns s with a byte that is put in, left out or changed, or with two of its parts exchanged.
func spoilt(r *rand.Rand, s string) string {
	const alphabet = "0123456789^*-/ 11223357+x\xff"
	i := r.IntN(len(s))
	c := alphabet[r.IntN(len(alphabet))]
	switch r.IntN(5) {
	case 0:
		return s[:i] + s[i+1:]
	case 1:
		return s[:i] + string([]byte{c}) + s[i:]
	case 2:
		return s[:i] + string([]byte{c}) + s[i+1:]
	case 3:
		return s[i:] + s[:i]
	}
	terms := strings.Split(s, "*")
	k := r.IntN(len(terms))
	terms[0], terms[k] = terms[k], terms[0]
	return strings.Join(terms, "*")
}

// TestParseOfSpoiltTexts checks that what is read at all is the text of what it is read as.
func TestParseOfSpoiltTexts(t *testing.T) {
	r := source()
	for range 200000 {
		s := spoilt(r, text(draw(r, []int{2, 24, part}[r.IntN(3)])))
		p, e := pitch.Parse(s)
		if e == api.OK {
			expect(t, fmt.Sprintf("Text of what is parsed of %q", s), text(p), e, s)
		} else {
			refused(t, fmt.Sprintf("Parse of %q", s), p, e, api.ErrForm)
		}
	}
}
