package probe_test

import (
	"testing"

	"triage/api"
	"triage/hash"
	"triage/probe"
)

// waiting is the configuration by itself with that Interval and Jitter.
func waiting(interval, jitter int) api.Config {
	return changed(func(c *api.Config) { c.Interval, c.Jitter = interval, jitter })
}

func waits(t *testing.T, c api.Config, host, id, want int) {
	t.Helper()
	was := c
	if got := probe.Wait(c, host, id); got != want {
		t.Errorf("Interval %d, Jitter %d: Wait(%d, %d) = %d; want %d", c.Interval, c.Jitter, host, id, got, want)
	}
	if c != was {
		t.Errorf("Wait changed %+v to %+v", was, c)
	}
}

// TestWaitRows: P10.3: numbers worked out apart from the program.
func TestWaitRows(t *testing.T) {
	for _, x := range [][5]int{
		{100, 0, 7, 1, 100},
		{100, 1, 7, 1, 100},
		{100, 1, 7, 2, 101},
		{500, 9, 7, 0, 505},
		{500, 9, 7, 1, 504},
		{500, 9, 7, 2, 503},
		{10, 1000, 7, 1, 742},
		{10000, 1000, 7, 1, 10732},
		{10000, 1000, 1000000, 123456, 10216},
		{10000, 1000, 0, 0, 10348},
		{10000, 1000, -7, 1, 10201},
		{10000, 1000, 7, -1, 10887},
		{10000, 1000, -7, -1, 10794},
		{10000, 999, least, least, 10529},
		{10000, 999, least, greatest, 10907},
		{10000, 999, greatest, least, 10589},
		{10000, 999, greatest, greatest, 10899},
		{10, 1000, 71, 1, 501},
		{10, 1000, 7, 11, 77},
		{10, 1000, 1 << 62, 1, 96},
		{10, 1000, 1, 1 << 62, 631},
		{10, 1000, 1 << 32, -1 << 32, 570},
		// All of the Jitter, and nothing of it.
		{100, 1000, 1, 3, 1100},
		{100, 1000, 3, 89, 1100},
		{10000, 1000, 1, 3, 11000},
		{100, 1000, 4, 29, 100},
		{100, 1000, 4, 238, 100},
	} {
		waits(t, waiting(x[0], x[1]), x[2], x[3], x[4])
	}
}

// digits are hosts, and how they are written.
var digits = map[int]string{
	0: "0", 1: "1", 7: "7", 9: "9", 10: "10", 99: "99", 100: "100", 999999: "999999", 1000000: "1000000",
	-1: "-1", -7: "-7", -10: "-10", -1000000: "-1000000",
	1 << 32: "4294967296", 1 << 62: "4611686018427387904",
	greatest: "9223372036854775807", greatest - 1: "9223372036854775806",
	least: "-9223372036854775808", least + 1: "-9223372036854775807",
}

// TestWaitDigits: P10.3: the text is the host's digits, '#', and the id's, with each Interval and Jitter at its bounds.
func TestWaitDigits(t *testing.T) {
	for _, interval := range []int{10, 11, 100, 9999, 10000} {
		for _, jitter := range []int{0, 1, 2, 9, 255, 256, 999, 1000} {
			c := waiting(interval, jitter)
			for host, h := range digits {
				for id, n := range digits {
					waits(t, c, host, id, interval+int(hash.Text(h+"#"+n)%uint64(jitter+1)))
				}
			}
		}
	}
}

// TestWaitNoJitter: P10.3: without Jitter it is the Interval alone.
func TestWaitNoJitter(t *testing.T) {
	for interval := 10; interval <= 10000; interval += 37 {
		for _, host := range someNumbers {
			for _, id := range someNumbers {
				waits(t, waiting(interval, 0), host, id, interval)
			}
		}
	}
}

// TestWaitSpan: P10.3: from the Interval to the Interval and Jitter, both of them met, and all between.
func TestWaitSpan(t *testing.T) {
	for _, jitter := range []int{1, 2, 9, 100, 1000} {
		c := waiting(300, jitter)
		met := map[int]bool{}
		for id := range 40 * (jitter + 1) {
			w := probe.Wait(c, 12, id)
			if w < 300 || w > 300+jitter {
				t.Fatalf("Jitter %d: %d", jitter, w)
			}
			met[w] = true
		}
		if len(met) != jitter+1 {
			t.Errorf("Jitter %d: only %d are met", jitter, len(met))
		}
	}
}

// TestWaitFields: nothing but Interval and Jitter counts, of what may be.
func TestWaitFields(t *testing.T) {
	c := changed(func(c *api.Config) {
		c.Interval, c.Jitter, c.Timeout, c.Rise, c.Fall, c.Panic, c.Sweep, c.Policy, c.Zone, c.One = 500, 9, 10000, 10, 10, 0, 10, 3, "a", false
	})
	for id := range 200 {
		waits(t, c, 7, id, probe.Wait(waiting(500, 9), 7, id))
	}
}

// TestWaitRefused: a configuration that may not be counts as that by itself: Interval 100, no Jitter.
func TestWaitRefused(t *testing.T) {
	for _, c := range refused() {
		for _, host := range someNumbers {
			for _, id := range someNumbers {
				waits(t, c, host, id, 100)
			}
		}
	}
}
