package tutor

import "tutor/api"

// isConfig: is it a configuration?
func isConfig(c api.Config) bool {
	return within(c.Layers, 1, api.MaxLayers) && hasWidths(c) &&
		within(c.Bend, api.Flat, api.Sigmoid) &&
		within(c.Loss, api.Squares, api.Cross) &&
		within(c.Rule, api.Momentum, api.Adam) &&
		within(c.Plan, api.Even, api.Wave) &&
		within(c.Batch, 1, api.MaxBatch) &&
		within(c.Steps, 0, api.MaxSteps) &&
		within(c.Every, 1, api.MaxSteps) &&
		within(c.Span, 1, api.MaxSteps) &&
		within(c.Warm, 0, c.Steps)
}

// hasWidths: are the widths those of so many layers?
func hasWidths(c api.Config) bool {
	for k, wide := range c.Wide {
		if k <= c.Layers && !within(wide, 1, api.MaxWide) || k > c.Layers && wide != 0 {
			return false
		}
	}
	return true
}

func within(n int, least int, most int) bool { return least <= n && n <= most }

// sampleBytes tells how many bytes a sample of a configuration has.
func sampleBytes(c api.Config) int { return wordBytes * (c.Wide[0] + c.Wide[c.Layers]) }

// isData: are they data for a configuration?
func isData(c api.Config, data string) bool {
	n := sampleBytes(c)
	return len(data)%n == 0 && within(len(data)/n, 1, api.MaxSamples)
}
