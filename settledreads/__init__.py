"""Settledreads: settings that are read anew while works run."""
